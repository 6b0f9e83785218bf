/- Frames, as values: what is written is read. Plain mathematics of chapter 12. Chapter 20: the body of a log, as plain mathematics. What follows of frames: read as written, told when turned or cut, bounded. Plain mathematics of chapter 12. Ch -/
import Derived.Test.YtacgkefnlbnckaaGreatDoorB02
import Derived.Test.YtacgkefnlbnckaaGreatDoorB04
import Derived.Test.YtacgkefnlbnckaaGreatDoorB06
import Derived.Test.YtacgkefnlbnckaaGreatDoorB08
import Derived.Test.YtacgkefnlbnckaaGreatDoorB10
import Derived.Test.YtacgkefnlbnckaaGreatDoorB12
import Derived.Test.YtacgkefnlbnckaaGreatDoorB15
import Derived.Test.YtacgkefnlbnckaaGreatDoorB16
import Derived.Test.YtacgkefnlbnckaaGreatDoorB17
import Derived.Test.YtacgkefnlbnckaaGreatDoorB18
import Derived.Test.YtacgkefnlbnckaaGreatDoorB19
import Derived.Test.YtacgkefnlbnckaaGreatDoorB21
import Derived.OwnWalk
import Derived.OpenShut
namespace Go.Proofs.YtacgkefnlbnckaaGreatDoor.Blk
open Num Lz Tok
def squeeze (b:List UInt8):List UInt8:=Bit.pack (writeB (toks b 0))
def useS (b:List UInt8)(plain:Bool):Bool:=!plain && decide ((squeeze b).length < b.length)
def wayOf (b:List UInt8)(plain:Bool):Nat:=if useS b plain then 1 else 0
def bodyOf (b:List UInt8)(plain:Bool):List UInt8:=if useS b plain then squeeze b else b
def headB (b:List UInt8)(plain:Bool):List UInt8:=UInt8.ofNat (wayOf b plain) :: (enc b.length++enc (bodyOf b plain).length)
def frame (b:List UInt8)(plain:Bool):List UInt8:=Crc.put (headB b plain++bodyOf b plain)
def writeF (b:List UInt8)(plain:Bool):List UInt8×Int:=if 32768 < b.length then ([],6) else (frame b plain,0)
theorem put_len (l:List UInt8):(Crc.put l).length=l.length+4:=by unfold Crc.put;simp [Crc.tail]
theorem body_le (b:List UInt8)(plain:Bool):(bodyOf b plain).length≤b.length:=by
 unfold bodyOf useS
 split
 ·rename_i h
  rw [Bool.and_eq_true,decide_eq_true_iff] at h
  omega
 ·exact Nat.le_refl _
end Go.Proofs.YtacgkefnlbnckaaGreatDoor.Blk
namespace Go.Proofs.YtacgkefnlbnckaaGreatDoor
namespace Bdy
open Num
def upTo (gs:List Nat)(j:Nat):Nat:=(gs.take j).sum
theorem upTo_next {gs:List Nat}{j:Nat}(h:j < gs.length):upTo gs (j+1)=upTo gs j+gs.getD j 0:=by
 unfold upTo
 rw [List.take_succ_eq_append_getElem h,List.sum_append,List.getD_eq_getElem?_getD,List.getElem?_eq_getElem h]
 simp
theorem upTo_zero (gs:List Nat):upTo gs 0=0:=by simp [upTo]
theorem upTo_step (gs:List Nat)(j:Nat):upTo gs j≤upTo gs (j+1):=by
 by_cases h:j < gs.length
 ·rw [upTo_next h];omega
 ·unfold upTo
  rw [List.take_of_length_le (by omega),List.take_of_length_le (by omega)]
  omega
theorem upTo_mono (gs:List Nat){i j:Nat}(h:i≤j):upTo gs i≤upTo gs j:=by
 induction j with
 | zero =>
  obtain rfl:i=0:=by omega
  omega
 | succ j ih =>
  by_cases hi:i=j+1
  ·subst hi;omega
  ·exact Nat.le_trans (ih (by omega)) (upTo_step gs j)
def frameAt (plain:Bool)(l:List Rc)(gs:List Nat)(j:Nat):List UInt8:=(Blk.writeF (Rcs.bytesB false ((l.drop (upTo gs j)).take (gs.getD j 0))) plain).1
def framesTo (plain:Bool)(l:List Rc)(gs:List Nat)(j:Nat):List (List UInt8):=(List.range j).map (frameAt plain l gs)
theorem frames_next (plain:Bool)(l:List Rc)(gs:List Nat)(j:Nat):framesTo plain l gs (j+1)=framesTo plain l gs j++[frameAt plain l gs j]:=by
 unfold framesTo
 rw [List.range_succ,List.map_append]
 rfl
theorem frames_len (plain:Bool)(l:List Rc)(gs:List Nat)(j:Nat):(framesTo plain l gs j).length=j:=by simp [framesTo]
def endsTo (gs:List Nat)(j:Nat):List Int:=(List.range j).map fun i=>((upTo gs (i+1):Nat):Int)
theorem ends_next (gs:List Nat)(j:Nat):endsTo gs (j+1)=endsTo gs j++[((upTo gs (j+1):Nat):Int)]:=by
 unfold endsTo
 rw [List.range_succ,List.map_append]
 rfl
theorem ends_len (gs:List Nat)(j:Nat):(endsTo gs j).length=j:=by simp [endsTo]
theorem ends_get (gs:List Nat){i j:Nat}(h:i < j):(endsTo gs j).getD i 0=((upTo gs (i+1):Nat):Int):=by simp [endsTo,h]
def longs (ps:List (List UInt8)):List Int:=ps.map fun p=>((p.length:Nat):Int)
theorem longs_len (ps:List (List UInt8)):(longs ps).length=ps.length:=by simp [longs]
theorem longs_get (ps:List (List UInt8)){i:Nat}(h:i < ps.length):(longs ps).getD i 0=(((ps.getD i []).length:Nat):Int):=by simp [longs,h]
theorem longs_next (ps:List (List UInt8)){j:Nat}(h:j < ps.length):longs (ps.take (j+1))=longs (ps.take j)++[(((ps.getD j []).length:Nat):Int)]:=by
 unfold longs
 rw [List.take_succ_eq_append_getElem h,List.map_append,List.getD_eq_getElem?_getD,List.getElem?_eq_getElem h]
 rfl
def pairsTo (gs:List Nat)(fs:List (List UInt8))(j:Nat):List UInt8:=(List.range j).flatMap fun i=>enc (gs.getD i 0)++enc (fs.getD i []).length
theorem pairs_next (gs:List Nat)(fs:List (List UInt8))(j:Nat):pairsTo gs fs (j+1)=pairsTo gs fs j++(enc (gs.getD j 0)++enc (fs.getD j []).length):=by
 unfold pairsTo
 rw [List.range_succ,List.flatMap_append]
 simp
theorem pairs_more (gs:List Nat)(fs ms:List (List UInt8)):∀ {j:Nat},j≤fs.length→pairsTo gs (fs++ms) j=pairsTo gs fs j
 | 0,_=>rfl
 | j+1,h=>by
  rw [pairs_next,pairs_next,pairs_more gs fs ms (by omega)]
  have e:(fs++ms).getD j []=fs.getD j []:=by rw [List.getD_eq_getElem?_getD,List.getD_eq_getElem?_getD,List.getElem?_append_left (by omega)]
  rw [e]
def dirB (records:Nat)(gs:List Nat)(fs:List (List UInt8))(c x:List UInt8):List UInt8:=enc records++enc gs.length++pairsTo gs fs gs.length++enc c.length++enc x.length
def joinE (records:Nat)(gs:List Nat)(fs:List (List UInt8))(col idx:List UInt8):List UInt8 :=
 fs.flatten++Crc.put col++Crc.put idx++Crc.put (dirB records gs fs (Crc.put col) (Crc.put idx))++fixBytes (Crc.put (dirB records gs fs (Crc.put col) (Crc.put idx))).length 4
def groupsN (b:Int)(l:List Rc):List Nat:=Rcs.groupsE b false l
def makeE (b k:Int)(plain:Bool)(l:List Rc):List UInt8×Int :=
 if Opt.chk 2 b k 0 0 0≠0 then ([],Opt.chk 2 b k 0 0 0) else if Rcs.checkE l≠0 then ([],6) else
  (joinE l.length (groupsN b l) (framesTo plain l (groupsN b l) (groupsN b l).length) (Rcs.columnsE l) (Pst.bytesE k l.length (Pst.buildE l)).1,0)
theorem groups_sum {size:Int}{whole:Bool}{l:List Rc}:∀ (f i:Nat),l.length-i≤f→(Rcs.groupsAt size whole l i).sum=l.length-i
 | f,i,hf=>by
  by_cases h:i < l.length
  ·obtain ⟨h1,h2⟩:=Rcs.groups_step (size:=size) (whole:=whole) h
   have hn:1≤Rcs.groupN size whole l i:=by unfold Rcs.groupN;omega
   rw [h1,List.sum_cons]
   match f,hf with
   | 0,hf=>omega
   | f+1,hf =>
    rw [groups_sum f (i+Rcs.groupN size whole l i) (by omega)]
    omega
  ·rw [Rcs.groups_end (by omega)]
   simp
   omega
theorem groups_all (b:Int)(l:List Rc):upTo (groupsN b l) (groupsN b l).length=l.length:=by
 have h:=groups_sum (size:=if b < 1 then 1 else b) (whole:=false) (l:=l) l.length 0 (by omega)
 unfold upTo
 rw [List.take_length]
 unfold groupsN Rcs.groupsE
 unfold Rcs.groupsAt at h
 simpa using h
theorem groupsF_len (whole:Bool)(size:Int):∀ (f:Nat) (l:List Rc),(Rcs.groupsF whole size f l).length≤f
 | 0,_=>by simp [Rcs.groupsF]
 | _+1,[]=>by simp [Rcs.groupsF]
 | f+1,r :: t=>by
  rw [Rcs.groupsF,List.length_cons]
  have:=groupsF_len whole size f (t.drop (Rcs.moreG whole size (Rcs.oneB whole r).length t))
  omega
theorem groups_few (b:Int)(l:List Rc):(groupsN b l).length≤l.length:=groupsF_len _ _ _ _
theorem groups_ints (b:Int)(l:List Rc):Rcs.groupsI b false l=(groupsN b l).map fun (n:Nat)=>(n:Int):=rfl
theorem upTo_le (b:Int)(l:List Rc){j:Nat}(h:j≤(groupsN b l).length):upTo (groupsN b l) j≤l.length:=by
 have:=upTo_mono (groupsN b l) h
 rw [groups_all] at this
 exact this
theorem part_le (b:Int)(l:List Rc){j:Nat}(h:j < (groupsN b l).length):upTo (groupsN b l) j+(groupsN b l).getD j 0≤l.length:=by
 rw [← upTo_next h]
 exact upTo_le b l (by omega)
end Bdy
end Go.Proofs.YtacgkefnlbnckaaGreatDoor
namespace Go.Proofs.YtacgkefnlbnckaaGreatDoor.Blk
open Num Lz Tok
theorem frame_len (b:List UInt8)(plain:Bool):(frame b plain).length=1+(enc b.length).length+(enc (bodyOf b plain).length).length+(bodyOf b plain).length+4:=by
 unfold frame headB
 rw [put_len]
 simp only [List.length_append,List.length_cons]
 omega
end Go.Proofs.YtacgkefnlbnckaaGreatDoor.Blk
namespace Go.Proofs.YtacgkefnlbnckaaGreatDoor
open Rcs Num
theorem Wrd.words_half:∀ (p:Bool) (l:List UInt8),2*(wordsF p l).length≤l.length+(if p=true then 0 else 1)
 | p,[]=>by simp [wordsF]
 | p,c :: t=>by
  have h:=words_half (isL c) t
  rw [wordsF,List.length_append,List.length_cons]
  cases hc:isL c <;> cases p <;> simp [hc] at h ⊢ <;> omega
namespace Pst
open Wrd
theorem terms_half (r:Rc):2*(termsOf r).length≤r.src.length+r.text.length+2:=by
 have h1:=fold_len ((wordsE r.src).map fun w=>64 :: w) ((wordsE r.text).foldl putT [])
 have h2:=fold_len (wordsE r.text) []
 have h3:=words_half false r.text
 have h4:=words_half false r.src
 unfold termsOf termsE
 unfold wordsE at *
 rw [List.length_map] at h1
 simp only [List.length_nil,Bool.false_eq_true,if_false] at h2 h3 h4
 omega
theorem gatherF_half:∀ (l:List Rc) (out:List (List UInt8)),2*(gatherF out l).length≤2*out.length+Rcs.weightE l
 | [],out=>by simp [gatherF,Rcs.weightE]
 | r :: t,out=>by
  have h1:=gatherF_half t ((termsOf r).foldl putT out)
  have h2:=fold_len (termsOf r) out
  have h3:=terms_half r
  have e:Rcs.weightE (r :: t)=16+r.src.length+r.text.length+Rcs.weightE t:=by unfold Rcs.weightE;simp
  have e2:gatherF out (r :: t)=gatherF ((termsOf r).foldl putT out) t:=rfl
  rw [e,e2]
  omega
theorem gather_half (l:List Rc):2*(gather l).length≤Rcs.weightE l:=by
 have:=gatherF_half l []
 simp only [List.length_nil] at this
 unfold gather
 omega
end Pst
namespace Bdy
theorem bytes_twice (whole:Bool):∀ l:List Rc,(bytesB whole l).length≤2*weightE l
 | []=>by simp [bytesB]
 | r :: t=>by
  have h1:=bytes_twice whole t
  have h2:=one_len whole r
  have e:weightE (r :: t)=16+r.src.length+r.text.length+weightE t:=by unfold weightE;simp
  unfold bytesB at h1 ⊢
  rw [List.flatMap_cons,List.length_append,e]
  omega
theorem weight_app (a b:List Rc):weightE (a++b)=weightE a+weightE b:=by simp [weightE]
theorem weight_part (l:List Rc)(i n:Nat):weightE ((l.drop i).take n)≤weightE l:=by
 have h1:=weight_app (l.take i) (l.drop i)
 have h2:=weight_app ((l.drop i).take n) ((l.drop i).drop n)
 rw [List.take_append_drop] at h1 h2
 omega
theorem write_ok {l:List Rc}(h:weightE l≤1500)(plain:Bool):(Blk.writeF (bytesB false l) plain).2=0∧(Blk.writeF (bytesB false l) plain).1.length≤4000:=by
 have hb:=bytes_twice false l
 have hlt:¬ 32768 < (bytesB false l).length:=by omega
 unfold Blk.writeF
 rw [if_neg hlt]
 refine ⟨rfl,?_⟩
 dsimp only
 rw [Blk.frame_len]
 have h1:=enc_len (bytesB false l).length
 have h2:=enc_len (Blk.bodyOf (bytesB false l) plain).length
 have h3:=Blk.body_le (bytesB false l) plain
 omega
theorem flat_le {k:Nat}:∀ ls:List (List UInt8),(∀ s,s∈ls→s.length≤k)→ls.flatten.length≤k*ls.length
 | [],_=>by simp
 | s :: t,h=>by
  have h1:=h s (by simp)
  have h2:=flat_le t fun s hs=>h s (by simp [hs])
  rw [List.flatten_cons,List.length_append,List.length_cons,Nat.mul_add]
  omega
theorem frame_small {l:List Rc}(h:weightE l≤1500)(plain:Bool)(gs:List Nat)(j:Nat):(frameAt plain l gs j).length≤4000 :=
 (write_ok (Nat.le_trans (weight_part l _ _) h) plain).2
theorem frames_small {l:List Rc}(h:weightE l≤1500)(plain:Bool)(gs:List Nat)(j:Nat):∀ s,s∈framesTo plain l gs j→s.length≤4000:=fun s hs=>by
 obtain ⟨i,_,rfl⟩:=List.mem_map.1 hs
 exact frame_small h plain gs i
theorem len_small {l:List Rc}(h:weightE l≤1500):l.length≤93:=by
 have:=weight_len l
 omega
theorem columns_small {l:List Rc}(h:weightE l≤1500):(columnsE l).length≤2000:=by
 have h1:=times_len l 0
 have h2:=levels_len l none
 have h3:=len_small h
 unfold columnsE
 rw [List.length_append]
 omega
theorem index_facts {l:List Rc}(h:weightE l≤1500):(Pst.buildE l).terms.length≤750∧(Pst.buildE l).lists.length≤750∧(∀ s,s∈(Pst.buildE l).terms→s.length≤25)∧∀ s,s∈(Pst.buildE l).lists→s.length≤93:=by
 have h1:=Pst.gather_half l
 have h3:=len_small h
 refine ⟨by show (Pst.gather l).length≤750;omega,by show ((Pst.gather l).map _).length≤750;rw [List.length_map];omega,fun s hs=>(Pst.term_size hs).2,fun s hs=>?_⟩
 obtain ⟨t,_,rfl⟩:=List.mem_map.1 hs
 have:=Pst.ids_len l t
 omega
theorem index_ok {k:Int}(hk:1≤k∧k≤64){l:List Rc}(h:weightE l≤1500):(Pst.bytesE k l.length (Pst.buildE l)).2=0∧(Pst.bytesE k l.length (Pst.buildE l)).1.length≤200000:=by
 obtain ⟨h1,h2,_,h4⟩:=index_facts h
 have h3:=len_small h
 have hm:=Pst.build_may (l:=l) (by omega) (by omega)
 have hc:¬ (k < 1∨64 < k∨Pst.mayE (l.length:Int) (Pst.buildE l)=false):=by
  rw [hm]
  simp
  omega
 unfold Pst.bytesE
 rw [if_neg hc]
 refine ⟨rfl,?_⟩
 obtain ⟨hb,hl,hd,ho⟩:=Pst.may_facts hm
 obtain ⟨-,d2,-⟩:=Dic.may_facts hd
 have k1:=Dic.dict_small (size:=k.toNat) (by omega) (by omega) (l:=(Pst.buildE l).terms) (fun s hs=>(d2 s hs).2)
 have k2:=Pst.rows_most (bound:=(l.length:Int)) (k:=220) (U:=(Pst.buildE l).lists) (fun s hs=>Pst.row_hundred hb (ho s hs) (by have:=h4 s hs;omega))
 dsimp only
 rw [List.length_append]
 omega
theorem pairs_len (gs:List Nat)(fs:List (List UInt8)):∀ j,(pairsTo gs fs j).length≤20*j
 | 0=>by simp [pairsTo]
 | j+1=>by
  have h1:=pairs_len gs fs j
  have h2:=enc_len (gs.getD j 0)
  have h3:=enc_len (fs.getD j []).length
  rw [pairs_next,List.length_append,List.length_append]
  omega
theorem put_len (l:List UInt8):(Crc.put l).length=l.length+4:=Blk.put_len l
theorem fix_ok {x:Nat}(h:x < 1000000):fixErr x 4=0∧(fixBytes x 4).length=4:=by
 have hc:(1:Int)≤4∧(4:Int)≤8∧x < 256 ^ (4:Int).toNat:=⟨by omega,by omega,Nat.lt_of_lt_of_le h (by decide)⟩
 unfold fixErr fixBytes
 rw [if_pos hc,if_pos hc]
 exact ⟨rfl,by simp [fix]⟩
theorem chk_facts {b k:Int}(h:Opt.chk 2 b k 0 0 0=0):(16≤b∧b≤32768)∧1≤k∧k≤64:=by
 unfold Opt.chk at h
 rw [if_pos (by omega)] at h
 split at h
 ·rename_i hm
  unfold Opt.MayE at hm
  omega
 ·simp at h
end Bdy
end Go.Proofs.YtacgkefnlbnckaaGreatDoor
namespace Go.Proofs.YtacgkefnlbnckaaGreatDoor
open Go.RowKit Bdy
def DirAt (w:World)(g:Nat)(E L:List Int):Prop:=∃ A1 c1 A2 c2,Whole w g 49 #[.slice A1 E.length c1,.slice A2 L.length c2]∧(E.length≤c1∧c1≤maxLen)∧(L.length≤c2∧c2≤maxLen)∧IntsAt w w.heap.size A1 E.length E∧IntsAt w w.heap.size A2 L.length L
theorem DirAt.ext {w w':World}{g:Nat}{E L:List Int}(h:DirAt w g E L)(hE:Ext w w'):DirAt w' g E L:=by
 obtain ⟨A1,c1,A2,c2,hW,h1,h2,h3,h4⟩:=h
 exact ⟨A1,c1,A2,c2,hW.ext hE,h1,h2,h3.later hE,h4.later hE⟩
def Bdy.firstE (E:List Int)(k:Nat):Int:=if k=0 then 0 else E.getD (k-1) 0
theorem IntsAt.cellB {w:World}{B n i:Nat}{A:Option Addr}{L:List Int}(h:IntsAt w B A n L)(hi:i < n):∃ b o,A=some ⟨b,o,none⟩∧w.cell? ⟨b,o+i,none⟩=some (.int .i64 (L.getD i 0))∧b < B:=by
 rcases h.2 with h0 | ⟨b,off,rfl,hb,hc⟩
 ·omega
 ·exact ⟨b,off,rfl,hc i hi,hb⟩
set_option maxHeartbeats 1000000 in
set_option maxRecDepth 100000 in
theorem dFirst_any {w:World}{g:Nat}{E L:List Int}(h:DirAt w g E L)(k:Nat)(hk:k≤E.length)(hm:E.length≤1000000) :
  Calls Tryz.prog 104 #[.pointer (some ⟨g,0,none⟩),.int .i64 (k:Int)] w fun e w'=>e=.returned (.int .i64 (firstE E k))∧w=w':=by
 obtain ⟨A1,c1,A2,c2,hW,-,-,hI,-⟩:=h
 have s0:=hW.at 0 (u:=.slice A1 E.length c1) rfl
 rcases Nat.eq_zero_or_pos k with rfl | hp
 ·clear hI hW hk hm
  go_enter Tryz.func104,Tryz.ntmps104
  go_wp2
  go_ret
  exact ⟨rfl,rfl⟩
 ·obtain ⟨j,hj⟩:∃ j,j=k-1:=⟨_,rfl⟩
  obtain ⟨b,off,rfl,hc,-⟩:=hI.cellB (i:=j) (by omega)
  have hv:firstE E k=E.getD j 0:=by unfold firstE;rw [if_neg (by omega),hj]
  rw [hv]
  have hjk:(k:Int)-1=(j:Int):=by omega
  have hk0:((k:Int) == 0)=false:=by rw [beq_eq_false_iff_ne];omega
  have hk1:¬ (k:Int)=0:=by omega
  have hjn:j < E.length:=by omega
  have hk9:(k:Int)≤1000000:=by omega
  generalize E.getD j 0=x at *
  generalize E.length=n at *
  clear hW hI hj hp hv hk hm
  go_enter Tryz.func104,Tryz.ntmps104
  go_wp2
  go_ret
  exact ⟨rfl,rfl⟩
set_option maxHeartbeats 1000000 in
set_option maxRecDepth 100000 in
theorem dRecords_any {w:World}{g:Nat}{E L:List Int}(h:DirAt w g E L)(hm:E.length≤1000000) :
  Calls Tryz.prog 70 #[.pointer (some ⟨g,0,none⟩)] w fun e w'=>e=.returned (.int .i64 (firstE E E.length))∧w=w':=by
 have C:=dFirst_any h E.length (Nat.le_refl _) hm
 obtain ⟨A1,c1,A2,c2,hW,-,-,hI,-⟩:=h
 have s0:=hW.at 0 (u:=.slice A1 E.length c1) rfl
 generalize firstE E E.length=x at *
 generalize E.length=n at *
 clear hW hI
 go_enter Tryz.func70,Tryz.ntmps70
 go_wp2_with fail
 refine C.mono ?_
 rintro e w2 ⟨rfl,rfl⟩
 go_wp2
 go_ret
 exact ⟨rfl,rfl⟩
set_option maxHeartbeats 1000000 in
set_option maxRecDepth 100000 in
theorem dCount_any {w:World}{g:Nat}{E L:List Int}(h:DirAt w g E L)(k:Nat)(hk:k < E.length)(hm:E.length≤1000000)(h1:-1000000≤firstE E k∧firstE E k≤1000000)(h2:-1000000≤E.getD k 0∧E.getD k 0≤1000000) :
  Calls Tryz.prog 105 #[.pointer (some ⟨g,0,none⟩),.int .i64 (k:Int)] w fun e w'=>e=.returned (.int .i64 (E.getD k 0-firstE E k))∧Ext w w':=by
 have C:=fun W (hE:Ext w W)=>dFirst_any (h.ext hE) k (by omega) hm
 obtain ⟨A1,c1,A2,c2,hW,-,-,hI,-⟩:=h
 obtain ⟨b,off,rfl,hc,hlt⟩:=hI.cellB (i:=k) hk
 have HW:=hide hW
 have HC:=hide (show ∀ W,Ext w W→W.cell? ⟨b,off+k,none⟩=some (.int .i64 (E.getD k 0)) from fun W hE=>(hE.cell hlt).trans hc)
 generalize firstE E k=x at *
 generalize E.getD k 0=y at *
 have HWr:=hide (show IntKind.i64.wrap (y-x)=y-x by rw [IntKind.wrap_i64];omega)
 generalize E.length=n at *
 clear hW hI hc h1 h2
 go_enter Tryz.func105,Tryz.ntmps105
 go_wp2_with fail
 refine wp_region_T (fun W=>Ext w W) 10 12 #[false,false,false,false,false,false,false,false,false,false,false,false] (by kernel_rfl) rfl rfl (Ext.refl w).drew ?_
 intro hS0
 refine wpAnyT_take 0 (some 5) (.pointer (some ⟨g,0,none⟩)) _ rfl rfl rfl (by kernel_rfl) (fun _ _ _ h=>h) hS0 (by rfl) (fun W hX=>by have s0:=(HW.out.ext hX).at 0 (u:=.slice (some ⟨b,off,none⟩) n c1) rfl;have s1:=HC.out W hX;go_simp) ?_
 simp only [sP]
 refine wpAnyT_take 1 (some 6) (.pointer (some ⟨g,0,none⟩)) _ rfl rfl rfl (by kernel_rfl) (fun _ _ _ h=>h) hS0 (by rfl) (fun W hX=>by have s0:=(HW.out.ext hX).at 0 (u:=.slice (some ⟨b,off,none⟩) n c1) rfl;have s1:=HC.out W hX;go_simp) ?_
 simp only [sP]
 refine wpAnyT_take 2 (some 7) (.pointer (some ⟨g,0,none⟩)) _ rfl rfl rfl (by kernel_rfl) (fun _ _ _ h=>h) hS0 (by rfl) (fun W hX=>by have s0:=(HW.out.ext hX).at 0 (u:=.slice (some ⟨b,off,none⟩) n c1) rfl;have s1:=HC.out W hX;go_simp) ?_
 simp only [sP]
 refine wpAnyT_take 3 (some 8) (.slice (some ⟨b,off,none⟩) n c1) _ rfl rfl rfl (by kernel_rfl) (fun _ _ _ h=>h) hS0 (by rfl) (fun W hX=>by have s0:=(HW.out.ext hX).at 0 (u:=.slice (some ⟨b,off,none⟩) n c1) rfl;have s1:=HC.out W hX;go_simp) ?_
 simp only [sP]
 refine wpAnyT_take 4 (some 9) (.int .i64 (k:Int)) _ rfl rfl rfl (by kernel_rfl) (fun _ _ _ h=>h) hS0 (by rfl) (fun W hX=>by have s0:=(HW.out.ext hX).at 0 (u:=.slice (some ⟨b,off,none⟩) n c1) rfl;have s1:=HC.out W hX;go_simp) ?_
 simp only [sP]
 refine wpAnyT_take 5 (some 10) (.pointer (some ⟨b,off+k,none⟩)) _ rfl rfl rfl (by kernel_rfl) (fun _ _ _ h=>h) hS0 (by rfl) (fun W hX=>by have s0:=(HW.out.ext hX).at 0 (u:=.slice (some ⟨b,off,none⟩) n c1) rfl;have s1:=HC.out W hX;go_simp) ?_
 simp only [sP]
 refine wpAnyT_take 6 (some 11) (.int .i64 y) _ rfl rfl rfl (by kernel_rfl) (fun _ _ _ h=>h) hS0 (by rfl) (fun W hX=>by have s0:=(HW.out.ext hX).at 0 (u:=.slice (some ⟨b,off,none⟩) n c1) rfl;have s1:=HC.out W hX;go_simp) ?_
 simp only [sP]
 refine wpAnyT_take 7 (some 12) (.pointer (some ⟨g,0,none⟩)) _ rfl rfl rfl (by kernel_rfl) (fun _ _ _ h=>h) hS0 (by rfl) (fun W hX=>by have s0:=(HW.out.ext hX).at 0 (u:=.slice (some ⟨b,off,none⟩) n c1) rfl;have s1:=HC.out W hX;go_simp) ?_
 simp only [sP]
 refine wpAnyT_take 8 (some 13) (.int .i64 (k:Int)) _ rfl rfl rfl (by kernel_rfl) (fun _ _ _ h=>h) hS0 (by rfl) (fun W hX=>by have s0:=(HW.out.ext hX).at 0 (u:=.slice (some ⟨b,off,none⟩) n c1) rfl;have s1:=HC.out W hX;go_simp) ?_
 simp only [sP]
 refine wpAnyT_only 9 _ (by kernel_rfl) rfl rfl (by rfl) (fun K0 hK0=>?_)
 go_simp
 go_at_call 104
 refine (C _ hS0).mono ?_
 rintro e w2 ⟨rfl,rfl⟩
 refine hK0 _ _ (fun _=>hS0) ?_
 clear hK0 K0
 refine wpAnyT_only 10 _ (by kernel_rfl) rfl rfl (by rfl) (fun K1 hK1=>?_)
 go_simp
 rw [HWr.out]
 refine hK1 _ _ (fun h=>absurd h (by decide)) ?_
 clear hK1 K1
 refine wpAnyT_only 11 _ (by kernel_rfl) rfl rfl (by rfl) (fun K2 hK2=>?_)
 go_simp
 refine hK2 _ _ (fun h=>absurd h (by decide)) (wpAnyT_done (by kernel_rfl) ?_ _)
 clear hK2 K2
 go_wp2
 go_ret
 exact ⟨rfl,hS0⟩
end Go.Proofs.YtacgkefnlbnckaaGreatDoor
namespace Go.Proofs.YtacgkefnlbnckaaGreatDoor
open Go.RowKit Lz Tok
set_option maxHeartbeats 1000000 in
theorem isMatch_any (p:PcV)(w:World):Calls Tryz.prog 143 #[pcV p] w fun e w'=>e=.returned (.bool (decide (257≤p.sym)))∧Ext w w':=by
 have hE:=extNew w (.cells #[.int .i64 p.sym,.int .i64 p.len,.int .i64 p.dist,.int .i64 p.far] 148)
 have c0:=(Whole.new w 148 #[.int .i64 p.sym,.int .i64 p.len,.int .i64 p.dist,.int .i64 p.far]).at 0 (u:=.int .i64 p.sym) rfl
 unfold pcV
 go_enter Tryz.func143,Tryz.ntmps143
 go_wp2
 go_ret
 exact ⟨rfl,hE⟩
set_option maxHeartbeats 1000000 in
theorem lenBits_any (p:PcV)(w:World)(h0:257≤p.sym)(h1:p.sym≤9223372036854775807):Calls Tryz.prog 149 #[pcV p] w fun e w'=>e=.returned (.int .i64 (p.sym-257))∧Ext w w':=by
 have hE:=extNew w (.cells #[.int .i64 p.sym,.int .i64 p.len,.int .i64 p.dist,.int .i64 p.far] 148)
 have c0:=(Whole.new w 148 #[.int .i64 p.sym,.int .i64 p.len,.int .i64 p.dist,.int .i64 p.far]).at 0 (u:=.int .i64 p.sym) rfl
 unfold pcV
 go_enter Tryz.func149,Tryz.ntmps149
 go_wp2
 go_ret
 exact ⟨rfl,hE⟩
set_option maxHeartbeats 2000000 in
set_option maxRecDepth 100000 in
theorem tsplit_any (t:TokV)(w:World):Calls Tryz.prog 116 #[tokV t] w (SplitTo w (splitE t)):=by
 have hE1:=(extNew w (.cells #[.int .u8 (t.lit.toNat:Int),.int .i64 t.len,.int .i64 t.dist] 152)).alloc (.cells #[.int .i64 0,.int .i64 0,.int .i64 0,.int .i64 0] 148)
 have hW1:=(Whole.new w 152 #[.int .u8 (t.lit.toNat:Int),.int .i64 t.len,.int .i64 t.dist]).alloc (.cells #[.int .i64 0,.int .i64 0,.int .i64 0,.int .i64 0] 148)
 have hP1:=Whole.new (w.alloc (.cells #[.int .u8 (t.lit.toNat:Int),.int .i64 t.len,.int .i64 t.dist] 152)) 148 #[.int .i64 0,.int .i64 0,.int .i64 0,.int .i64 0]
 rw [World.size_alloc] at hP1
 have CM:=fun W=>lzMay_any t W
 unfold tokV at CM ⊢
 cases hm:may t with
 | false =>
  rw [hm] at CM
  have HN:=hide (split_bad hm)
  generalize splitE t=res at *
  clear hm
  generalize t.lit.toNat=y at *
  generalize t.len=tn at *
  generalize t.dist=td at *
  go_enter Tryz.func116,Tryz.ntmps116
  go_wp2_with (refine wpList_load_row rfl 152 (.tmp 1) rfl _ rfl _ _ _ _ hW1 Tryz.underlying152 rfl tk_info ?_)
  refine (CM _).mono ?_
  rintro e w2 ⟨rfl,hE2⟩
  have hP2:=hP1.ext hE2
  clear CM
  go_wp2_with (refine wpList_storeW rfl 148 (.tmp 2) (.tmp 12) rfl rfl rfl hP2 rfl pc_info (pc_one ..) ?_;intro w5 hW5 hG5 _)
  refine bodyPost_ret (results_row2 rfl _ rfl rfl (run_loadVar_row _ _ _ _ _ _ _ hW5 Tryz.underlying148 rfl pc_info)) rfl ?_
  have hE:=hE1.trans hE2
  rw [HN.out]
  exact ⟨rfl,Below.grown hE hG5 hE.le (fun k hk=>by cases hk;omega)⟩
 | true =>
  rw [hm] at CM
  have hwp:=hP1.lt
  by_cases h0:t.len=0
  ·have HN:=hide (split_lit hm h0)
   generalize splitE t=res at *
   rw [h0] at CM hE1 hW1 hP1 ⊢
   clear hm h0
   have h8:=UInt8.toNat_lt t.lit
   generalize t.lit.toNat=y at *
   generalize t.dist=td at *
   go_enter Tryz.func116,Tryz.ntmps116
   go_wp2_with (refine wpList_load_row rfl 152 (.tmp 1) rfl _ rfl _ _ _ _ hW1 Tryz.underlying152 rfl tk_info ?_)
   refine (CM _).mono ?_
   rintro e w2 ⟨rfl,hE2⟩
   have hP2:=hP1.ext hE2
   have hW2:=hW1.ext hE2
   have c0:=hW2.at 0 (u:=.int .u8 (y:Int)) rfl
   have c1:=hW2.at 1 (u:=.int .i64 0) rfl
   clear CM
   go_wp2_with (refine wpList_storeW rfl 148 (.tmp 2) (.tmp 20) rfl rfl rfl hP2 rfl pc_info (pc_one ..) ?_;intro w5 hW5 hG5 _)
   refine bodyPost_ret (results_row2 rfl _ rfl rfl (run_loadVar_row _ _ _ _ _ _ _ hW5 Tryz.underlying148 rfl pc_info)) rfl ?_
   have hE:=hE1.trans hE2
   rw [HN.out]
   exact ⟨rfl,Below.grown hE hG5 hE.le (fun k hk=>by cases hk;omega)⟩
  ·obtain ⟨_,m1,m2,m3,m4⟩:=may_facts hm h0
   obtain ⟨v,hv⟩:=Int.eq_ofNat_of_zero_le (show 0≤t.len-2 by omega)
   obtain ⟨d,hd⟩:=Int.eq_ofNat_of_zero_le (show 0≤t.dist by omega)
   have hlv:t.len=(v:Int)+2:=by omega
   have HN:=hide (show splitE t=(⟨257+(Nat.log2 v:Nat),(v-2 ^ Nat.log2 v:Nat),(Nat.log2 d:Nat),(d-2 ^ Nat.log2 d:Nat)⟩,0) by
    unfold splitE
    rw [if_neg (by rw [hm];simp),if_neg h0,hv,hd,Int.toNat_natCast,Int.toNat_natCast])
   have C1:=fun W=>halve_any v W (by omega) (by omega)
   have C2:=fun W=>halve_any d W (by omega) (by omega)
   have b1:Nat.log2 v < 8:=log_lt (by omega) (by omega)
   have b2:Nat.log2 d < 12:=log_lt (by omega) (by omega)
   generalize splitE t=res at *
   rw [hlv,hd] at CM hE1 hW1 hP1 ⊢
   have hv8:v≤255:=by omega
   have hd4:d≤4095:=by omega
   clear hm h0 m1 m2 m3 m4 hv hd hlv
   generalize t.lit.toNat=y at *
   generalize v-2 ^ Nat.log2 v=x1 at *
   generalize d-2 ^ Nat.log2 d=x2 at *
   generalize Nat.log2 v=l1 at *
   generalize Nat.log2 d=l2 at *
   have hlb:(((v:Int)+2) == 0)=false:=by rw [beq_eq_false_iff_ne];omega
   go_enter Tryz.func116,Tryz.ntmps116
   go_wp2_with (refine wpList_load_row rfl 152 (.tmp 1) rfl _ rfl _ _ _ _ hW1 Tryz.underlying152 rfl tk_info ?_)
   refine (CM _).mono ?_
   rintro e w2 ⟨rfl,hE2⟩
   have hP2:=hP1.ext hE2
   have hW2:=hW1.ext hE2
   have c1:=hW2.at 1 (u:=.int .i64 ((v:Int)+2)) rfl
   clear CM
   go_wp2_with fail
   have hv2:(v:Int)+2-2=(v:Int):=by omega
   try rw [hv2]
   refine (C1 _).mono ?_
   rintro e w3 ⟨rfl,hE3⟩
   have hP3:=hP2.ext hE3
   have hW3:=hW2.ext hE3
   have c2:=hW3.at 2 (u:=.int .i64 (d:Int)) rfl
   clear C1
   go_wp2_with fail
   refine (C2 _).mono ?_
   rintro e w4 ⟨rfl,hE4⟩
   have hP4:=hP3.ext hE4
   have hE:=((hE1.trans hE2).trans hE3).trans hE4
   clear C2
   go_wp2_with (refine wpList_storeW rfl 148 (.tmp 2) (.tmp 39) rfl rfl rfl hP4 rfl pc_info (pc_one ..) ?_;intro w5 hW5 hG5 _)
   refine bodyPost_ret (results_row2 rfl _ rfl rfl (run_loadVar_row _ _ _ _ _ _ _ hW5 Tryz.underlying148 rfl pc_info)) rfl ?_
   rw [HN.out]
   exact ⟨rfl,Below.grown hE hG5 hE.le (fun k hk=>by cases hk;omega)⟩
end Go.Proofs.YtacgkefnlbnckaaGreatDoor
