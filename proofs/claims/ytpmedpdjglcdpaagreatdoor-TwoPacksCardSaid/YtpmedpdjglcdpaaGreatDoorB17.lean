/- Frames, as values: what is written is read. Plain mathematics of chapter 12. Chapter 20: the body of a log, as plain mathematics. What follows of frames: read as written, told when turned or cut, bounded. Plain mathematics of chapter 12. Ch -/
import Derived.Test.YtpmedpdjglcdpaaGreatDoorB02
import Derived.Test.YtpmedpdjglcdpaaGreatDoorB03
import Derived.Test.YtpmedpdjglcdpaaGreatDoorB04
import Derived.Test.YtpmedpdjglcdpaaGreatDoorB06
import Derived.Test.YtpmedpdjglcdpaaGreatDoorB08
import Derived.Test.YtpmedpdjglcdpaaGreatDoorB12
import Derived.Test.YtpmedpdjglcdpaaGreatDoorB15
import Derived.Test.YtpmedpdjglcdpaaGreatDoorB16
import Derived.OwnWalk
namespace Go.Proofs.YtpmedpdjglcdpaaGreatDoor.Blk
open Num Lz Tok
def squeeze (b:List UInt8):List UInt8:=Bit.pack (vO (toks b 0))
def Xh (b:List UInt8)(plain:Bool):Bool:=!plain && decide ((squeeze b).length<b.length)
def JN (b:List UInt8)(plain:Bool):Nat:=if Xh b plain then 1 else 0
def bodyOf (b:List UInt8)(plain:Bool):List UInt8:=if Xh b plain then squeeze b else b
def zP (b:List UInt8)(plain:Bool):List UInt8:=UInt8.ofNat (JN b plain)::(enc b.length++enc (bodyOf b plain).length)
def frame (b:List UInt8)(plain:Bool):List UInt8:=Crc.put (zP b plain++bodyOf b plain)
def writeF (b:List UInt8)(plain:Bool):List UInt8×Int:=if 32768<b.length then ([],6) else (frame b plain,0)
theorem put_len (l:List UInt8):(Crc.put l).length=l.length+4:=by unfold Crc.put;simp[Crc.tail]
theorem body_le (b:List UInt8)(plain:Bool):(bodyOf b plain).length≤b.length:=by
 unfold bodyOf Xh
 split
 ·rename_i h
  rw[Bool.and_eq_true,decide_eq_true_iff]at h
  omega
 ·exact Nat.le_refl _
end Go.Proofs.YtpmedpdjglcdpaaGreatDoor.Blk
namespace Go.Proofs.YtpmedpdjglcdpaaGreatDoor
namespace Bdy
open Num
def yc (gs:List Nat)(j:Nat):Nat:=(gs.take j).sum
theorem xK {gs:List Nat}{j:Nat}(h:j<gs.length):yc gs (j+1)=yc gs j+gs.getD j 0:=by
 unfold yc
 rw[List.take_succ_eq_append_getElem h,List.sum_append,List.getD_eq_getElem?_getD,List.getElem?_eq_getElem h]
 simp
theorem jw (gs:List Nat):yc gs 0=0:=by simp[yc]
theorem abw (gs:List Nat)(j:Nat):yc gs j≤yc gs (j+1):=by
 by_cases h:j<gs.length
 ·rw[xK h];omega
 ·unfold yc
  rw[List.take_of_length_le (by omega),List.take_of_length_le (by omega)]
  omega
theorem vW (gs:List Nat){i j:Nat}(h:i≤j):yc gs i≤yc gs j:=by
 induction j with
 | zero =>
  obtain rfl:i=0:=by omega
  omega
 | succ j ih =>
  by_cases hi:i=j+1
  ·subst hi;omega
  ·exact Nat.le_trans (ih (by omega)) (abw gs j)
def qQ (plain:Bool)(l:List Rc)(gs:List Nat)(j:Nat):List UInt8:=(Blk.writeF (Rcs.bytesB false ((l.drop (yc gs j)).take (gs.getD j 0))) plain).1
def framesTo (plain:Bool)(l:List Rc)(gs:List Nat)(j:Nat):List (List UInt8):=(List.range j).map (qQ plain l gs)
theorem ZY (plain:Bool)(l:List Rc)(gs:List Nat)(j:Nat):framesTo plain l gs (j+1)=framesTo plain l gs j++[qQ plain l gs j]:=by
 unfold framesTo
 rw[List.range_succ,List.map_append]
 rfl
theorem frames_len (plain:Bool)(l:List Rc)(gs:List Nat)(j:Nat):(framesTo plain l gs j).length=j:=by simp[framesTo]
def yF (gs:List Nat)(j:Nat):List Int:=(List.range j).map fun i=>((yc gs (i+1):Nat):Int)
theorem abx (gs:List Nat)(j:Nat):yF gs (j+1)=yF gs j++[((yc gs (j+1):Nat):Int)]:=by
 unfold yF
 rw[List.range_succ,List.map_append]
 rfl
theorem vw (gs:List Nat)(j:Nat):(yF gs j).length=j:=by simp[yF]
theorem Xi (gs:List Nat){i j:Nat}(h:i<j):(yF gs j).getD i 0=((yc gs (i+1):Nat):Int):=by simp[yF,h]
def longs (ps:List (List UInt8)):List Int:=ps.map fun p=>((p.length:Nat):Int)
theorem vh (ps:List (List UInt8)):(longs ps).length=ps.length:=by simp[longs]
theorem aby (ps:List (List UInt8)){i:Nat}(h:i<ps.length):(longs ps).getD i 0=(((ps.getD i []).length:Nat):Int):=by simp[longs,h]
theorem Q1 (ps:List (List UInt8)){j:Nat}(h:j<ps.length):longs (ps.take (j+1))=longs (ps.take j)++[(((ps.getD j []).length:Nat):Int)]:=by
 unfold longs
 rw[List.take_succ_eq_append_getElem h,List.map_append,List.getD_eq_getElem?_getD,List.getElem?_eq_getElem h]
 rfl
def pairsTo (gs:List Nat)(fs:List (List UInt8))(j:Nat):List UInt8:=(List.range j).flatMap fun i=>enc (gs.getD i 0)++enc (fs.getD i []).length
theorem pairs_next (gs:List Nat)(fs:List (List UInt8))(j:Nat):pairsTo gs fs (j+1)=pairsTo gs fs j++(enc (gs.getD j 0)++enc (fs.getD j []).length):=by
 unfold pairsTo
 rw[List.range_succ,List.flatMap_append]
 simp
theorem Xj (gs:List Nat)(fs ms:List (List UInt8)):∀ {j:Nat},j≤fs.length→pairsTo gs (fs++ms) j=pairsTo gs fs j
 | 0,_=>rfl
 | j+1,h=>by
  rw[pairs_next,pairs_next,Xj gs fs ms (by omega)]
  have e:(fs++ms).getD j []=fs.getD j []:=by rw[List.getD_eq_getElem?_getD,List.getD_eq_getElem?_getD,List.getElem?_append_left (by omega)]
  rw[e]
def dirB (records:Nat)(gs:List Nat)(fs:List (List UInt8))(c x:List UInt8):List UInt8:=enc records++enc gs.length++pairsTo gs fs gs.length++enc c.length++enc x.length
def joinE (records:Nat)(gs:List Nat)(fs:List (List UInt8))(col idx:List UInt8):List UInt8 :=
 fs.flatten++Crc.put col++Crc.put idx++Crc.put (dirB records gs fs (Crc.put col) (Crc.put idx))++fixBytes (Crc.put (dirB records gs fs (Crc.put col) (Crc.put idx))).length 4
def groupsN (b:Int)(l:List Rc):List Nat:=Rcs.groupsE b false l
def makeE (b k:Int)(plain:Bool)(l:List Rc):List UInt8×Int :=
 if Opt.chk 2 b k 0 0 0≠0 then ([],Opt.chk 2 b k 0 0 0) else if Rcs.checkE l≠0 then ([],6) else
  (joinE l.length (groupsN b l) (framesTo plain l (groupsN b l) (groupsN b l).length) (Rcs.columnsE l) (Pst.bytesE k l.length (Pst.buildE l)).1,0)
theorem Xk {size:Int}{whole:Bool}{l:List Rc}:∀ (f i:Nat),l.length-i≤f→(Rcs.groupsAt size whole l i).sum=l.length-i
 | f,i,hf=>by
  by_cases h:i<l.length
  ·obtain⟨h1,h2⟩:=Rcs.groups_step (size:=size) (whole:=whole) h
   have hn:1≤Rcs.groupN size whole l i:=by unfold Rcs.groupN;omega
   rw[h1,List.sum_cons]
   match f,hf with
   | 0,hf=>omega
   | f+1,hf =>
    rw[Xk f (i+Rcs.groupN size whole l i) (by omega)]
    omega
  ·rw[Rcs.groups_end (by omega)]
   simp
   omega
theorem qa (b:Int)(l:List Rc):yc (groupsN b l) (groupsN b l).length=l.length:=by
 have h:=Xk (size:=if b<1 then 1 else b) (whole:=false) (l:=l) l.length 0 (by omega)
 unfold yc
 rw[List.take_length]
 unfold groupsN Rcs.groupsE
 unfold Rcs.groupsAt at h
 simpa using h
theorem ZZ (whole:Bool)(size:Int):∀ (f:Nat) (l:List Rc),(Rcs.groupsF whole size f l).length≤f
 | 0,_=>by simp[Rcs.groupsF]
 | _+1,[]=>by simp[Rcs.groupsF]
 | f+1,r::t=>by
  rw[Rcs.groupsF,List.length_cons]
  have:=ZZ whole size f (t.drop (Rcs.moreG whole size (Rcs.oneB whole r).length t))
  omega
theorem groups_few (b:Int)(l:List Rc):(groupsN b l).length≤l.length:=ZZ _ _ _ _
theorem Z0 (b:Int)(l:List Rc):Rcs.groupsI b false l=(groupsN b l).map fun (n:Nat)=>(n:Int):=rfl
theorem adN (b:Int)(l:List Rc){j:Nat}(h:j≤(groupsN b l).length):yc (groupsN b l) j≤l.length:=by
 have:=vW (groupsN b l) h
 rw[qa]at this
 exact this
theorem UF (b:Int)(l:List Rc){j:Nat}(h:j<(groupsN b l).length):yc (groupsN b l) j+(groupsN b l).getD j 0≤l.length:=by
 rw[← xK h]
 exact adN b l (by omega)
end Bdy
end Go.Proofs.YtpmedpdjglcdpaaGreatDoor
namespace Go.Proofs.YtpmedpdjglcdpaaGreatDoor.Blk
open Num Lz Tok
theorem frame_len (b:List UInt8)(plain:Bool):(frame b plain).length=1+(enc b.length).length+(enc (bodyOf b plain).length).length+(bodyOf b plain).length+4:=by
 unfold frame zP
 rw[put_len]
 simp only[List.length_append,List.length_cons]
 omega
end Go.Proofs.YtpmedpdjglcdpaaGreatDoor.Blk
namespace Go.Proofs.YtpmedpdjglcdpaaGreatDoor
namespace Arc
open Num Rcs
def flagB (plain:Bool):UInt8:=if plain=true then 1 else 0
end Arc
end Go.Proofs.YtpmedpdjglcdpaaGreatDoor
namespace Go.Proofs.YtpmedpdjglcdpaaGreatDoor
open Go.RowKit Arc
theorem X5 (p:Bool)(w:World):Calls Tryz.prog 19 #[.bool p] w fun e w'=>e=.returned (.int .u8 ((flagB p).toNat:Int))∧Ext w w':=by
 cases p
 ·go_enter Tryz.func19,Tryz.ntmps19
  go_wp2
  go_ret
  exact⟨rfl,Ext.refl _⟩
 ·go_enter Tryz.func19,Tryz.ntmps19
  go_wp2
  go_ret
  exact⟨rfl,Ext.refl _⟩
end Go.Proofs.YtpmedpdjglcdpaaGreatDoor
