/- Rows of the program's items, in the call's own memory and as they are read; appends; parts of rows. -/
import Derived.Test.YtaogpmombefmmaaGreatDoorB06
import Derived.Test.YtaogpmombefmmaaGreatDoorB07
import Derived.Maps.AppendAt
import Derived.OwnWalkIn
namespace Go.Proofs.YtaogpmombefmmaaGreatDoor
section
open Go.RowKit Len
def pC (x:PI):List Value:=[.int .u64 (x.1:Int),.int .i64 (x.2:Int)]
theorem pitem_info:(Tryz.prog.info? 157).map (fun i=>(i.zero,i.size,i.bytes))=some (some (.agg #[.int .u64 0,.int .i64 0]),2,16):=by kernel_rfl
theorem pC_len:∀ L:List PI,(L.flatMap pC).length=L.length*2
 | []=>rfl
 | y :: Y=>by rw [List.flatMap_cons,List.length_append,pC_len Y];simp [pC];omega
theorem pC_get:∀ (Y:List PI) (i j:Nat),i < Y.length→j < 2→(Y.flatMap pC)[i*2+j]?=(pC (Y.getD i (0,0)))[j]?
 | y :: Y,0,j,_,hj=>by
  rw [List.flatMap_cons,Nat.zero_mul,Nat.zero_add,List.getElem?_append_left (by simp [pC];omega)]
  rfl
 | y :: Y,i+1,j,h,hj=>by
  rw [List.flatMap_cons,List.getElem?_append_right (by simp [pC];omega)]
  have:=pC_get Y i j (by simpa using h) hj
  rw [show (i+1)*2+j-(pC y).length=i*2+j by simp [pC];omega,this]
  simp
def OwnPI (w:World)(base:Nat)(v:Value)(L:List PI):Prop:=w.ownsRow base 157 2 v L.length (L.flatMap pC)
def PIAt (w:World)(B:Nat)(A:Option Addr)(n:Nat)(L:List PI):Prop :=
 L.length=n∧(n=0∨∃ b off,A=some ⟨b,off,none⟩∧b < B∧∀ i,i < n→w.cell? ⟨b,off+i*2,none⟩=some (.int .u64 ((L.getD i (0,0)).1:Int))∧w.cell? ⟨b,off+i*2+1,none⟩=some (.int .i64 ((L.getD i (0,0)).2:Int)))
section
variable {w w':World}{base B:Nat}{v:Value}{L M:List PI}{A:Option Addr}{n:Nat}
theorem PIAt.ext (h:PIAt w w.heap.size A n L)(hE:Ext w w'):PIAt w' w'.heap.size A n L:=by
 refine ⟨h.1,h.2.imp_right fun ⟨b,off,e,hb,hc⟩=>⟨b,off,e,Nat.lt_of_lt_of_le hb hE.le,fun i hi=>?_⟩⟩
 obtain ⟨k1,k2⟩:=hc i hi
 exact ⟨(hE.cell hb).trans k1,(hE.cell hb).trans k2⟩
theorem PIAt.take {k:Nat}(h:PIAt w B A n L)(hk:k≤n):PIAt w B A k (L.take k):=by
 refine ⟨by rw [List.length_take,h.1];omega,?_⟩
 rcases h.2 with h0 | ⟨b,off,e,hb,hc⟩
 ·exact .inl (by omega)
 ·refine .inr ⟨b,off,e,hb,fun i hi=>?_⟩
  have e2:(L.take k).getD i (0,0)=L.getD i (0,0):=by simp [List.getD_eq_getElem?_getD,hi]
  rw [e2]
  exact hc i (by omega)
theorem PIAt.drop {k c:Nat}(h:PIAt w B A n L)(hk:k≤n)(hc:n≤c):PIAt w B (cutAt A (c*2) (k*2)) (n-k) (L.drop k):=by
 refine ⟨by rw [List.length_drop,h.1],?_⟩
 by_cases hkn:k=n
 ·exact .inl (by omega)
 rcases h.2 with h0 | ⟨b,off,rfl,hb,hcell⟩
 ·exact .inl (by omega)
 ·refine .inr ⟨b,off+k*2,by simp [cutAt,show ¬ c*2=k*2 by omega,Addr.add],hb,fun i hi=>?_⟩
  have e2:(L.drop k).getD i (0,0)=L.getD (k+i) (0,0):=by simp [List.getD_eq_getElem?_getD]
  rw [e2,show off+k*2+i*2=off+(k+i)*2 by omega]
  exact hcell (k+i) (by omega)
theorem OwnPI.nil (w:World)(base:Nat):OwnPI w base (.slice none 0 0) []:=World.ownsRow_nil w base _ _
theorem OwnPI.ext (h:OwnPI w base v L)(hE:Ext w w'):OwnPI w' base v L:=World.ownsRow.kept h (hE.grown none) (by cases hv:v.ownBlock <;> simp)
theorem OwnPI.kept {row:Option Nat}(h:OwnPI w base v L)(hg:w.grownBy w' row)(hne:v.ownBlock=none∨v.ownBlock≠row):OwnPI w' base v L:=World.ownsRow.kept h hg hne
theorem OwnPI.mono {b':Nat}(h:OwnPI w base v L)(hb:b'≤base):OwnPI w b' v L:=⟨h.1,h.2.elim Or.inl fun ⟨g,cap,cur,hv,hg,r⟩=>Or.inr ⟨g,cap,cur,hv,Nat.le_trans hb hg,r⟩⟩
theorem OwnPI.lt (h:OwnPI w base v L):∀ k,v.ownBlock=some k→base≤k∧k < w.heap.size:=World.ownsRow.lt h
theorem OwnPI.form (h:OwnPI w base v L):∃ A c,v=.slice A L.length c∧L.length≤c∧c≤maxLen∧PIAt w w.heap.size A L.length L:=by
 rcases h.2 with ⟨rfl,h0⟩ | ⟨g,cap,cur,rfl,hb,hgg,hn,hc,hs,ht⟩
 ·exact ⟨none,0,by rw [h0],by omega,by unfold maxLen;omega,rfl,.inl h0⟩
 ·refine ⟨_,cap,rfl,hn,hc,rfl,.inr ⟨g,0,rfl,(Array.getElem?_eq_some_iff.1 hgg).1,fun i hi=>?_⟩⟩
  have hcell:∀ j,j < 2→w.cell? ⟨g,i*2+j,none⟩=(pC (L.getD i (0,0)))[j]?:=fun j hj=>by
   rw [cell_of_row w g (i*2+j) cur _ _ hgg,← pC_get L i j hi hj,← ht,List.getElem?_take,if_pos (by omega)]
   simp
  rw [Nat.zero_add]
  exact ⟨(hcell 0 (by omega)).trans (by simp [pC]),(hcell 1 (by omega)).trans (by simp [pC])⟩
theorem PIAt.one (w:World)(x:PI):PIAt (w.alloc (.cells #[.int .u64 (x.1:Int),.int .i64 (x.2:Int)] 157)) (w.alloc (.cells #[.int .u64 (x.1:Int),.int .i64 (x.2:Int)] 157)).heap.size (some ⟨w.heap.size,0,none⟩) 1 [x]:=by
 refine ⟨rfl,.inr ⟨w.heap.size,0,rfl,by simp,fun i hi=>?_⟩⟩
 obtain rfl:i=0:=by omega
 exact ⟨cellNew w _ _ _ 0,cellNew w _ _ _ 1⟩
end
theorem run_appPI_zero (w:World)(ty:TypeId)(base:Nat)(v:Value)(L:List PI)(hown:OwnPI w base v L)(A:Option Addr)(c:Nat) :
  (Builtin.append_ #[162,162] ty #[v,.slice A 0 c]).run Tryz.prog w=.ok v w:=by
 obtain ⟨i,hi,_,_,_⟩:=info_parts pitem_info
 rcases hown.2 with ⟨rfl,_⟩ | ⟨g,cap,cur,rfl,_,_,hnc,_⟩
 ·cases A <;> simp [Builtin.append_,run_underlying Tryz.underlying162,sizeOf,typeInfo,hi,Builtin.lenOf,Builtin.firstCells,loadCells,loadCellsFrom]
 ·cases A <;> simp [Builtin.append_,run_underlying Tryz.underlying162,sizeOf,typeInfo,hi,Builtin.lenOf,Builtin.firstCells,loadCells,loadCellsFrom,hnc,storeCells]
theorem run_appPI {w:World}(ty:TypeId){base:Nat}{v:Value}{L M:List PI}(hown:OwnPI w base v L){S:Option Addr}{m:Nat}(c:Nat){B:Nat}(hsrc:PIAt w B S m M)(hlen:L.length≤100000)(hm:m≤100000)(hbase:base≤w.heap.size) :
  ∃ v' w',(Builtin.append_ #[162,162] ty #[v,.slice S m c]).run Tryz.prog w=.ok v' w'∧OwnPI w' base v' (L++M)∧w.grownBy w' v.ownBlock∧(v'.ownBlock=v.ownBlock∨v'.ownBlock=some w.heap.size):=by
 obtain ⟨hl2,hcs⟩:=hsrc
 rcases hcs with rfl | ⟨g,off,rfl,_,hc⟩
 ·obtain rfl:=List.eq_nil_of_length_eq_zero hl2
  exact ⟨v,w,run_appPI_zero w ty base v L hown S c,by rw [List.append_nil];exact hown,World.grownBy.refl w _,.inl rfl⟩
 ·obtain ⟨i,hi,hz,hsz,hby⟩:=info_parts pitem_info
  obtain ⟨v',w',hr,h2,h3,_,h5⟩:=run_append_own_at (P:=Tryz.prog) w base 162 ty 157 i _ 2 16 Tryz.underlying162 hi hz hsz hby rfl (by omega) v L.length (L.flatMap pC) hown ⟨g,off,none⟩ m c (M.flatMap pC) (by rw [pC_len,hl2]) (by
   intro j u hu
   have hj:j < m*2:=by
    have:=(List.getElem?_eq_some_iff.1 hu).1
    rw [pC_len,hl2] at this
    exact this
   rw [show (⟨g,off,none⟩:Addr).add j=⟨g,off+j,none⟩ by unfold Addr.add;split <;> simp_all]
   obtain ⟨k1,k2⟩:=hc (j / 2) (by omega)
   have hd:j=j / 2*2+j % 2:=by omega
   rw [hd,pC_get M (j / 2) (j % 2) (by omega) (by omega)] at hu
   rcases (show j % 2=0∨j % 2=1 by omega) with e | e
   ·rw [e] at hu
    rw [show off+j=off+j / 2*2 by omega,k1]
    simpa [pC] using hu
   ·rw [e] at hu
    rw [show off+j=off+j / 2*2+1 by omega,k2]
    simpa [pC] using hu) (by
   intro u hu
   obtain ⟨y,hy,hu2⟩:=List.mem_flatMap.1 hu
   simp only [pC,List.mem_cons,List.not_mem_nil,or_false] at hu2
   rcases hu2 with rfl | rfl <;> rfl) (by unfold maxLen;omega) (by omega) hbase
  refine ⟨v',w',hr,?_,h3,h5⟩
  unfold OwnPI
  rw [List.length_append,List.flatMap_append,hl2]
  exact h2
section
variable {o:Oper}{a:Act}{Q:Exit→Act→World→Prop}{w:World}{base B:Nat}{v:Value}{L M:List PI}
theorem wp_appPI {K:Act→World→Prop}(s x:Operand)(ho:o.op=.call { callee:=.builtin .append,args:=#[s,x],argTypes:=#[162,162] })(hs:a.eval s=v)
  (hown:OwnPI w base v L) {S:Option Addr} {m c:Nat} (hx:a.eval x=.slice S m c) (hsrc:PIAt w B S m M) (hlen:L.length≤100000) (hm:m≤100000) (hbase:base≤w.heap.size)
  (h:∀ v' w',OwnPI w' base v' (L++M)→w.grownBy w' v.ownBlock→(v'.ownBlock=v.ownBlock∨v'.ownBlock=some w.heap.size)→K (a.put o.dst v') w'):o.wp Tryz.prog a w K Q:=by
 obtain ⟨v',w',hr,h2,h3,h4⟩:=run_appPI o.type hown c hsrc hlen hm hbase
 unfold Oper.wp execOp
 simp only [ho,resolve,invoke,builtin,Sem.run_bind,Sem.run_pure,Result.andThen_ok,List.map_toArray,List.map_cons,List.map_nil,hs,hx,hr]
 exact h v' w' h2 h3 h4
theorem wpList_appPI {ops:Array Oper}{rest:List Oper}(hgd:o.guard=none)(s x:Operand)(ho:o.op=.call { callee:=.builtin .append,args:=#[s,x],argTypes:=#[162,162] })(hs:a.eval s=v)
  (hown:OwnPI w base v L) {S:Option Addr} {m c:Nat} (hx:a.eval x=.slice S m c) (hsrc:PIAt w B S m M) (hlen:L.length≤100000) (hm:m≤100000) (hbase:base≤w.heap.size)
  (h:∀ v' w',OwnPI w' base v' (L++M)→w.grownBy w' v.ownBlock→(v'.ownBlock=v.ownBlock∨v'.ownBlock=some w.heap.size)→wpList Tryz.prog ops Q rest (a.put o.dst v') w'):wpList Tryz.prog ops Q (o :: rest) a w :=
 wpList_plain hgd fun _ hK=>wp_appPI s x ho hs hown hx hsrc hlen hm hbase fun v' w' h2 h3 h4=>hK _ _ (h v' w' h2 h3 h4)
end
theorem run_headP (W:World)(a:Option Addr)(n c:Nat)(k:IntKind)(h:Int)(h0:0≤h)(h1:h≤c) :
  (Instr.slice 162 (.slice a n c) none (some (.int k h)) none).run Tryz.prog W=.ok (.slice (cutAt a (c*2) (0*2)) h.toNat c) W:=by
 rw [run_slice_h (P:=Tryz.prog) (w:=W) 162 a n c (by kernel_rfl) k h h0 h1]
 have hs:(sizeOf (Tryz.prog.elem 162)).run Tryz.prog W=.ok 2 W:=by kernel_rfl
 rw [hs]
 have e:(c*2=0*2)=(c=0):=propext ⟨fun h=>by omega,fun h=>by omega⟩
 simp only [Result.andThen,sliced,cutAt,e,Nat.sub_zero]
theorem run_cutP (W:World)(a:Option Addr)(n c:Nat)(k:IntKind)(l:Int)(h0:0≤l)(h1:l≤n) :
  (Instr.slice 162 (.slice a n c) (some (.int k l)) none none).run Tryz.prog W=.ok (.slice (cutAt a (c*2) (l.toNat*2)) (n-l.toNat) (c-l.toNat)) W:=by
 rw [run_slice_l (P:=Tryz.prog) (w:=W) 162 a n c (by kernel_rfl) k l h0 h1]
 have hs:(sizeOf (Tryz.prog.elem 162)).run Tryz.prog W=.ok 2 W:=by kernel_rfl
 rw [hs]
 have e:(c*2=l.toNat*2)=(c=l.toNat):=propext ⟨fun h=>by omega,fun h=>by omega⟩
 simp only [Result.andThen,sliced,cutAt,e]
theorem PIAt.head {w:World}{B:Nat}{A:Option Addr}{n c k:Nat}{L:List PI}(h:PIAt w B A n L)(hk:k≤n)(hc:n≤c):PIAt w B (cutAt A (c*2) (0*2)) k (L.take k):=by
 have:=(h.drop (k:=0) (Nat.zero_le n) hc).take (k:=k) (by omega)
 simpa using this
end
end Go.Proofs.YtaogpmombefmmaaGreatDoor
