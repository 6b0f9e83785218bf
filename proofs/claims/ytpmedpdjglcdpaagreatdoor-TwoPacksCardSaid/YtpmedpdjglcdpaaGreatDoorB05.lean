/- Packages that are merged: why the lengths that they say cost least. Plain mathematics of chapter 7. The lengths that packages say: full, and none cost less. The document's lengths as a value, and what follows of them. Right lengths and thei -/
import Derived.Test.YtpmedpdjglcdpaaGreatDoorRows
namespace Go.Proofs.YtpmedpdjglcdpaaGreatDoor.Len
def zm:Nat→(Nat→Nat)→Nat
 | 0,_=>0
 | n+1,f=>zm n f+f n
theorem zK:∀ {n:Nat} {f g:Nat→Nat},(∀ i,i<n→f i=g i)→zm n f=zm n g
 | 0,_,_,_=>rfl
 | n+1,f,g,h=>by rw[zm,zm,zK (fun i hi=>h i (by omega)),h n (by omega)]
theorem xY:∀ {n:Nat} {f g:Nat→Nat},(∀ i,i<n→f i≤g i)→zm n f≤zm n g
 | 0,_,_,_=>Nat.le_refl _
 | n+1,f,g,h=>by
  rw[zm,zm]
  have:=xY (n:=n) (f:=f) (g:=g) (fun i hi=>h i (by omega))
  have:=h n (by omega)
  omega
theorem vj:∀ (n:Nat) (f g:Nat→Nat),zm n (fun i=>f i+g i)=zm n f+zm n g
 | 0,_,_=>rfl
 | n+1,f,g=>by rw[zm,zm,zm,vj n f g];omega
theorem YJ (c:Nat):∀ (n:Nat) (f:Nat→Nat),zm n (fun i=>c*f i)=c*zm n f
 | 0,_=>rfl
 | n+1,f=>by rw[zm,zm,YJ c n f,Nat.mul_add]
theorem jj:∀ (n:Nat) {f:Nat→Nat},(∀ i,i<n→f i=0)→zm n f=0
 | 0,_,_=>rfl
 | n+1,f,h=>by rw[zm,jj n (fun i hi=>h i (by omega)),h n (by omega)]
theorem yC (c:Nat):∀ n:Nat,zm n (fun _=>c)=n*c
 | 0=>by simp[zm]
 | n+1=>by rw[zm,yC c n,Nat.add_mul,Nat.one_mul]
theorem vk (f:Nat→Nat)(a:Nat):∀ n:Nat,a≤n→zm n (fun i=>if i<a then f i else 0)=zm a f
 | 0,h=>by
  obtain rfl:a=0:=by omega
  rfl
 | n+1,h=>by
  rw[zm]
  by_cases e:a=n+1
  ·subst e
   rw[if_pos (by omega),zm]
   congr 1
   exact zK fun i hi=>if_pos (by omega)
  ·rw[vk f a n (by omega),if_neg (by omega),Nat.add_zero]
def Ya (p:Nat→Bool):Nat→Nat
 | 0=>0
 | n+1=>Ya p n+(if p n then 1 else 0)
theorem Yo (p:Nat→Bool):∀ n,Ya p n≤n
 | 0=>Nat.le_refl _
 | n+1=>by
  rw[Ya]
  have:=Yo p n
  split<;>omega
theorem Ze {f:Nat→Nat}:∀ {m n:Nat},m≤n→zm m f≤zm n f
 | m,0,h=>by
  obtain rfl:m=0:=by omega
  exact Nat.le_refl _
 | m,n+1,h=>by
  by_cases e:m=n+1
  ·rw[e];exact Nat.le_refl _
  ·have:=Ze (f:=f) (m:=m) (n:=n) (by omega)
   rw[zm]
   omega
theorem Zf {w:Nat→Nat}(p:Nat→Bool):∀ n:Nat,(∀ i j,i≤j→j<n→w i≤w j)→zm (Ya p n) w≤zm n fun i=>if p i then w i else 0
 | 0,_=>Nat.le_refl _
 | n+1,hs=>by
  have IH:=Zf p n fun i j hij hj=>hs i j hij (by omega)
  rw[Ya,zm]
  by_cases h:p n=true
  ·rw[if_pos h,if_pos h,zm]
   have:=hs (Ya p n) n (Yo p n) (by omega)
   omega
  ·rw[if_neg h,if_neg h]
   omega
abbrev Item:=Nat×List Nat
def wts (l:List Item):Nat:=(l.map Prod.fst).sum
def syms (l:List Item):List Nat:=l.flatMap Prod.snd
def Sorted (l:List Item):Prop:=l.Pairwise fun a b=>a.1≤b.1
def zo:List Item→List Item
 | a::b::r=>(a.1+b.1,a.2++b.2)::zo r
 | _=>[]
def zI:List Item→List Item→List Item
 | [],ps=>ps
 | ls,[]=>ls
 | a::ls,b::ps=>if a.1≤b.1 then a::zI ls (b::ps) else b::zI (a::ls) ps
termination_by ls ps=>ls.length+ps.length
theorem yD (l:List Item):zI l []=l:=by
 cases l<;>simp[zI]
theorem yo (l:List Item):zI [] l=l:=by simp[zI]
theorem yu (a b:Item)(ls ps:List Item):zI (a::ls) (b::ps)=if a.1≤b.1 then a::zI ls (b::ps) else b::zI (a::ls) ps:=by rw[zI]
theorem jQ:∀ (ls ps:List Item),(zI ls ps).length=ls.length+ps.length
 | [],ps=>by rw[yo];simp
 | a::ls,[]=>by rw[yD];simp
 | a::ls,b::ps=>by
  rw[yu]
  split
  ·rw[List.length_cons,jQ ls (b::ps)];simp;omega
  ·rw[List.length_cons,jQ (a::ls) ps];simp;omega
termination_by ls ps=>ls.length+ps.length
theorem yi:∀ l:List Item,(zo l).length=l.length / 2
 | []=>rfl
 | [_]=>by simp[zo]
 | a::b::r=>by rw[zo,List.length_cons,yi r];simp;omega
theorem Yp:wts []=0:=rfl
theorem yO (a:Item)(l:List Item):wts (a::l)=a.1+wts l:=by simp[wts]
theorem Qw (a b:List Item):wts (a++b)=wts a+wts b:=by simp[wts]
theorem xn (a:Item)(l:List Item):syms (a::l)=a.2++syms l:=by simp[syms]
theorem jR:∀ (ls ps:List Item) (m:Nat),m≤ls.length+ps.length→∃ a,a≤m∧a≤ls.length∧m-a≤ps.length∧wts ((zI ls ps).take m)=wts (ls.take a)+wts (ps.take (m-a)) ∧
  ∀ s,(syms ((zI ls ps).take m)).count s=(syms (ls.take a)).count s+(syms (ps.take (m-a))).count s
 | ls,ps,0,_=>⟨0,by omega,by omega,by omega,by simp[wts],fun s=>by simp[syms]⟩
 | [],ps,m+1,h=>⟨0,by omega,by omega,by simpa using h,by rw[yo];simp[wts],fun s=>by rw[yo];simp[syms]⟩
 | a::ls,[],m+1,h=>⟨m+1,by omega,by simpa using h,by omega,by rw[yD];simp[wts],fun s=>by rw[yD];simp[syms]⟩
 | a::ls,b::ps,m+1,h=>by
  rw[yu]
  by_cases hab:a.1≤b.1
  ·rw[if_pos hab]
   obtain⟨k,h1,h2,h3,h4,h5⟩:=jR ls (b::ps) m (by simp at h ⊢;omega)
   refine⟨k+1,by omega,by simpa using h2,by rw[show m+1-(k+1)=m-k by omega];exact h3,?_,fun s=>?_⟩
   ·rw[List.take_succ_cons,List.take_succ_cons,yO,yO,h4,show m+1-(k+1)=m-k by omega]
    omega
   ·rw[List.take_succ_cons,List.take_succ_cons,xn,xn,List.count_append,List.count_append,h5 s,show m+1-(k+1)=m-k by omega]
    omega
  ·rw[if_neg hab]
   obtain⟨k,h1,h2,h3,h4,h5⟩:=jR (a::ls) ps m (by simp at h ⊢;omega)
   refine⟨k,by omega,h2,by simp;omega,?_,fun s=>?_⟩
   ·rw[show m+1-k=(m-k)+1 by omega,List.take_succ_cons,List.take_succ_cons,yO,yO,h4]
    omega
   ·rw[show m+1-k=(m-k)+1 by omega,List.take_succ_cons,List.take_succ_cons,xn,xn,List.count_append,List.count_append,h5 s]
    omega
termination_by ls ps=>ls.length+ps.length
theorem ZN (a:Item)(l:List Item)(h:∀ x∈l,a.1≤x.1):∀ {m:Nat},m+1≤l.length→a.1+wts (l.take m)≤wts (l.take (m+1)):=by
 intro m hm
 have e:l.take (m+1)=l.take m++[l[m]'(by omega)]:=by rw[List.take_add_one,List.getElem?_eq_getElem (by omega)];rfl
 rw[e,Qw,yO,Yp]
 have:=h (l[m]'(by omega)) (List.getElem_mem _)
 omega
theorem xo:∀ (ls ps:List Item) (m c:Nat),Sorted ls→Sorted ps→c≤m→c≤ls.length→m-c≤ps.length→wts ((zI ls ps).take m)≤wts (ls.take c)+wts (ps.take (m-c))
 | ls,ps,0,_,_,_,_,_,_=>by simp[wts]
 | [],ps,m+1,c,_,_,h1,h2,_=>by
  obtain rfl:c=0:=by simpa using h2
  rw[yo]
  simp[wts]
 | a::ls,[],m+1,c,_,_,h1,h2,h3=>by
  obtain rfl:c=m+1:=by simp at h3;omega
  rw[yD]
  simp[wts]
 | a::ls,b::ps,m+1,c,hl,hp,h1,h2,h3=>by
  have hl1:=(List.pairwise_cons.1 hl).1
  have hl2:=(List.pairwise_cons.1 hl).2
  have hp1:=(List.pairwise_cons.1 hp).1
  have hp2:=(List.pairwise_cons.1 hp).2
  rw[yu]
  simp only[List.length_cons]at h2 h3
  by_cases hab:a.1≤b.1
  ·rw[if_pos hab,List.take_succ_cons,yO]
   cases c with
   | succ c =>
    have IH:=xo ls (b::ps) m c hl2 hp (by omega) (by omega) (by simp;omega)
    rw[List.take_succ_cons,yO,show m+1-(c+1)=m-c by omega]
    omega
   | zero =>
    have IH:=xo ls (b::ps) m 0 hl2 hp (by omega) (by omega) (by simp;omega)
    have h4:a.1+wts ((b::ps).take m)≤wts ((b::ps).take (m+1)):=ZN a (b::ps) (fun x hx=>by
     rcases List.mem_cons.1 hx with e|e
     ·rw[e];exact hab
     ·have:=hp1 x e;omega) (by simp;omega)
    rw[List.take_zero]at IH ⊢
    rw[Nat.sub_zero]at IH ⊢
    rw[Yp]at IH ⊢
    omega
  ·rw[if_neg hab,List.take_succ_cons,yO]
   by_cases hc:c=m+1
   ·subst hc
    have IH:=xo (a::ls) ps m m hl hp2 (by omega) (by simp;omega) (by omega)
    have h4:b.1+wts ((a::ls).take m)≤wts ((a::ls).take (m+1)):=ZN b (a::ls) (fun x hx=>by
     rcases List.mem_cons.1 hx with e|e
     ·rw[e];omega
     ·have:=hl1 x e;omega) (by simp;omega)
    rw[Nat.sub_self,List.take_zero,Yp]at IH ⊢
    omega
   ·have IH:=xo (a::ls) ps m c hl hp2 (by omega) (by simp;omega) (by omega)
    rw[show m+1-c=(m-c)+1 by omega,List.take_succ_cons,yO]
    omega
termination_by ls ps=>ls.length+ps.length
theorem ve {ls ps:List Item}{x:Item}:x∈zI ls ps→x∈ls∨x∈ps:=by
 match ls,ps with
 | [],ps=>rw[yo];exact .inr
 | a::ls,[]=>rw[yD];exact .inl
 | a::ls,b::ps =>
  rw[yu]
  split
  ·intro h
   rcases List.mem_cons.1 h with e|e
   ·exact .inl (by rw[e];exact List.mem_cons_self)
   ·rcases ve e with h | h
    ·exact .inl (List.mem_cons_of_mem _ h)
    ·exact .inr h
  ·intro h
   rcases List.mem_cons.1 h with e|e
   ·exact .inr (by rw[e];exact List.mem_cons_self)
   ·rcases ve e with h | h
    ·exact .inl h
    ·exact .inr (List.mem_cons_of_mem _ h)
termination_by ls.length+ps.length
theorem ue:∀ {ls ps:List Item},Sorted ls→Sorted ps→Sorted (zI ls ps)
 | [],ps,_,h=>by rw[yo];exact h
 | a::ls,[],h,_=>by rw[yD];exact h
 | a::ls,b::ps,hl,hp=>by
  have hl1:=(List.pairwise_cons.1 hl).1
  have hp1:=(List.pairwise_cons.1 hp).1
  rw[yu]
  by_cases hab:a.1≤b.1
  ·rw[if_pos hab]
   refine List.pairwise_cons.2 ⟨fun x hx=>?_,ue (List.pairwise_cons.1 hl).2 hp⟩
   rcases ve hx with h|h
   ·exact hl1 x h
   ·rcases List.mem_cons.1 h with e | e
    ·rw[e];exact hab
    ·have:=hp1 x e;omega
  ·rw[if_neg hab]
   refine List.pairwise_cons.2 ⟨fun x hx=>?_,ue hl (List.pairwise_cons.1 hp).2⟩
   rcases ve hx with h|h
   ·rcases List.mem_cons.1 h with e | e
    ·rw[e];omega
    ·have:=hl1 x e;omega
   ·exact hp1 x h
termination_by ls ps=>ls.length+ps.length
theorem Je:∀ {l:List Item} {c:Nat},(∀ x∈l,c≤x.1)→∀ x∈zo l,2*c≤x.1
 | [],_,_,x,h=>by simp[zo]at h
 | [_],_,_,x,h=>by simp[zo]at h
 | a::b::r,c,hl,x,h=>by
  rw[zo]at h
  rcases List.mem_cons.1 h with e|e
  ·rw[e]
   have:=hl a (by simp)
   have:=hl b (by simp)
   simp only
   omega
  ·exact Je (fun y hy=>hl y (by simp[hy])) x e
theorem uf:∀ {l:List Item},Sorted l→Sorted (zo l)
 | [],_=>by simp[zo,Sorted]
 | [_],_=>by simp[zo,Sorted]
 | a::b::r,h=>by
  have h1:=List.pairwise_cons.1 h
  have h2:=List.pairwise_cons.1 h1.2
  rw[zo]
  refine List.pairwise_cons.2 ⟨fun x hx=>?_,uf h2.2⟩
  have:=Je (c:=b.1) (fun y hy=>h2.1 y hy) x hx
  have:=h1.1 b (by simp)
  simp only
  omega
theorem ug:∀ (l:List Item) (k:Nat),2*k≤l.length→wts ((zo l).take k)=wts (l.take (2*k))∧∀ s,(syms ((zo l).take k)).count s=(syms (l.take (2*k))).count s
 | _,0,_=>by simp[wts,syms]
 | [],k+1,h=>by simp at h
 | [_],k+1,h=>by simp at h;omega
 | a::b::r,k+1,h=>by
  obtain⟨i1,i2⟩:=ug r k (by simp at h;omega)
  rw[zo,List.take_succ_cons,show 2*(k+1)=2*k+1+1 by omega,List.take_succ_cons,List.take_succ_cons]
  refine⟨?_,fun s=>?_⟩
  ·rw[yO,yO,yO,i1]
   simp only
   omega
  ·rw[xn,xn,xn,List.count_append,List.count_append,List.count_append,i2 s]
   simp only[List.count_append]
   omega
def leaves (n:Nat)(w s:Nat→Nat):List Item:=(List.range n).map fun i=>(w i,[s i])
def row (lv:List Item):Nat→List Item
 | 0=>lv
 | r+1=>zI lv (zo (row lv r))
section
variable {n:Nat}{w s:Nat→Nat}
theorem yK:(leaves n w s).length=n:=by simp[leaves]
theorem uN:leaves (n+1) w s=leaves n w s++[(w n,[s n])]:=by simp[leaves,List.range_succ]
theorem yv {a:Nat}(h:a≤n):(leaves n w s).take a=leaves a w s:=by
 unfold leaves
 rw[← List.map_take,List.take_range,Nat.min_eq_left h]
theorem xG:∀ n,wts (leaves n w s)=zm n w
 | 0=>rfl
 | n+1=>by rw[uN,zm,← xG n];simp[wts]
theorem uh (hs:∀ i j,i<n→j<n→s i=s j→i=j){i:Nat}(hi:i<n):∀ a,a≤n→(syms (leaves a w s)).count (s i)=if i<a then 1 else 0
 | 0,_=>by simp[leaves,syms]
 | a+1,h=>by
  have IH:=uh hs hi a (by omega)
  have e:syms (leaves (a+1) w s)=syms (leaves a w s)++[s a]:=by rw[uN];simp[syms]
  rw[e,List.count_append,IH]
  by_cases hia:i=a
  ·subst hia
   simp
  ·have hne:s a≠s i:=fun h2=>hia (hs a i (by omega) hi h2).symm
   have hb:(s a==s i)=false:=beq_eq_false_iff_ne.2 hne
   rw[List.count_singleton,hb,if_neg Bool.false_ne_true,Nat.add_zero]
   by_cases h3:i<a
   ·rw[if_pos h3,if_pos (by omega)]
   ·rw[if_neg h3,if_neg (by omega)]
theorem xZ {x:Nat}:∀ {a:Nat},(∀ i,i<a→s i≠x)→(syms (leaves a w s)).count x=0
 | 0,_=>by simp[leaves,syms]
 | a+1,h=>by
  have e:syms (leaves (a+1) w s)=syms (leaves a w s)++[s a]:=by rw[uN];simp[syms]
  rw[e,List.count_append,xZ (fun i hi=>h i (by omega)),List.count_singleton,beq_eq_false_iff_ne.2 (h a (by omega)),if_neg Bool.false_ne_true]
theorem XV (hw:∀ i j,i≤j→j<n→w i≤w j):Sorted (leaves n w s):=by
 unfold leaves Sorted
 rw[List.pairwise_map]
 exact (List.pairwise_lt_range (n:=n)).imp_of_mem fun {a b} ha hb h=>hw a b (Nat.le_of_lt h) (List.mem_range.1 hb)
theorem YK {lv:List Item}(h:Sorted lv):∀ r,Sorted (row lv r)
 | 0=>h
 | r+1=>ue h (uf (YK h r))
theorem ui (lv:List Item)(r:Nat):(row lv (r+1)).length=lv.length+(row lv r).length / 2:=by rw[row,jQ,yi]
theorem Jf (hs:∀ i j,i<n→j<n→s i=s j→i=j):∀ (r m:Nat),m≤(row (leaves n w s) r).length →
  ∃ c wd:Nat→Nat,(∀ i,i<n→(syms ((row (leaves n w s) r).take m)).count (s i)=c i)∧(∀ x,(∀ i,i<n→s i≠x)→(syms ((row (leaves n w s) r).take m)).count x=0) ∧
   (∀ i,i<n→c i≤r+1∧wd i+2 ^ (r+1-c i)≤2 ^ (r+1))∧(∀ i j,i≤j→j<n→c j≤c i)∧zm n wd=m*2 ^ r∧wts ((row (leaves n w s) r).take m)=zm n fun i=>w i*c i
 | 0,m,h=>by
  have hmn:m≤n:=by rw[row,yK]at h;exact h
  refine⟨fun i=>if i<m then 1 else 0,fun i=>if i<m then 1 else 0,fun i hi=>?_,fun x hx=>?_,fun i _=>?_,fun i j hij _=>?_,?_,?_⟩
  ·rw[row,yv hmn,uh hs hi m hmn]
  ·rw[row,yv hmn]
   exact xZ fun i hi=>hx i (by omega)
  ·dsimp only
   by_cases e:i<m
   ·rw[if_pos e];simp
   ·rw[if_neg e];simp
  ·dsimp only
   by_cases e:j<m
   ·rw[if_pos e,if_pos (by omega)];exact Nat.le_refl _
   ·rw[if_neg e];omega
  ·rw[vk (fun _=>1) m n hmn,yC,Nat.pow_zero]
  ·rw[row,yv hmn,xG]
   rw[← vk w m n hmn]
   refine zK fun i _=>?_
   dsimp only
   by_cases e:i<m
   ·rw[if_pos e,if_pos e,Nat.mul_one]
   ·rw[if_neg e,if_neg e,Nat.mul_zero]
 | r+1,m,h=>by
  rw[ui,yK]at h
  obtain⟨a,a1,a2,a3,a4,a5⟩:=jR (leaves n w s) (zo (row (leaves n w s) r)) m (by rw[yK,yi];exact h)
  rw[yK]at a2
  rw[yi]at a3
  obtain⟨c,wd,h1,h2,h3,h4,h5,h6⟩:=Jf hs r (2*(m-a)) (by omega)
  obtain⟨p1,p2⟩:=ug (row (leaves n w s) r) (m-a) (by omega)
  refine⟨fun i=>(if i<a then 1 else 0)+c i,fun i=>(if i<a then 2 ^ (r+1) else 0)+wd i,fun i hi=>?_,fun x hx=>?_,fun i hi=>?_,fun i j hij hj=>?_,?_,?_⟩
  ·rw[row,a5 (s i),yv a2,uh hs hi a a2,p2 (s i),h1 i hi]
  ·rw[row,a5 x,yv a2,xZ (fun i hi=>hx i (by omega)),p2 x,h2 x hx]
  ·dsimp only
   obtain⟨k1,k2⟩:=h3 i hi
   have e2:2 ^ (r+1+1)=2*2 ^ (r+1):=by rw[Nat.pow_succ,Nat.mul_comm]
   by_cases e:i<a
   ·rw[if_pos e,if_pos e,show r+1+1-(1+c i)=r+1-c i by omega,e2]
    exact⟨by omega,by omega⟩
   ·rw[if_neg e,if_neg e,Nat.zero_add,Nat.zero_add,show r+1+1-c i=(r+1-c i)+1 by omega,Nat.pow_succ,e2]
    have:2 ^ (r+1-c i)≤2 ^ (r+1):=Nat.pow_le_pow_right (by omega) (by omega)
    exact⟨by omega,by omega⟩
  ·dsimp only
   have:=h4 i j hij hj
   by_cases e:j<a
   ·rw[if_pos e,if_pos (by omega)];omega
   ·rw[if_neg e];split<;>omega
  ·rw[vj,vk (fun _=>2 ^ (r+1)) a n a2,yC,h5,Nat.pow_succ,Nat.mul_comm 2 (m-a),Nat.mul_assoc,← Nat.mul_comm (2 ^ r) 2,← Nat.add_mul]
   rw[show a+(m-a)=m by omega]
  ·rw[row,a4,yv a2,xG,p1,h6,← vk w a n a2,← vj]
   refine zK fun i _=>?_
   dsimp only
   by_cases e:i<a
   ·rw[if_pos e,if_pos e,Nat.mul_add,Nat.mul_one]
   ·rw[if_neg e,if_neg e,Nat.mul_add,Nat.mul_zero]
theorem Zg (hw:∀ i j,i≤j→j<n→w i≤w j):∀ (r m:Nat) (l:Nat→Nat),(∀ i,i<n→l i≤r+1)→m*2 ^ r≤zm n (fun i=>2 ^ (r+1)-2 ^ (r+1-l i)) →
  m≤(row (leaves n w s) r).length∧wts ((row (leaves n w s) r).take m)≤zm n fun i=>w i*l i
 | 0,m,l,hl,h=>by
  have e:zm n (fun i=>2 ^ (0+1)-2 ^ (0+1-l i))=Ya (fun i=>decide (0<l i)) n:=by
   clear h hw
   induction n with
   | zero=>rfl
   | succ n ih =>
    rw[zm,Ya,ih fun i hi=>hl i (by omega)]
    have:=hl n (by omega)
    rcases Nat.eq_zero_or_pos (l n) with h0|h0
    ·rw[h0];simp
    ·have h1:l n=1:=by omega
     rw[h1];simp
  rw[e,Nat.pow_zero,Nat.mul_one]at h
  have hcn:=Yo (fun i=>decide (0<l i)) n
  refine⟨by rw[row,yK];omega,?_⟩
  rw[row,yv (by omega),xG]
  refine Nat.le_trans (Ze h) (Nat.le_trans (Zf _ n hw) (xY fun i _=>?_))
  by_cases h0:0<l i
  ·rw[if_pos (by simpa using h0)]
   exact Nat.le_mul_of_pos_right _ h0
  ·rw[if_neg (by simpa using h0)]
   omega
 | r+1,m,l,hl,h=>by
  have hP:0<2 ^ (r+1):=Nat.pow_pos (by omega)
  have e:zm n (fun i=>2 ^ (r+1+1)-2 ^ (r+1+1-l i))=Ya (fun i=>decide (0<l i)) n*2 ^ (r+1)+zm n (fun i=>2 ^ (r+1)-2 ^ (r+1-(l i-1))):=by
   clear h hw
   induction n with
   | zero=>rw[zm,zm,Ya];omega
   | succ n ih =>
    rw[zm,zm,Ya,ih fun i hi=>hl i (by omega),Nat.add_mul]
    have:=hl n (by omega)
    have e2:2 ^ (r+1+1)=2 ^ (r+1)+2 ^ (r+1):=by rw[Nat.pow_succ];omega
    rcases Nat.eq_zero_or_pos (l n) with h0|h0
    ·rw[h0]
     simp
    ·rw[if_pos (by simpa using h0),show r+1+1-l n=r+1-(l n-1) by omega,Nat.one_mul,e2]
     have:2 ^ (r+1-(l n-1))≤2 ^ (r+1):=Nat.pow_le_pow_right (by omega) (by omega)
     omega
  rw[e]at h
  have hcn:=Yo (fun i=>decide (0<l i)) n
  have hcost:zm n (fun i=>w i*l i)=zm n (fun i=>if decide (0<l i) then w i else 0)+zm n fun i=>w i*(l i-1):=by
   rw[← vj]
   refine zK fun i _=>?_
   rcases Nat.eq_zero_or_pos (l i) with h0|h0
   ·rw[h0];simp
   ·rw[if_pos (by simpa using h0)]
    have:l i=(l i-1)+1:=by omega
    rw[show w i*l i=w i*((l i-1)+1) by rw[← this],Nat.mul_add,Nat.mul_one]
    omega
  have hfl:=Zf (w:=w) (fun i=>decide (0<l i)) n hw
  have hls:=XV (s:=s) hw
  have hps:=uf (YK hls r)
  generalize Ya (fun i=>decide (0<l i)) n=c at *
  rw[ui,yK]
  by_cases hmc:m≤c
  ·refine⟨by omega,?_⟩
   have:=xo (leaves n w s) (zo (row (leaves n w s) r)) m m hls hps (Nat.le_refl _) (by rw[yK];omega) (by omega)
   rw[Nat.sub_self,List.take_zero,Yp,yv (by omega),xG]at this
   have:=Ze (f:=w) hmc
   rw[row]
   omega
  ·have hm2:(m-c)*2 ^ (r+1)=m*2 ^ (r+1)-c*2 ^ (r+1):=Nat.sub_mul _ _ _
   have IH:=Zg hw r (2*(m-c)) (fun i=>l i-1) (fun i hi=>by have:=hl i hi;omega) (by
    rw[Nat.mul_comm 2 (m-c),Nat.mul_assoc,Nat.mul_comm 2 (2 ^ r),← Nat.pow_succ,Nat.succ_eq_add_one,hm2]
    omega)
   obtain⟨i1,i2⟩:=IH
   refine⟨by omega,?_⟩
   have h1:=xo (leaves n w s) (zo (row (leaves n w s) r)) m c hls hps (by omega) (by rw[yK];exact hcn) (by rw[yi];omega)
   rw[yv hcn,xG,(ug (row (leaves n w s) r) (m-c) (by omega)).1]at h1
   rw[row]
   omega
end
end Go.Proofs.YtpmedpdjglcdpaaGreatDoor.Len
namespace Go.Proofs.YtpmedpdjglcdpaaGreatDoor.Len
theorem vl:∀ (n:Nat) (f:Nat→Nat),zm (n+1) f=f 0+zm n fun i=>f (i+1)
 | 0,f=>by simp[zm]
 | n+1,f=>by
  rw[zm,vl n f,zm]
  omega
theorem Jg {c:Nat}:∀ (n:Nat) {g:Nat→Nat},(∀ i,i<n→g i≤c)→zm n (fun i=>c-g i)+zm n g=n*c
 | 0,_,_=>by simp[zm]
 | n+1,g,h=>by
  rw[zm,zm,Nat.add_mul,Nat.one_mul]
  have:=Jg (c:=c) n (g:=g) fun i hi=>h i (by omega)
  have:=h n (by omega)
  omega
theorem Vt {a b:Nat}(h:a≤b):2 ^ a≤2 ^ b:=Nat.pow_le_pow_right (by omega) h
section
variable {n r:Nat}{w s l:Nat→Nat}
theorem wide (hK:zm n (fun i=>2 ^ (r+1-l i))≤2 ^ (r+1)):(2*n-2)*2 ^ r≤zm n fun i=>2 ^ (r+1)-2 ^ (r+1-l i):=by
 have h1:=Jg (c:=2 ^ (r+1)) n (g:=fun i=>2 ^ (r+1-l i)) fun i _=>Vt (by omega)
 have e:(2*n-2)*2 ^ r=n*2 ^ (r+1)-2 ^ (r+1):=by
  rw[Nat.pow_succ,Nat.sub_mul]
  have:2*n*2 ^ r=n*(2 ^ r*2):=by rw[Nat.mul_comm 2 n,Nat.mul_assoc,Nat.mul_comm 2]
  omega
 omega
def says (n:Nat)(w s:Nat→Nat)(r i:Nat):Nat:=(syms ((row (leaves n w s) r).take (2*n-2))).count (s i)
structure Fine (n r:Nat)(w s:Nat→Nat):Prop where
 enough:2*n-2≤(row (leaves n w s) r).length
 pos:∀ i,i<n→1≤says n w s r i
 top:∀ i,i<n→says n w s r i≤r+1
 anti:∀ i j,i≤j→j<n→says n w s r j≤says n w s r i
 full:zm n (fun i=>2 ^ (r+1-says n w s r i))=2 ^ (r+1)
 none:∀ x,(∀ i,i<n→s i≠x)→(syms ((row (leaves n w s) r).take (2*n-2))).count x=0
 best:∀ l:Nat→Nat,(∀ i,i<n→l i≤r+1)→zm n (fun i=>2 ^ (r+1-l i))≤2 ^ (r+1)→zm n (fun i=>w i*says n w s r i)≤zm n fun i=>w i*l i
theorem fine (hn:2≤n)(hnr:n≤2 ^ (r+1))(hw:∀ i j,i≤j→j<n→w i≤w j)(hw0:1≤w 0)(hs:∀ i j,i<n→j<n→s i=s j→i=j):Fine n r w s:=by
 have h0:=Zg (s:=s) hw r (2*n-2) (fun _=>r+1) (fun _ _=>Nat.le_refl _) (wide (by
  rw[zK (g:=fun _=>1) (fun i _=>by rw[Nat.sub_self,Nat.pow_zero]),yC]
  omega))
 obtain⟨c,wd,h1,h2,h3,h4,h5,h6⟩:=Jf (w:=w) hs r (2*n-2) h0.1
 have hP:0<2 ^ (r+1):=Nat.pow_pos (by omega)
 have hbest:∀ l:Nat→Nat,(∀ i,i<n→l i≤r+1)→zm n (fun i=>2 ^ (r+1-l i))≤2 ^ (r+1)→zm n (fun i=>w i*c i)≤zm n fun i=>w i*l i:=fun l hl hK=>by
  rw[← h6]
  exact (Zg hw r (2*n-2) l hl (wide hK)).2
 have hle:zm n (fun i=>2 ^ (r+1-c i))≤2 ^ (r+1):=by
  have k1:zm n (fun i=>wd i+2 ^ (r+1-c i))≤zm n fun _=>2 ^ (r+1):=xY fun i hi=>(h3 i hi).2
  rw[vj,h5,yC]at k1
  have e:(2*n-2)*2 ^ r=n*2 ^ (r+1)-2 ^ (r+1):=by
   rw[Nat.pow_succ,Nat.sub_mul]
   have:2*n*2 ^ r=n*(2 ^ r*2):=by rw[Nat.mul_comm 2 n,Nat.mul_assoc,Nat.mul_comm 2]
   omega
  have:1*2 ^ (r+1)≤n*2 ^ (r+1):=Nat.mul_le_mul_right _ (by omega)
  omega
 obtain⟨k,rfl⟩:∃ k,n=k+2:=⟨n-2,by omega⟩
 have hlast:1≤c (k+1):=by
  rcases Nat.eq_zero_or_pos (c (k+1)) with e|e
  ·rw[zm,e,Nat.sub_zero]at hle
   have:zm (k+1) (fun _=>1)≤zm (k+1) fun i=>2 ^ (r+1-c i):=xY fun i _=>Nat.pow_pos (by omega)
   rw[yC]at this
   omega
  ·exact e
 have hpos:∀ i,i<k+2→1≤c i:=fun i hi=>Nat.le_trans hlast (h4 i (k+1) (by omega) (by omega))
 have hfull:zm (k+2) (fun i=>2 ^ (r+1-c i))=2 ^ (r+1):=by
  rcases Nat.lt_or_ge (zm (k+2) fun i=>2 ^ (r+1-c i)) (2 ^ (r+1)) with hlt|hge
  ·exfalso
   have hc0:=h3 0 (by omega)
   have hc1:=hpos 0 (by omega)
   by_cases h1':c 0=1
   ·have:zm (k+2) (fun _=>2 ^ r)≤zm (k+2) fun i=>2 ^ (r+1-c i):=xY fun i hi=>by
     have:=h4 0 i (by omega) hi
     exact Vt (by omega)
    rw[yC]at this
    have h2':2*2 ^ r≤(k+2)*2 ^ r:=Nat.mul_le_mul_right _ (by omega)
    rw[Nat.pow_succ]at hlt
    omega
   ·have hdiv:zm (k+2) (fun i=>2 ^ (r+1-c i))=2 ^ (r+1-c 0)*zm (k+2) fun i=>2 ^ (c 0-c i):=by
     rw[← YJ]
     refine zK fun i hi=>?_
     have:=h4 0 i (by omega) hi
     rw[← Nat.pow_add]
     congr 1
     omega
    have hpw:2 ^ (r+1)=2 ^ (r+1-c 0)*2 ^ c 0:=by
     rw[← Nat.pow_add]
     congr 1
     omega
    have hroom:zm (k+2) (fun i=>2 ^ (r+1-c i))+2 ^ (r+1-c 0)≤2 ^ (r+1):=by
     rw[hdiv,hpw]at hlt ⊢
     have:=Nat.lt_of_mul_lt_mul_left hlt
     rw[← Nat.mul_succ]
     exact Nat.mul_le_mul_left _ this
    have hlow:=hbest (fun i=>if i=0 then c 0-1 else c i) (fun i hi=>by
     have:=(h3 i hi).1
     split<;>omega) (by
     rw[vl]at hroom ⊢
     simp only[if_false,if_true,Nat.add_one_ne_zero]
     have e:2 ^ (r+1-(c 0-1))=2 ^ (r+1-c 0)+2 ^ (r+1-c 0):=by
      rw[show r+1-(c 0-1)=(r+1-c 0)+1 by omega,Nat.pow_succ]
      omega
     omega)
    rw[vl,vl (k+1) fun i=>w i*if i=0 then c 0-1 else c i]at hlow
    simp only[Nat.add_one_ne_zero,if_false,if_true]at hlow
    have e:w 0*c 0=w 0*(c 0-1)+w 0:=by
     rw[← Nat.mul_succ]
     congr 1
     omega
    omega
  ·omega
 have hsay:∀ i,i<k+2→says (k+2) w s r i=c i:=fun i hi=>h1 i hi
 refine⟨h0.1,fun i hi=>by rw[hsay i hi];exact hpos i hi,fun i hi=>by rw[hsay i hi];exact (h3 i hi).1,fun i j hij hj=>by rw[hsay i (by omega),hsay j hj];exact h4 i j hij hj,?_,h2,fun l hl hK=>?_⟩
 ·rw[zK (g:=fun i=>2 ^ (r+1-c i)) (fun i hi=>by rw[hsay i hi])]
  exact hfull
 ·rw[zK (g:=fun i=>w i*c i) (fun i hi=>by rw[hsay i hi])]
  exact hbest l hl hK
end
end Go.Proofs.YtpmedpdjglcdpaaGreatDoor.Len
namespace Go.Proofs.YtpmedpdjglcdpaaGreatDoor.Len
def uj (x:Item):List Item→List Item
 | []=>[x]
 | a::l=>if a.1≤x.1 then a::uj x l else x::a::l
def zd (often:List Nat):Nat→List Item
 | 0=>[]
 | j+1=>if often.getD j 0=0 then zd often j else uj (often.getD j 0,[j]) (zd often j)
def jC (x:Item):Nat:=x.2.headD 0
def Lex (a b:Item):Prop:=a.1<b.1∨a.1=b.1∧jC a<jC b
theorem uO {x y:Item}:∀ {l:List Item},y∈uj x l↔y=x∨y∈l
 | []=>by simp[uj]
 | a::l=>by
  rw[uj]
  split
  ·rw[List.mem_cons,uO,List.mem_cons]
   constructor
   ·rintro (h | h | h)
    ·exact .inr (.inl h)
    ·exact .inl h
    ·exact .inr (.inr h)
   ·rintro (h | h | h)
    ·exact .inr (.inl h)
    ·exact .inl h
    ·exact .inr (.inr h)
  ·rw[List.mem_cons]
theorem Jh {x:Item}:∀ {l:List Item},l.Pairwise Lex→(∀ y∈l,jC y<jC x)→(uj x l).Pairwise Lex
 | [],_,_=>by simp[uj]
 | a::l,h,hx=>by
  have h1:=List.pairwise_cons.1 h
  rw[uj]
  by_cases ha:a.1≤x.1
  ·rw[if_pos ha]
   refine List.pairwise_cons.2 ⟨fun y hy=>?_,Jh h1.2 fun y hy=>hx y (List.mem_cons_of_mem _ hy)⟩
   rcases uO.1 hy with rfl|hy
   ·have:=hx a List.mem_cons_self
    rcases Nat.lt_or_eq_of_le ha with h|h
    ·exact .inl h
    ·exact .inr ⟨h,this⟩
   ·exact h1.1 y hy
  ·rw[if_neg ha]
   refine List.pairwise_cons.2 ⟨fun y hy=>?_,h⟩
   rcases List.mem_cons.1 hy with rfl|hy
   ·exact .inl (by omega)
   ·rcases h1.1 y hy with h | ⟨h,_⟩
    ·exact .inl (by omega)
    ·exact .inl (by omega)
theorem Ji (F:Item→Nat)(x:Item):∀ l:List Item,((uj x l).map F).sum=F x+(l.map F).sum
 | []=>by simp[uj]
 | a::l=>by
  rw[uj]
  split
  ·rw[List.map_cons,List.sum_cons,Ji F x l,List.map_cons,List.sum_cons]
   omega
  ·simp
section
variable {often:List Nat}
theorem yZ:∀ {j:Nat} {x:Item},x∈zd often j→∃ q,q<j∧often.getD q 0≠0∧x=(often.getD q 0,[q])
 | 0,x,h=>by simp[zd]at h
 | j+1,x,h=>by
  rw[zd]at h
  by_cases h0:often.getD j 0=0
  ·rw[if_pos h0]at h
   obtain⟨q,h1,h2⟩:=yZ h
   exact⟨q,by omega,h2⟩
  ·rw[if_neg h0]at h
   rcases uO.1 h with e|h
   ·exact⟨j,by omega,h0,e⟩
   ·obtain⟨q,h1,h2⟩:=yZ h
    exact⟨q,by omega,h2⟩
theorem Jj:∀ {j q:Nat},q<j→often.getD q 0≠0→(often.getD q 0,[q])∈zd often j
 | j+1,q,h,hq=>by
  rw[zd]
  by_cases e:q=j
  ·subst e
   rw[if_neg hq]
   exact uO.2 (.inl rfl)
  ·have:=Jj (j:=j) (q:=q) (by omega) hq
   split
   ·exact this
   ·exact uO.2 (.inr this)
theorem qo:∀ j:Nat,(zd often j).Pairwise Lex
 | 0=>by simp[zd]
 | j+1=>by
  rw[zd]
  split
  ·exact qo j
  ·refine Jh (qo j) fun y hy=>?_
   obtain⟨q,h1,_,rfl⟩:=yZ hy
   exact h1
theorem YL (F:Nat→Nat):∀ j:Nat,((zd often j).map fun x=>F (jC x)).sum=zm j fun q=>if often.getD q 0=0 then 0 else F q
 | 0=>rfl
 | j+1=>by
  rw[zd,zm,← YL F j]
  split
  ·simp
  ·rw[Ji fun x=>F (jC x)]
   simp[jC]
   omega
theorem YM:∀ j:Nat,(zd often j).length=zm j fun q=>if often.getD q 0=0 then 0 else 1:=fun j=>by
 have:=YL (often:=often) (fun _=>1) j
 rw[← this]
 generalize zd often j=X
 induction X with
 | nil=>rfl
 | cons a X ih=>rw[List.length_cons,ih,List.map_cons,List.sum_cons];omega
theorem vB (j:Nat):(zd often j).length≤j:=by
 rw[YM]
 have:zm j (fun q=>if often.getD q 0=0 then 0 else 1)≤zm j fun _=>1:=xY fun i _=>by split<;>omega
 rw[yC]at this
 omega
end
def wOf (X:List Item)(i:Nat):Nat:=(X.getD i (0,[])).1
def sOf (X:List Item)(i:Nat):Nat:=jC (X.getD i (0,[]))
theorem acj (F:Nat→Nat):∀ X:List Item,(X.map fun x=>F (jC x)).sum=zm X.length fun i=>F (sOf X i)
 | []=>rfl
 | a::X=>by
  rw[List.map_cons,List.sum_cons,acj F X,List.length_cons,vl]
  rfl
section
variable {often:List Nat}{j:Nat}
theorem uP {X:List Item}{i:Nat}(h:i<X.length):X.getD i (0,[])∈X:=by
 rw[List.getD_eq_getElem?_getD,List.getElem?_eq_getElem h]
 exact List.getElem_mem h
theorem x5 {i:Nat}(h:i<(zd often j).length):sOf (zd often j) i<j∧often.getD (sOf (zd often j) i) 0≠0∧wOf (zd often j) i=often.getD (sOf (zd often j) i) 0∧(zd often j).getD i (0,[])=(wOf (zd often j) i,[sOf (zd often j) i]):=by
 obtain⟨q,h1,h2,e⟩:=yZ (uP h)
 unfold wOf sOf
 rw[e]
 exact⟨h1,h2,rfl,rfl⟩
theorem vC:zd often j=leaves (zd often j).length (wOf (zd often j)) (sOf (zd often j)):=by
 apply List.ext_getElem
 ·rw[yK]
 ·intro i h1 h2
  have:=(x5 h1).2.2.2
  rw[List.getD_eq_getElem?_getD,List.getElem?_eq_getElem h1]at this
  simp only[leaves,List.getElem_map,List.getElem_range]
  exact this
theorem Zh {a b:Nat}(hab:a<b)(hb:b<(zd often j).length):Lex ((zd often j).getD a (0,[])) ((zd often j).getD b (0,[])):=by
 have:=List.pairwise_iff_getElem.1 (qo (often:=often) j) a b (by omega) hb hab
 rw[List.getD_eq_getElem?_getD,List.getD_eq_getElem?_getD,List.getElem?_eq_getElem (by omega),List.getElem?_eq_getElem hb]
 exact this
theorem ack:∀ a b,a≤b→b<(zd often j).length→wOf (zd often j) a≤wOf (zd often j) b:=fun a b hab hb=>by
 rcases Nat.lt_or_eq_of_le hab with h|h
 ·rcases Zh h hb with h | ⟨h,_⟩
  ·exact Nat.le_of_lt h
  ·exact Nat.le_of_eq h
 ·rw[h]
  exact Nat.le_refl _
theorem ad2:∀ a b,a<(zd often j).length→b<(zd often j).length→sOf (zd often j) a=sOf (zd often j) b→a=b:=fun a b ha hb e=>by
 have wa:=(x5 ha).2.2.1
 have wb:=(x5 hb).2.2.1
 rcases Nat.lt_trichotomy a b with h|h|h
 ·rcases Zh h hb with h | ⟨_,h⟩
  ·rw[e,← wb]at wa
   exact absurd h (by unfold wOf at wa;omega)
  ·unfold sOf at e;omega
 ·exact h
 ·rcases Zh h ha with h | ⟨_,h⟩
  ·rw[e,← wb]at wa
   exact absurd h (by unfold wOf at wa;omega)
  ·unfold sOf at e;omega
theorem Qx {q:Nat}(hq:q<j)(h0:often.getD q 0≠0):∃ i,i<(zd often j).length∧sOf (zd often j) i=q:=by
 obtain⟨i,hi,e⟩:=List.mem_iff_getElem.1 (Jj hq h0)
 refine⟨i,hi,?_⟩
 unfold sOf
 rw[List.getD_eq_getElem?_getD,List.getElem?_eq_getElem hi]
 show jC ((zd often j)[i])=q
 rw[e]
 rfl
theorem acl (F:Nat→Nat):(zm j fun q=>if often.getD q 0=0 then 0 else F q)=zm (zd often j).length fun i=>F (sOf (zd often j) i):=by
 rw[← YL,acj]
end
def xr (often:List Nat)(L q:Nat):Nat :=
 if (zd often often.length).length<2 then (syms (zd often often.length)).count q
 else (syms ((row (zd often often.length) (L-1)).take (2*(zd often often.length).length-2))).count q
section
variable {often:List Nat}{L:Nat}
theorem Zi (h2:2≤(zd often often.length).length)(hL:1≤L)(hn:(zd often often.length).length≤2 ^ L) :
  Fine (zd often often.length).length (L-1) (wOf (zd often often.length)) (sOf (zd often often.length)) :=
 fine h2 (by rw[show L-1+1=L by omega];exact hn) ack (by
  obtain⟨_,h,e,_⟩:=x5 (often:=often) (j:=often.length) (i:=0) (by omega)
  omega) ad2
theorem aax (h2:2≤(zd often often.length).length)(i:Nat) :
  xr often L (sOf (zd often often.length) i)=says (zd often often.length).length (wOf (zd often often.length)) (sOf (zd often often.length)) (L-1) i:=by
 unfold xr says
 rw[if_neg (by omega),← vC]
theorem uQ (h1:(zd often often.length).length=1)(q:Nat):xr often L q=if q=sOf (zd often often.length) 0 then 1 else 0:=by
 have hS:syms (zd often often.length)=[sOf (zd often often.length) 0]:=by
  have:=congrArg syms (vC (often:=often) (j:=often.length))
  rw[h1]at this
  exact this
 unfold xr
 rw[if_pos (by omega),hS]
 rw[List.count_singleton]
 by_cases e:q=sOf (zd often often.length) 0
 ·rw[if_pos e,e];simp
 ·have hb:(sOf (zd often often.length) 0==q)=false:=beq_eq_false_iff_ne.2 fun h=>e h.symm
  rw[if_neg e,hb]
  rfl
theorem jk {q:Nat}(hq:q<often.length)(h0:often.getD q 0≠0)(hL:1≤L)(hn:(zd often often.length).length≤2 ^ L):1≤xr often L q∧xr often L q≤L:=by
 obtain⟨i,hi,rfl⟩:=Qx hq h0
 by_cases h2:2≤(zd often often.length).length
 ·have F:=Zi h2 hL hn
  rw[aax h2]
  have:=F.pos i hi
  have:=F.top i hi
  omega
 ·have h1:(zd often often.length).length=1:=by omega
  rw[uQ h1]
  obtain rfl:i=0:=by omega
  rw[if_pos rfl]
  omega
theorem Zj {q:Nat}(h0:often.getD q 0=0)(hL:1≤L)(hn:(zd often often.length).length≤2 ^ L):xr often L q=0:=by
 have hne:∀ i,i<(zd often often.length).length→sOf (zd often often.length) i≠q:=fun i hi e=>(x5 hi).2.1 (by rw[e];exact h0)
 by_cases h2:2≤(zd often often.length).length
 ·have:=(Zi h2 hL hn).none q hne
  rw[← vC]at this
  unfold xr
  rw[if_neg (by omega)]
  exact this
 ·unfold xr
  rw[if_pos (by omega),vC]
  exact xZ hne
theorem aa2 (hL:1≤L)(hL15:L≤15)(hn:(zd often often.length).length≤2 ^ L) :
  (zm often.length fun q=>if often.getD q 0=0 then 0 else 2 ^ (15-xr often L q))=if 2≤(zd often often.length).length then 32768 else if (zd often often.length).length=1 then 16384 else 0:=by
 rw[acl fun q=>2 ^ (15-xr often L q)]
 by_cases h2:2≤(zd often often.length).length
 ·rw[if_pos h2]
  have F:=Zi h2 hL hn
  have:=F.full
  rw[show L-1+1=L by omega]at this
  rw[zK (g:=fun i=>2 ^ (15-L)*2 ^ (L-says (zd often often.length).length (wOf (zd often often.length)) (sOf (zd often often.length)) (L-1) i)) (fun i hi=>by
   have:=F.top i hi
   rw[aax h2,← Nat.pow_add]
   congr 1
   omega),YJ,this,← Nat.pow_add,show 15-L+L=15 by omega]
 ·rw[if_neg h2]
  by_cases h1:(zd often often.length).length=1
  ·rw[if_pos h1,h1]
   simp only[zm]
   rw[uQ h1,if_pos rfl]
  ·rw[if_neg h1,show (zd often often.length).length=0 by omega]
   rfl
end
def yr (often:List Nat)(L:Nat):List UInt8:=(List.range often.length).map fun q=>UInt8.ofNat (xr often L q)
def yV (often:List Nat)(limit:Int):List UInt8×Int :=
 if 300<often.length∨limit<1∨15<limit then ([],13)
 else if 2 ^ limit.toNat<(zd often often.length).length then ([],6)
 else (yr often limit.toNat,0)
def yg (l:List UInt8)(n:Nat):Nat:=zm n fun i=>if (l.getD i 0).toNat=0 then 0 else 2 ^ (15-(l.getD i 0).toNat)
def yL (l:List UInt8):Nat×Int:=if l.length≤300∧∀ i,i<l.length→(l.getD i 0).toNat≤15 then (yg l l.length,0) else (0,13)
section
variable {often:List Nat}{L:Nat}
theorem ys:(yr often L).length=often.length:=by simp[yr]
theorem uk {q:Nat}(hq:q<often.length)(hL:1≤L)(hL15:L≤15)(hn:(zd often often.length).length≤2 ^ L):xr often L q≤L:=by
 by_cases h0:often.getD q 0=0
 ·rw[Zj h0 hL hn]
  omega
 ·exact (jk hq h0 hL hn).2
theorem qp {q:Nat}(hq:q<often.length)(hL:1≤L)(hL15:L≤15)(hn:(zd often often.length).length≤2 ^ L):((yr often L).getD q 0).toNat=xr often L q:=by
 have:=uk hq hL hL15 hn
 have e:(yr often L).getD q 0=UInt8.ofNat (xr often L q):=by simp[yr,List.getD_eq_getElem?_getD,hq]
 rw[e,UInt8.toNat_ofNat',Nat.mod_eq_of_lt (by omega)]
end
end Go.Proofs.YtpmedpdjglcdpaaGreatDoor.Len
namespace Go.Proofs.YtpmedpdjglcdpaaGreatDoor.Can
open Len
def zg (l:List UInt8)(i:Nat):Nat:=(l.getD i 0).toNat
def vD (l:List UInt8)(n:Nat):Nat:=zm n fun i=>if zg l i=0 then 0 else 1
def Qy (l:List UInt8)(n:Nat):Nat:=zm n fun i=>if zg l i=1 then 1 else 0
def right (l:List UInt8):Bool:=decide ((yL l).2=0∧(vD l l.length=0∨vD l l.length=1∧Qy l l.length=1∨(yL l).1=32768))
def checkE (l:List UInt8):Int:=if right l then 0 else 7
theorem zU {l:List UInt8}(h:right l=true):checkE l=0:=by unfold checkE;rw[if_pos h]
theorem yw {l:List UInt8}(h:right l=false):checkE l=7:=by unfold checkE;rw[h];rfl
theorem Yq (s c:Nat):∀ n,(zm n fun t=>if t=s then c else 0)=if s<n then c else 0
 | 0=>rfl
 | n+1=>by
  rw[zm,Yq s c n]
  by_cases h:s<n
  ·rw[if_pos h,if_neg (by omega),if_pos (by omega)]
   omega
  ·by_cases e:n=s
   ·rw[if_neg h,if_pos e,if_pos (by omega)]
    omega
   ·rw[if_neg h,if_neg e,if_neg (by omega)]
def ahead (l:List UInt8)(k s t:Nat):Nat:=if zg l t≠0∧(zg l t<k∨zg l t=k∧t<s) then 2 ^ (15-zg l t) else 0
def acc (l:List UInt8)(k s:Nat):Nat:=zm l.length (ahead l k s)
theorem Zk (l:List UInt8):acc l 1 0=0:=jj _ fun i _=>by
 unfold ahead
 rw[if_neg]
 omega
theorem qq (l:List UInt8)(k:Nat):acc l (k+1) 0=acc l k l.length:=zK fun i hi=>by
 unfold ahead
 by_cases h:zg l i≠0∧(zg l i<k∨zg l i=k∧i<l.length)
 ·rw[if_pos h,if_pos ⟨h.1,by omega⟩]
 ·rw[if_neg h,if_neg (by omega)]
theorem xu (l:List UInt8){k s:Nat}(hk:1≤k)(hs:s<l.length):acc l k (s+1)=acc l k s+if zg l s=k then 2 ^ (15-k) else 0:=by
 have h1:(if zg l s=k then 2 ^ (15-k) else 0)=zm l.length fun t=>if t=s then (if zg l s=k then 2 ^ (15-k) else 0) else 0:=by rw[Yq,if_pos hs]
 rw[h1]
 unfold acc
 rw[← vj]
 refine zK fun i hi=>?_
 unfold ahead
 by_cases e:i=s
 ·subst e
  rw[if_pos rfl]
  by_cases hl:zg l i=k
  ·rw[if_pos hl,if_pos ⟨by omega,by omega⟩,if_neg (by omega),hl]
   omega
  ·rw[if_neg hl]
   by_cases h:zg l i≠0∧(zg l i<k∨zg l i=k∧i<i)
   ·rw[if_pos h,if_pos ⟨h.1,by omega⟩]
    rfl
   ·rw[if_neg h,if_neg (by omega)]
 ·rw[if_neg e]
  by_cases h:zg l i≠0∧(zg l i<k∨zg l i=k∧i<s)
  ·rw[if_pos h,if_pos ⟨h.1,by omega⟩]
   rfl
  ·rw[if_neg h,if_neg (by omega)]
theorem Zl (l:List UInt8)(k s:Nat):acc l k s≤yg l l.length:=xY fun i _=>by
 unfold ahead zg
 split
 ·rename_i h
  rw[if_neg h.1]
  exact Nat.le_refl _
 ·omega
def word (l:List UInt8)(s:Nat):Nat:=if zg l s=0 then 0 else acc l (zg l s) s / 2 ^ (15-zg l s)
def zW (l:List UInt8):List Nat:=(List.range l.length).map (word l)
def yH (l:List UInt8):List Nat×Int:=if right l then (zW l,0) else ([],7)
theorem qr {l:List UInt8}(h:(yL l).2=0):l.length≤300∧(∀ i,i<l.length→zg l i≤15)∧(yL l).1=yg l l.length:=by
 unfold yL at *
 split at h
 ·rename_i h2
  rw[if_pos h2]
  exact⟨h2.1,h2.2,rfl⟩
 ·simp at h
theorem YN {l:List UInt8}:∀ n,n≤l.length→yg l n≤16384*vD l n
 | 0,_=>by simp[yg,vD,zm]
 | n+1,h=>by
  have:=YN (l:=l) n (by omega)
  unfold yg vD at *
  rw[zm,zm]
  unfold zg at *
  by_cases h0:(l.getD n 0).toNat=0
  ·rw[if_pos h0,if_pos h0]
   omega
  ·rw[if_neg h0,if_neg h0]
   have:2 ^ (15-(l.getD n 0).toNat)≤2 ^ 14:=Nat.pow_le_pow_right (by omega) (by omega)
   omega
theorem zD {l:List UInt8}(h:right l=true):l.length≤300∧(∀ i,i<l.length→zg l i≤15)∧yg l l.length≤32768:=by
 have h1:=of_decide_eq_true h
 obtain⟨k1,k2,k3⟩:=qr h1.1
 refine⟨k1,k2,?_⟩
 have hu:=YN (l:=l) l.length (Nat.le_refl _)
 rcases h1.2 with h2|h2|h2
 ·rw[h2]at hu;omega
 ·rw[h2.1]at hu;omega
 ·omega
section
variable {l:List UInt8}
theorem acm {n c:Nat}{f:Nat→Nat}(h:∀ i,i<n→c ∣ f i):c ∣ zm n f:=by
 induction n with
 | zero=>exact⟨0,by simp[zm]⟩
 | succ n ih =>
  rw[zm]
  exact Nat.dvd_add (ih fun i hi=>h i (by omega)) (h n (by omega))
theorem aay (k s:Nat):2 ^ (15-k) ∣ acc l k s:=acm fun i _=>by
 unfold ahead
 split
 ·exact Nat.pow_dvd_pow 2 (by omega)
 ·exact⟨0,by simp⟩
theorem qt {s:Nat}(h0:zg l s≠0):word l s*2 ^ (15-zg l s)=acc l (zg l s) s:=by
 unfold word
 rw[if_neg h0]
 exact Nat.div_mul_cancel (aay _ _)
theorem Yr (hr:right l=true){s:Nat}(hs:s<l.length):word l s<2 ^ 15:=by
 by_cases h0:zg l s=0
 ·unfold word
  rw[if_pos h0]
  decide
 ·obtain⟨_,h15,hk⟩:=zD hr
  have h1:=Zl l (zg l s) (s+1)
  rw[xu l (by omega) hs,if_pos rfl,← qt h0]at h1
  have h2:0<2 ^ (15-zg l s):=Nat.pow_pos (by omega)
  have h3:word l s*1≤word l s*2 ^ (15-zg l s):=Nat.mul_le_mul_left _ h2
  omega
end
end Go.Proofs.YtpmedpdjglcdpaaGreatDoor.Can
namespace Go.Proofs.YtpmedpdjglcdpaaGreatDoor.Can
open Len
def cnt (l:List UInt8)(n k:Nat):Nat:=zm n fun i=>if zg l i=k then 1 else 0
def fst (l:List UInt8)(k:Nat):Nat:=if k=0 then 0 else acc l k 0 / 2 ^ (15-k)
theorem vm (l:List UInt8)(n k:Nat):cnt l (n+1) k=cnt l n k+if zg l n=k then 1 else 0:=rfl
theorem acn (l:List UInt8)(k:Nat):∀ n,cnt l n k≤n
 | 0=>Nat.le_refl _
 | n+1=>by
  have:=acn l k n
  rw[vm]
  split<;>omega
theorem aaz (l:List UInt8){k:Nat}(hk:1≤k):∀ s,s≤l.length→acc l k s=acc l k 0+cnt l s k*2 ^ (15-k)
 | 0,_=>by simp[cnt,zm]
 | s+1,h=>by
  rw[xu l hk (by omega),aaz l hk s (by omega),vm]
  split
  ·rw[Nat.add_mul,Nat.one_mul,Nat.add_assoc]
  ·simp
theorem aaA (l:List UInt8){k:Nat}(hk:1≤k):fst l k*2 ^ (15-k)=acc l k 0:=by
 unfold fst
 rw[if_neg (by omega)]
 exact Nat.div_mul_cancel (aay _ _)
theorem ady (l:List UInt8):fst l 1=0:=by
 unfold fst
 rw[if_neg (by omega),Zk,Nat.zero_div]
theorem Ub (l:List UInt8){k:Nat}(hk:1≤k)(s:Nat)(hs:s≤l.length):(fst l k+cnt l s k)*2 ^ (15-k)=acc l k s:=by
 rw[Nat.add_mul,aaA l hk,← aaz l hk s hs]
theorem aco (l:List UInt8){k:Nat}(hk:1≤k)(h15:k<15):fst l (k+1)=(fst l k+cnt l l.length k)*2:=by
 have h1:=Ub l hk l.length (Nat.le_refl _)
 rw[← qq,← aaA l (k:=k+1) (by omega),show 15-k=15-(k+1)+1 by omega,Nat.pow_succ,← Nat.mul_assoc,Nat.mul_right_comm]at h1
 exact (Nat.eq_of_mul_eq_mul_right (Nat.pow_pos (by omega)) h1).symm
theorem acp {l:List UInt8}(hr:right l=true){k:Nat}(hk:1≤k)(s:Nat)(hs:s≤l.length):fst l k+cnt l s k≤32768:=by
 have h1:=Zl l k s
 rw[← Ub l hk s hs]at h1
 have h2:=(zD hr).2.2
 have h3:(fst l k+cnt l s k)*1≤(fst l k+cnt l s k)*2 ^ (15-k):=Nat.mul_le_mul_left _ (Nat.pow_pos (by omega))
 omega
theorem acq (l:List UInt8){s:Nat}(hs:s<l.length)(h0:zg l s≠0):word l s=fst l (zg l s)+cnt l s (zg l s):=by
 unfold word
 rw[if_neg h0,← Ub l (by omega) s (by omega),Nat.mul_div_cancel _ (Nat.pow_pos (by omega))]
theorem Uc {l:List UInt8}(c:Nat→Nat):∀ n,(∀ i,i<n→zg l i≤15)→(zm 15 fun j=>cnt l n (j+1)*c (j+1))=zm n fun i=>if zg l i=0 then 0 else c (zg l i)
 | 0,_=>jj _ fun i _=>by simp[cnt,zm]
 | n+1,h=>by
  have ih:=Uc c n (fun i hi=>h i (by omega))
  have e:(zm 15 fun j=>cnt l (n+1) (j+1)*c (j+1))=zm 15 fun j=>cnt l n (j+1)*c (j+1)+(if zg l n=j+1 then c (j+1) else 0):=zK fun j _=>by
   rw[vm,Nat.add_mul]
   split<;>simp
  have e3:(zm 15 fun j=>if zg l n=j+1 then c (j+1) else 0)=if zg l n=0 then 0 else c (zg l n):=by
   by_cases h0:zg l n=0
   ·rw[if_pos h0]
    exact jj _ fun j _=>if_neg (by omega)
   ·rw[if_neg h0]
    have e2:(zm 15 fun j=>if zg l n=j+1 then c (j+1) else 0)=zm 15 fun j=>if j=zg l n-1 then c (zg l n) else 0:=zK fun j _=>by
     by_cases hj:zg l n=j+1
     ·rw[if_pos hj,if_pos (by omega),hj]
     ·rw[if_neg hj,if_neg (by omega)]
    have:=h n (by omega)
    rw[e2,Yq,if_pos (by omega)]
  rw[e,vj,ih,e3]
  rfl
def zE (f:Nat→Nat)(n:Nat):Nat:=zm n fun j=>f (j+1)
def vE (f:Nat→Nat)(n:Nat):Nat:=zm n fun j=>f (j+1)*2 ^ (15-(j+1))
def jS (f:Nat→Nat):Bool:=decide (zE f 15=0∨zE f 15=1∧f 1=1∨vE f 15=32768)
theorem aa3 {f:Nat→Nat}(hf:∀ k,f k≤300)(n:Nat):zE f n≤n*300:=by
 rw[← yC 300 n]
 exact xY fun j _=>hf _
theorem Qz {f:Nat→Nat}(hf:∀ k,f k≤300)(n:Nat):vE f n≤n*9830400:=by
 rw[← yC 9830400 n]
 refine xY fun j _=>?_
 have h1:2 ^ (15-(j+1))≤2 ^ 15:=Nat.pow_le_pow_right (by omega) (by omega)
 have h2:=Nat.mul_le_mul (hf (j+1)) h1
 omega
theorem Yb {l:List UInt8}(hn:l.length≤300)(h15:∀ i,i<l.length→zg l i≤15):jS (cnt l l.length)=right l:=by
 have hk:yL l=(yg l l.length,0):=if_pos ⟨hn,h15⟩
 have h1:zE (cnt l l.length) 15=vD l l.length:=by
  have:=Uc (l:=l) (fun _=>1) l.length h15
  simp only[Nat.mul_one]at this
  exact this
 have h2:vE (cnt l l.length) 15=yg l l.length:=Uc (l:=l) (fun k=>2 ^ (15-k)) l.length h15
 unfold jS right
 rw[h1,h2,hk]
 apply decide_eq_decide.2
 constructor
 ·exact fun h=>⟨rfl,h⟩
 ·exact fun h=>h.2
theorem YO {l:List UInt8}(hn:300<l.length):right l=false:=decide_eq_false fun h=>by
 have:=(qr h.1).1
 omega
theorem QA {l:List UInt8}{i:Nat}(hi:i<l.length)(h:15<zg l i):right l=false:=decide_eq_false fun h2=>by
 have:=(qr h2.1).2.1 i hi
 omega
def ya (l:List UInt8)(s:Nat):List Nat:=(List.range l.length).map fun t=>if t<s then word l t else 0
theorem Jk (l:List UInt8)(s:Nat):(ya l s).length=l.length:=by simp[ya]
theorem Ud (l:List UInt8):ya l 0=List.replicate l.length 0:=by
 refine List.ext_getElem (by simp[ya]) fun t h1 h2=>?_
 simp[ya]
theorem Jl (l:List UInt8):ya l l.length=zW l:=by
 refine List.ext_getElem (by simp[ya,zW]) fun t h1 h2=>?_
 have:t<l.length:=by simpa[ya] using h1
 simp[ya,zW,this]
theorem Jm (l:List UInt8)(s:Nat):(ya l s).set s (word l s)=ya l (s+1):=by
 refine List.ext_getElem (by simp[ya]) fun t h1 h2=>?_
 rw[List.getElem_set]
 simp only[ya,List.getElem_map,List.getElem_range]
 split
 ·rename_i e
  rw[if_pos (by omega),e]
 ·rename_i e
  by_cases h:t<s
  ·rw[if_pos h,if_pos (by omega)]
  ·rw[if_neg h,if_neg (by omega)]
theorem Ue (l:List UInt8){s:Nat}(h:zg l s=0):ya l s=ya l (s+1):=by
 have e:word l s=0:=if_pos h
 refine List.ext_getElem (by simp[ya]) fun t h1 h2=>?_
 simp only[ya,List.getElem_map,List.getElem_range]
 by_cases ht:t=s
 ·rw[if_neg (by omega),if_pos (by omega),ht,e]
 ·by_cases h:t<s
  ·rw[if_pos h,if_pos (by omega)]
  ·rw[if_neg h,if_neg (by omega)]
end Go.Proofs.YtpmedpdjglcdpaaGreatDoor.Can
namespace Go.Proofs.YtpmedpdjglcdpaaGreatDoor.Len
abbrev PI:=Nat×Nat
def aa4:List Nat→Nat
 | [s]=>s
 | _=>300
def pOf (x:Item):PI:=(x.1,aa4 x.2)
def zX:List PI→List PI
 | a::b::r=>(a.1+b.1,300)::zX r
 | _=>[]
def yd:List PI→List PI→List PI
 | [],ps=>ps
 | ls,[]=>ls
 | a::ls,b::ps=>if a.1≤b.1 then a::yd ls (b::ps) else b::yd (a::ls) ps
termination_by ls ps=>ls.length+ps.length
theorem ul (l:List PI):yd l []=l:=by cases l<;>simp[yd]
theorem vo (l:List PI):yd [] l=l:=by simp[yd]
theorem xP (a b:PI)(ls ps:List PI):yd (a::ls) (b::ps)=if a.1≤b.1 then a::yd ls (b::ps) else b::yd (a::ls) ps:=by rw[yd]
def zO (lv:List PI):Nat→List PI
 | 0=>lv
 | r+1=>yd lv (zX (zO lv r))
theorem um:∀ (ls ps:List PI),(yd ls ps).length=ls.length+ps.length
 | [],ps=>by rw[vo];simp
 | a::ls,[]=>by rw[ul];simp
 | a::ls,b::ps=>by
  rw[xP]
  split
  ·rw[List.length_cons,um ls (b::ps)];simp;omega
  ·rw[List.length_cons,um (a::ls) ps];simp;omega
termination_by ls ps=>ls.length+ps.length
theorem xk:∀ l:List PI,(zX l).length=l.length / 2
 | []=>rfl
 | [_]=>by simp[zX]
 | a::b::r=>by rw[zX,List.length_cons,xk r];simp;omega
theorem YP:∀ (l:List PI) (k:Nat),2*k+1<l.length→(zX l).getD k (0,0)=((l.getD (2*k) (0,0)).1+(l.getD (2*k+1) (0,0)).1,300)
 | [],k,h=>by simp at h
 | [_],k,h=>by simp at h
 | a::b::r,0,_=>by simp[zX]
 | a::b::r,k+1,h=>by
  have:=YP r k (by simp at h;omega)
  rw[zX]
  simp only[List.getD_cons_succ,show 2*(k+1)=2*k+1+1 by omega]
  exact this
def Full (l:List Item):Prop:=∀ x∈l,1≤x.2.length
theorem Zm (f:Item→PI)(hf:∀ x,(f x).1=x.1):∀ (ls ps:List Item),(zI ls ps).map f=yd (ls.map f) (ps.map f)
 | [],ps=>by rw[yo,List.map_nil,vo]
 | a::ls,[]=>by rw[yD,List.map_nil,ul]
 | a::ls,b::ps=>by
  rw[yu,List.map_cons,List.map_cons,xP,hf,hf]
  by_cases h:a.1≤b.1
  ·rw[if_pos h,if_pos h,List.map_cons,Zm f hf ls (b::ps),List.map_cons]
  ·rw[if_neg h,if_neg h,List.map_cons,Zm f hf (a::ls) ps,List.map_cons]
termination_by ls ps=>ls.length+ps.length
theorem Jn {a b:List Nat}(ha:1≤a.length)(hb:1≤b.length):aa4 (a++b)=300:=by
 match a,b,ha,hb with
 | x::a,y::b,_,_ =>
  cases a<;>rfl
theorem Vu:∀ {l:List Item},Full l→(zo l).map pOf=zX (l.map pOf)
 | [],_=>rfl
 | [_],_=>by simp[zo,zX]
 | a::b::r,h=>by
  rw[zo,List.map_cons,List.map_cons,List.map_cons,zX,Vu (l:=r) fun x hx=>h x (by simp[hx])]
  congr 1
  unfold pOf
  simp only
  rw[Jn (h a (by simp)) (h b (by simp))]
theorem YQ:∀ {l:List Item},Full l→Full (zo l)
 | [],_=>by simp[zo,Full]
 | [_],_=>by simp[zo,Full]
 | a::b::r,h=>by
  intro x hx
  rw[zo]at hx
  rcases List.mem_cons.1 hx with e|e
  ·rw[e]
   have:=h a (by simp)
   simp only[List.length_append]
   omega
  ·exact YQ (l:=r) (fun y hy=>h y (by simp[hy])) x e
theorem Zn:∀ {l:List Item},Full l→∀ x∈zo l,aa4 x.2=300
 | [],_,x,hx=>by simp[zo]at hx
 | [_],_,x,hx=>by simp[zo]at hx
 | a::b::r,h,x,hx=>by
  rw[zo]at hx
  rcases List.mem_cons.1 hx with e|e
  ·rw[e]
   exact Jn (h a (by simp)) (h b (by simp))
  ·exact Zn (l:=r) (fun y hy=>h y (by simp[hy])) x e
theorem YR {lv:List Item}(h:Full lv):∀ r,Full (row lv r)
 | 0=>h
 | r+1=>fun x hx=>by
  rw[row]at hx
  rcases ve hx with e|e
  ·exact h x e
  ·exact YQ (YR h r) x e
theorem Ys {lv:List Item}(h:Full lv):∀ r,(row lv r).map pOf=zO (lv.map pOf) r
 | 0=>rfl
 | r+1=>by rw[row,zO,Zm pOf (fun _=>rfl),Vu (YR h r),Ys h r]
theorem uR:∀ (ls ps:List Item) (m:Nat),m≤ls.length+ps.length→∃ a,a≤m∧a≤ls.length∧m-a≤ps.length ∧
  ∀ F:Item→Nat,(((zI ls ps).take m).map F).sum=((ls.take a).map F).sum+((ps.take (m-a)).map F).sum
 | ls,ps,0,_=>⟨0,by omega,by omega,by omega,fun F=>by simp⟩
 | [],ps,m+1,h=>⟨0,by omega,by omega,by simpa using h,fun F=>by rw[yo];simp⟩
 | a::ls,[],m+1,h=>⟨m+1,by omega,by simpa using h,by omega,fun F=>by rw[yD];simp⟩
 | a::ls,b::ps,m+1,h=>by
  rw[yu]
  by_cases hab:a.1≤b.1
  ·rw[if_pos hab]
   obtain⟨k,h1,h2,h3,h4⟩:=uR ls (b::ps) m (by simp at h ⊢;omega)
   refine⟨k+1,by omega,by simpa using h2,by rw[show m+1-(k+1)=m-k by omega];exact h3,fun F=>?_⟩
   rw[List.take_succ_cons,List.take_succ_cons,List.map_cons,List.map_cons,List.sum_cons,List.sum_cons,h4 F,show m+1-(k+1)=m-k by omega]
   omega
  ·rw[if_neg hab]
   obtain⟨k,h1,h2,h3,h4⟩:=uR (a::ls) ps m (by simp at h ⊢;omega)
   refine⟨k,by omega,h2,by simp;omega,fun F=>?_⟩
   rw[show m+1-k=(m-k)+1 by omega,List.take_succ_cons,List.take_succ_cons,List.map_cons,List.map_cons,List.sum_cons,List.sum_cons,h4 F]
   omega
termination_by ls ps=>ls.length+ps.length
theorem un (q:Nat):∀ l:List Item,(syms l).count q=(l.map fun x=>x.2.count q).sum
 | []=>rfl
 | a::l=>by rw[xn,List.count_append,un q l,List.map_cons,List.sum_cons]
theorem uo (p:PI→Bool)(f:Item→PI):∀ l:List Item,((l.map f).countP p)=(l.map fun x=>if p (f x) then 1 else 0).sum
 | []=>rfl
 | a::l=>by rw[List.map_cons,List.countP_cons,uo p f l,List.map_cons,List.sum_cons];omega
def packs (l:List PI):Nat:=l.countP fun x=>x.2==300
def XW (lv:List PI)(q:Nat):Nat→Nat→Nat
 | 0,m=>((zO lv 0).take m).countP fun x=>x.2==q
 | r+1,m=>(((zO lv (r+1)).take m).countP fun x=>x.2==q)+XW lv q r (2*packs ((zO lv (r+1)).take m))
def Single (l:List Item):Prop:=∀ x∈l,∃ s,x.2=[s]∧s<300
theorem Single.full {l:List Item}(h:Single l):Full l:=fun x hx=>by obtain⟨s,e,_⟩:=h x hx;rw[e];simp
theorem xN (F G:Item→Nat):∀ {l:List Item},(∀ x∈l,F x=G x)→(l.map F).sum=(l.map G).sum
 | [],_=>rfl
 | a::l,h=>by rw[List.map_cons,List.map_cons,List.sum_cons,List.sum_cons,h a (by simp),xN F G fun x hx=>h x (by simp[hx])]
theorem qu (F:Item→Nat){l:List Item}(h:∀ x∈l,F x=0):(l.map F).sum=0:=by
 rw[xN F (fun _=>0) h]
 induction l with
 | nil=>rfl
 | cons a l ih=>rw[List.map_cons,List.sum_cons,ih fun x hx=>h x (by simp[hx])]
theorem Jo (F:Item→Nat){l:List Item}(h:∀ x∈l,F x=1):(l.map F).sum=l.length:=by
 induction l with
 | nil=>rfl
 | cons a l ih=>rw[List.map_cons,List.sum_cons,ih fun x hx=>h x (by simp[hx]),h a (by simp),List.length_cons];omega
section
variable {lv:List Item}
theorem qv (q s:Nat):[s].count q=if s==q then 1 else 0:=by rw[List.count_singleton]
theorem Vv (h:Single lv)(r m:Nat)(hm:m≤(row lv (r+1)).length):∃ k,k≤m∧2*k≤(row lv r).length∧packs ((zO (lv.map pOf) (r+1)).take m)=k ∧
  ∀ q,q<300→(syms ((row lv (r+1)).take m)).count q=(((zO (lv.map pOf) (r+1)).take m).countP fun x=>x.2==q)+(syms ((row lv r).take (2*k))).count q:=by
 rw[ui]at hm
 obtain⟨a,h1,h2,h3,h4⟩:=uR lv (zo (row lv r)) m (by rw[yi];exact hm)
 rw[yi]at h3
 have hF:=YR h.full r
 refine⟨m-a,by omega,by omega,?_,fun q hq=>?_⟩
 ·unfold packs
  rw[← Ys h.full,← List.map_take,uo,row,h4,qu _ fun x hx=>?_,Jo _ fun x hx=>?_,List.length_take,yi]
  ·omega
  ·have:=Zn hF x (List.mem_of_mem_take hx)
   simp[pOf,this]
  ·obtain⟨s,e,hs⟩:=h x (List.mem_of_mem_take hx)
   simp only[pOf,e,aa4,beq_iff_eq]
   rw[if_neg (by omega)]
 ·rw[un,← Ys h.full,← List.map_take,uo,row,h4,h4]
  have e1:(((zo (row lv r)).take (m-a)).map fun x=>x.2.count q).sum=(syms ((row lv r).take (2*(m-a)))).count q:=by
   rw[← un]
   exact (ug (row lv r) (m-a) (by omega)).2 q
  have e2:(((zo (row lv r)).take (m-a)).map fun x=>if (pOf x).2==q then 1 else 0).sum=0:=qu _ fun x hx=>by
   have:=Zn hF x (List.mem_of_mem_take hx)
   simp only[pOf,this,beq_iff_eq]
   rw[if_neg (by omega)]
  have e3:((lv.take a).map fun x=>x.2.count q).sum=((lv.take a).map fun x=>if (pOf x).2==q then 1 else 0).sum:=xN _ _ fun x hx=>by
   obtain⟨s,e,hs⟩:=h x (List.mem_of_mem_take hx)
   simp only[pOf,e,aa4]
   exact qv q s
  rw[e1,e2,e3,Nat.add_zero]
theorem aaB (h:Single lv)(q:Nat)(hq:q<300):∀ (r m:Nat),m≤(row lv r).length→XW (lv.map pOf) q r m=(syms ((row lv r).take m)).count q
 | 0,m,_=>by
  rw[XW,zO,← List.map_take,uo,un,row]
  refine xN _ _ fun x hx=>?_
  obtain⟨s,e,hs⟩:=h x (List.mem_of_mem_take hx)
  simp only[pOf,e,aa4]
  exact (qv q s).symm
 | r+1,m,hm=>by
  obtain⟨k,_,h2,h3,h4⟩:=Vv h r m hm
  rw[XW,h3,aaB h q hq r (2*k) h2,h4 q hq]
theorem acr (h:Single lv)(r m:Nat)(hm:m≤(row lv (r+1)).length):2*packs ((zO (lv.map pOf) (r+1)).take m)≤(row lv r).length:=by
 obtain⟨k,_,h2,h3,_⟩:=Vv h r m hm
 rw[h3]
 exact h2
end
def vF (often:List Nat):Nat→List PI
 | 0=>[]
 | j+1=>if often.getD j 0=0 then vF often j else vF often j++[(often.getD j 0,j)]
theorem Vw (x:Item):∀ l:List Item,(uj x l).Perm (x::l)
 | []=>.refl _
 | a::l=>by
  rw[uj]
  split
  ·exact ((Vw x l).cons a).trans (.swap x a l)
  ·exact .refl _
theorem qw (often:List Nat):∀ j,(vF often j).Perm ((zd often j).map pOf)
 | 0=>.refl _
 | j+1=>by
  rw[vF,zd]
  split
  ·exact qw often j
  ·refine .trans ?_ ((Vw _ _).map pOf).symm
   rw[List.map_cons]
   exact (List.perm_append_singleton _ _).trans ((qw often j).cons _)
theorem adz (often:List Nat)(j:Nat):(vF often j).length=(zd often j).length:=by rw[(qw often j).length_eq,List.length_map]
theorem Jp {often:List Nat}{j:Nat}(hj:j≤300):Single (zd often j):=fun x hx=>by
 obtain⟨q,h1,_,e⟩:=yZ hx
 rw[e]
 exact⟨q,rfl,by omega⟩
def uI (a b:PI):Prop:=a.1<b.1∨a.1=b.1∧a.2<b.2
theorem aa5 (often:List Nat)(j:Nat):((zd often j).map pOf).Pairwise uI:=by
 rw[List.pairwise_map]
 refine (qo j).imp_of_mem fun {a b} ha hb hl=>?_
 obtain⟨q,_,_,rfl⟩:=yZ ha
 obtain⟨p,_,_,rfl⟩:=yZ hb
 exact hl
theorem QB {often:List Nat}{j:Nat}{l:List PI}(hp:l.Perm (vF often j))(hs:l.Pairwise fun a b=>uI a b∨a=b):l=(zd often j).map pOf :=
 (hp.trans (qw often j)).eq_of_pairwise (le:=fun a b=>uI a b∨a=b) (fun a b _ _ h1 h2=>by
  rcases h1 with h1|h1
  ·rcases h2 with h2 | h2
   ·unfold uI at h1 h2
    omega
   ·exact h2.symm
  ·exact h1) hs ((aa5 often j).imp fun h=>.inl h)
end Go.Proofs.YtpmedpdjglcdpaaGreatDoor.Len
