/- Packages that are merged: why the lengths that they say cost least. Plain mathematics of chapter 7. The lengths that packages say: full, and none cost less. The document's lengths as a value, and what follows of them. Right lengths and thei -/
import Derived.Test.YtaogpmombefmmaaGreatDoorRows
namespace Go.Proofs.YtaogpmombefmmaaGreatDoor.Len
def sumN:Nat→(Nat→Nat)→Nat
 | 0,_=>0
 | n+1,f=>sumN n f+f n
theorem sumN_congr:∀ {n:Nat} {f g:Nat→Nat},(∀ i,i < n→f i=g i)→sumN n f=sumN n g
 | 0,_,_,_=>rfl
 | n+1,f,g,h=>by rw [sumN,sumN,sumN_congr (fun i hi=>h i (by omega)),h n (by omega)]
theorem sumN_le:∀ {n:Nat} {f g:Nat→Nat},(∀ i,i < n→f i≤g i)→sumN n f≤sumN n g
 | 0,_,_,_=>Nat.le_refl _
 | n+1,f,g,h=>by
  rw [sumN,sumN]
  have:=sumN_le (n:=n) (f:=f) (g:=g) (fun i hi=>h i (by omega))
  have:=h n (by omega)
  omega
theorem sumN_add:∀ (n:Nat) (f g:Nat→Nat),sumN n (fun i=>f i+g i)=sumN n f+sumN n g
 | 0,_,_=>rfl
 | n+1,f,g=>by rw [sumN,sumN,sumN,sumN_add n f g];omega
theorem sumN_mul (c:Nat):∀ (n:Nat) (f:Nat→Nat),sumN n (fun i=>c*f i)=c*sumN n f
 | 0,_=>rfl
 | n+1,f=>by rw [sumN,sumN,sumN_mul c n f,Nat.mul_add]
theorem sumN_zero:∀ (n:Nat) {f:Nat→Nat},(∀ i,i < n→f i=0)→sumN n f=0
 | 0,_,_=>rfl
 | n+1,f,h=>by rw [sumN,sumN_zero n (fun i hi=>h i (by omega)),h n (by omega)]
theorem sumN_const (c:Nat):∀ n:Nat,sumN n (fun _=>c)=n*c
 | 0=>by simp [sumN]
 | n+1=>by rw [sumN,sumN_const c n,Nat.add_mul,Nat.one_mul]
theorem sumN_first (f:Nat→Nat)(a:Nat):∀ n:Nat,a≤n→sumN n (fun i=>if i < a then f i else 0)=sumN a f
 | 0,h=>by
  obtain rfl:a=0:=by omega
  rfl
 | n+1,h=>by
  rw [sumN]
  by_cases e:a=n+1
  ·subst e
   rw [if_pos (by omega),sumN]
   congr 1
   exact sumN_congr fun i hi=>if_pos (by omega)
  ·rw [sumN_first f a n (by omega),if_neg (by omega),Nat.add_zero]
def cntN (p:Nat→Bool):Nat→Nat
 | 0=>0
 | n+1=>cntN p n+(if p n then 1 else 0)
theorem cntN_le (p:Nat→Bool):∀ n,cntN p n≤n
 | 0=>Nat.le_refl _
 | n+1=>by
  rw [cntN]
  have:=cntN_le p n
  split <;> omega
theorem sumN_mono {f:Nat→Nat}:∀ {m n:Nat},m≤n→sumN m f≤sumN n f
 | m,0,h=>by
  obtain rfl:m=0:=by omega
  exact Nat.le_refl _
 | m,n+1,h=>by
  by_cases e:m=n+1
  ·rw [e];exact Nat.le_refl _
  ·have:=sumN_mono (f:=f) (m:=m) (n:=n) (by omega)
   rw [sumN]
   omega
theorem firsts_le {w:Nat→Nat}(p:Nat→Bool):∀ n:Nat,(∀ i j,i≤j→j < n→w i≤w j)→sumN (cntN p n) w≤sumN n fun i=>if p i then w i else 0
 | 0,_=>Nat.le_refl _
 | n+1,hs=>by
  have IH:=firsts_le p n fun i j hij hj=>hs i j hij (by omega)
  rw [cntN,sumN]
  by_cases h:p n=true
  ·rw [if_pos h,if_pos h,sumN]
   have:=hs (cntN p n) n (cntN_le p n) (by omega)
   omega
  ·rw [if_neg h,if_neg h]
   omega
abbrev Item:=Nat×List Nat
def wts (l:List Item):Nat:=(l.map Prod.fst).sum
def syms (l:List Item):List Nat:=l.flatMap Prod.snd
def Sorted (l:List Item):Prop:=l.Pairwise fun a b=>a.1≤b.1
def pairsOf:List Item→List Item
 | a :: b :: r=>(a.1+b.1,a.2++b.2) :: pairsOf r
 | _=>[]
def mergeI:List Item→List Item→List Item
 | [],ps=>ps
 | ls,[]=>ls
 | a :: ls,b :: ps=>if a.1≤b.1 then a :: mergeI ls (b :: ps) else b :: mergeI (a :: ls) ps
termination_by ls ps=>ls.length+ps.length
theorem mergeI_nil (l:List Item):mergeI l []=l:=by
 cases l <;> simp [mergeI]
theorem nil_mergeI (l:List Item):mergeI [] l=l:=by simp [mergeI]
theorem mergeI_cons (a b:Item)(ls ps:List Item):mergeI (a :: ls) (b :: ps)=if a.1≤b.1 then a :: mergeI ls (b :: ps) else b :: mergeI (a :: ls) ps:=by rw [mergeI]
theorem mergeI_len:∀ (ls ps:List Item),(mergeI ls ps).length=ls.length+ps.length
 | [],ps=>by rw [nil_mergeI];simp
 | a :: ls,[]=>by rw [mergeI_nil];simp
 | a :: ls,b :: ps=>by
  rw [mergeI_cons]
  split
  ·rw [List.length_cons,mergeI_len ls (b :: ps)];simp;omega
  ·rw [List.length_cons,mergeI_len (a :: ls) ps];simp;omega
termination_by ls ps=>ls.length+ps.length
theorem pairsOf_len:∀ l:List Item,(pairsOf l).length=l.length / 2
 | []=>rfl
 | [_]=>by simp [pairsOf]
 | a :: b :: r=>by rw [pairsOf,List.length_cons,pairsOf_len r];simp;omega
theorem wts_nil:wts []=0:=rfl
theorem wts_cons (a:Item)(l:List Item):wts (a :: l)=a.1+wts l:=by simp [wts]
theorem wts_append (a b:List Item):wts (a++b)=wts a+wts b:=by simp [wts]
theorem syms_cons (a:Item)(l:List Item):syms (a :: l)=a.2++syms l:=by simp [syms]
theorem merge_take:∀ (ls ps:List Item) (m:Nat),m≤ls.length+ps.length→∃ a,a≤m∧a≤ls.length∧m-a≤ps.length∧wts ((mergeI ls ps).take m)=wts (ls.take a)+wts (ps.take (m-a)) ∧
  ∀ s,(syms ((mergeI ls ps).take m)).count s=(syms (ls.take a)).count s+(syms (ps.take (m-a))).count s
 | ls,ps,0,_=>⟨0,by omega,by omega,by omega,by simp [wts],fun s=>by simp [syms]⟩
 | [],ps,m+1,h=>⟨0,by omega,by omega,by simpa using h,by rw [nil_mergeI];simp [wts],fun s=>by rw [nil_mergeI];simp [syms]⟩
 | a :: ls,[],m+1,h=>⟨m+1,by omega,by simpa using h,by omega,by rw [mergeI_nil];simp [wts],fun s=>by rw [mergeI_nil];simp [syms]⟩
 | a :: ls,b :: ps,m+1,h=>by
  rw [mergeI_cons]
  by_cases hab:a.1≤b.1
  ·rw [if_pos hab]
   obtain ⟨k,h1,h2,h3,h4,h5⟩:=merge_take ls (b :: ps) m (by simp at h ⊢;omega)
   refine ⟨k+1,by omega,by simpa using h2,by rw [show m+1-(k+1)=m-k by omega];exact h3,?_,fun s=>?_⟩
   ·rw [List.take_succ_cons,List.take_succ_cons,wts_cons,wts_cons,h4,show m+1-(k+1)=m-k by omega]
    omega
   ·rw [List.take_succ_cons,List.take_succ_cons,syms_cons,syms_cons,List.count_append,List.count_append,h5 s,show m+1-(k+1)=m-k by omega]
    omega
  ·rw [if_neg hab]
   obtain ⟨k,h1,h2,h3,h4,h5⟩:=merge_take (a :: ls) ps m (by simp at h ⊢;omega)
   refine ⟨k,by omega,h2,by simp;omega,?_,fun s=>?_⟩
   ·rw [show m+1-k=(m-k)+1 by omega,List.take_succ_cons,List.take_succ_cons,wts_cons,wts_cons,h4]
    omega
   ·rw [show m+1-k=(m-k)+1 by omega,List.take_succ_cons,List.take_succ_cons,syms_cons,syms_cons,List.count_append,List.count_append,h5 s]
    omega
termination_by ls ps=>ls.length+ps.length
theorem wts_take_le (a:Item)(l:List Item)(h:∀ x∈l,a.1≤x.1):∀ {m:Nat},m+1≤l.length→a.1+wts (l.take m)≤wts (l.take (m+1)):=by
 intro m hm
 have e:l.take (m+1)=l.take m++[l[m]'(by omega)]:=by rw [List.take_add_one,List.getElem?_eq_getElem (by omega)];rfl
 rw [e,wts_append,wts_cons,wts_nil]
 have:=h (l[m]'(by omega)) (List.getElem_mem _)
 omega
theorem merge_least:∀ (ls ps:List Item) (m c:Nat),Sorted ls→Sorted ps→c≤m→c≤ls.length→m-c≤ps.length→wts ((mergeI ls ps).take m)≤wts (ls.take c)+wts (ps.take (m-c))
 | ls,ps,0,_,_,_,_,_,_=>by simp [wts]
 | [],ps,m+1,c,_,_,h1,h2,_=>by
  obtain rfl:c=0:=by simpa using h2
  rw [nil_mergeI]
  simp [wts]
 | a :: ls,[],m+1,c,_,_,h1,h2,h3=>by
  obtain rfl:c=m+1:=by simp at h3;omega
  rw [mergeI_nil]
  simp [wts]
 | a :: ls,b :: ps,m+1,c,hl,hp,h1,h2,h3=>by
  have hl1:=(List.pairwise_cons.1 hl).1
  have hl2:=(List.pairwise_cons.1 hl).2
  have hp1:=(List.pairwise_cons.1 hp).1
  have hp2:=(List.pairwise_cons.1 hp).2
  rw [mergeI_cons]
  simp only [List.length_cons] at h2 h3
  by_cases hab:a.1≤b.1
  ·rw [if_pos hab,List.take_succ_cons,wts_cons]
   cases c with
   | succ c =>
    have IH:=merge_least ls (b :: ps) m c hl2 hp (by omega) (by omega) (by simp;omega)
    rw [List.take_succ_cons,wts_cons,show m+1-(c+1)=m-c by omega]
    omega
   | zero =>
    have IH:=merge_least ls (b :: ps) m 0 hl2 hp (by omega) (by omega) (by simp;omega)
    have h4:a.1+wts ((b :: ps).take m)≤wts ((b :: ps).take (m+1)):=wts_take_le a (b :: ps) (fun x hx=>by
     rcases List.mem_cons.1 hx with e | e
     ·rw [e];exact hab
     ·have:=hp1 x e;omega) (by simp;omega)
    rw [List.take_zero] at IH ⊢
    rw [Nat.sub_zero] at IH ⊢
    rw [wts_nil] at IH ⊢
    omega
  ·rw [if_neg hab,List.take_succ_cons,wts_cons]
   by_cases hc:c=m+1
   ·subst hc
    have IH:=merge_least (a :: ls) ps m m hl hp2 (by omega) (by simp;omega) (by omega)
    have h4:b.1+wts ((a :: ls).take m)≤wts ((a :: ls).take (m+1)):=wts_take_le b (a :: ls) (fun x hx=>by
     rcases List.mem_cons.1 hx with e | e
     ·rw [e];omega
     ·have:=hl1 x e;omega) (by simp;omega)
    rw [Nat.sub_self,List.take_zero,wts_nil] at IH ⊢
    omega
   ·have IH:=merge_least (a :: ls) ps m c hl hp2 (by omega) (by simp;omega) (by omega)
    rw [show m+1-c=(m-c)+1 by omega,List.take_succ_cons,wts_cons]
    omega
termination_by ls ps=>ls.length+ps.length
theorem merge_mem {ls ps:List Item}{x:Item}:x∈mergeI ls ps→x∈ls∨x∈ps:=by
 match ls,ps with
 | [],ps=>rw [nil_mergeI];exact .inr
 | a :: ls,[]=>rw [mergeI_nil];exact .inl
 | a :: ls,b :: ps =>
  rw [mergeI_cons]
  split
  ·intro h
   rcases List.mem_cons.1 h with e | e
   ·exact .inl (by rw [e];exact List.mem_cons_self)
   ·rcases merge_mem e with h | h
    ·exact .inl (List.mem_cons_of_mem _ h)
    ·exact .inr h
  ·intro h
   rcases List.mem_cons.1 h with e | e
   ·exact .inr (by rw [e];exact List.mem_cons_self)
   ·rcases merge_mem e with h | h
    ·exact .inl h
    ·exact .inr (List.mem_cons_of_mem _ h)
termination_by ls.length+ps.length
theorem merge_sorted:∀ {ls ps:List Item},Sorted ls→Sorted ps→Sorted (mergeI ls ps)
 | [],ps,_,h=>by rw [nil_mergeI];exact h
 | a :: ls,[],h,_=>by rw [mergeI_nil];exact h
 | a :: ls,b :: ps,hl,hp=>by
  have hl1:=(List.pairwise_cons.1 hl).1
  have hp1:=(List.pairwise_cons.1 hp).1
  rw [mergeI_cons]
  by_cases hab:a.1≤b.1
  ·rw [if_pos hab]
   refine List.pairwise_cons.2 ⟨fun x hx=>?_,merge_sorted (List.pairwise_cons.1 hl).2 hp⟩
   rcases merge_mem hx with h | h
   ·exact hl1 x h
   ·rcases List.mem_cons.1 h with e | e
    ·rw [e];exact hab
    ·have:=hp1 x e;omega
  ·rw [if_neg hab]
   refine List.pairwise_cons.2 ⟨fun x hx=>?_,merge_sorted hl (List.pairwise_cons.1 hp).2⟩
   rcases merge_mem hx with h | h
   ·rcases List.mem_cons.1 h with e | e
    ·rw [e];omega
    ·have:=hl1 x e;omega
   ·exact hp1 x h
termination_by ls ps=>ls.length+ps.length
theorem pairs_ge:∀ {l:List Item} {c:Nat},(∀ x∈l,c≤x.1)→∀ x∈pairsOf l,2*c≤x.1
 | [],_,_,x,h=>by simp [pairsOf] at h
 | [_],_,_,x,h=>by simp [pairsOf] at h
 | a :: b :: r,c,hl,x,h=>by
  rw [pairsOf] at h
  rcases List.mem_cons.1 h with e | e
  ·rw [e]
   have:=hl a (by simp)
   have:=hl b (by simp)
   simp only
   omega
  ·exact pairs_ge (fun y hy=>hl y (by simp [hy])) x e
theorem pairs_sorted:∀ {l:List Item},Sorted l→Sorted (pairsOf l)
 | [],_=>by simp [pairsOf,Sorted]
 | [_],_=>by simp [pairsOf,Sorted]
 | a :: b :: r,h=>by
  have h1:=List.pairwise_cons.1 h
  have h2:=List.pairwise_cons.1 h1.2
  rw [pairsOf]
  refine List.pairwise_cons.2 ⟨fun x hx=>?_,pairs_sorted h2.2⟩
  have:=pairs_ge (c:=b.1) (fun y hy=>h2.1 y hy) x hx
  have:=h1.1 b (by simp)
  simp only
  omega
theorem pairs_take:∀ (l:List Item) (k:Nat),2*k≤l.length→wts ((pairsOf l).take k)=wts (l.take (2*k))∧∀ s,(syms ((pairsOf l).take k)).count s=(syms (l.take (2*k))).count s
 | _,0,_=>by simp [wts,syms]
 | [],k+1,h=>by simp at h
 | [_],k+1,h=>by simp at h;omega
 | a :: b :: r,k+1,h=>by
  obtain ⟨i1,i2⟩:=pairs_take r k (by simp at h;omega)
  rw [pairsOf,List.take_succ_cons,show 2*(k+1)=2*k+1+1 by omega,List.take_succ_cons,List.take_succ_cons]
  refine ⟨?_,fun s=>?_⟩
  ·rw [wts_cons,wts_cons,wts_cons,i1]
   simp only
   omega
  ·rw [syms_cons,syms_cons,syms_cons,List.count_append,List.count_append,List.count_append,i2 s]
   simp only [List.count_append]
   omega
def leaves (n:Nat)(w s:Nat→Nat):List Item:=(List.range n).map fun i=>(w i,[s i])
def row (lv:List Item):Nat→List Item
 | 0=>lv
 | r+1=>mergeI lv (pairsOf (row lv r))
section
variable {n:Nat}{w s:Nat→Nat}
theorem leaves_len:(leaves n w s).length=n:=by simp [leaves]
theorem leaves_succ:leaves (n+1) w s=leaves n w s++[(w n,[s n])]:=by simp [leaves,List.range_succ]
theorem leaves_take {a:Nat}(h:a≤n):(leaves n w s).take a=leaves a w s:=by
 unfold leaves
 rw [← List.map_take,List.take_range,Nat.min_eq_left h]
theorem leaves_wts:∀ n,wts (leaves n w s)=sumN n w
 | 0=>rfl
 | n+1=>by rw [leaves_succ,sumN,← leaves_wts n];simp [wts]
theorem leaves_count (hs:∀ i j,i < n→j < n→s i=s j→i=j){i:Nat}(hi:i < n):∀ a,a≤n→(syms (leaves a w s)).count (s i)=if i < a then 1 else 0
 | 0,_=>by simp [leaves,syms]
 | a+1,h=>by
  have IH:=leaves_count hs hi a (by omega)
  have e:syms (leaves (a+1) w s)=syms (leaves a w s)++[s a]:=by rw [leaves_succ];simp [syms]
  rw [e,List.count_append,IH]
  by_cases hia:i=a
  ·subst hia
   simp
  ·have hne:s a≠s i:=fun h2=>hia (hs a i (by omega) hi h2).symm
   have hb:(s a == s i)=false:=beq_eq_false_iff_ne.2 hne
   rw [List.count_singleton,hb,if_neg Bool.false_ne_true,Nat.add_zero]
   by_cases h3:i < a
   ·rw [if_pos h3,if_pos (by omega)]
   ·rw [if_neg h3,if_neg (by omega)]
theorem leaves_other {x:Nat}:∀ {a:Nat},(∀ i,i < a→s i≠x)→(syms (leaves a w s)).count x=0
 | 0,_=>by simp [leaves,syms]
 | a+1,h=>by
  have e:syms (leaves (a+1) w s)=syms (leaves a w s)++[s a]:=by rw [leaves_succ];simp [syms]
  rw [e,List.count_append,leaves_other (fun i hi=>h i (by omega)),List.count_singleton,beq_eq_false_iff_ne.2 (h a (by omega)),if_neg Bool.false_ne_true]
theorem leaves_sorted (hw:∀ i j,i≤j→j < n→w i≤w j):Sorted (leaves n w s):=by
 unfold leaves Sorted
 rw [List.pairwise_map]
 exact (List.pairwise_lt_range (n:=n)).imp_of_mem fun {a b} ha hb h=>hw a b (Nat.le_of_lt h) (List.mem_range.1 hb)
theorem row_sorted {lv:List Item}(h:Sorted lv):∀ r,Sorted (row lv r)
 | 0=>h
 | r+1=>merge_sorted h (pairs_sorted (row_sorted h r))
theorem row_len (lv:List Item)(r:Nat):(row lv (r+1)).length=lv.length+(row lv r).length / 2:=by rw [row,mergeI_len,pairsOf_len]
theorem row_says (hs:∀ i j,i < n→j < n→s i=s j→i=j):∀ (r m:Nat),m≤(row (leaves n w s) r).length →
  ∃ c wd:Nat→Nat,(∀ i,i < n→(syms ((row (leaves n w s) r).take m)).count (s i)=c i)∧(∀ x,(∀ i,i < n→s i≠x)→(syms ((row (leaves n w s) r).take m)).count x=0) ∧
   (∀ i,i < n→c i≤r+1∧wd i+2 ^ (r+1-c i)≤2 ^ (r+1))∧(∀ i j,i≤j→j < n→c j≤c i)∧sumN n wd=m*2 ^ r∧wts ((row (leaves n w s) r).take m)=sumN n fun i=>w i*c i
 | 0,m,h=>by
  have hmn:m≤n:=by rw [row,leaves_len] at h;exact h
  refine ⟨fun i=>if i < m then 1 else 0,fun i=>if i < m then 1 else 0,fun i hi=>?_,fun x hx=>?_,fun i _=>?_,fun i j hij _=>?_,?_,?_⟩
  ·rw [row,leaves_take hmn,leaves_count hs hi m hmn]
  ·rw [row,leaves_take hmn]
   exact leaves_other fun i hi=>hx i (by omega)
  ·dsimp only
   by_cases e:i < m
   ·rw [if_pos e];simp
   ·rw [if_neg e];simp
  ·dsimp only
   by_cases e:j < m
   ·rw [if_pos e,if_pos (by omega)];exact Nat.le_refl _
   ·rw [if_neg e];omega
  ·rw [sumN_first (fun _=>1) m n hmn,sumN_const,Nat.pow_zero]
  ·rw [row,leaves_take hmn,leaves_wts]
   rw [← sumN_first w m n hmn]
   refine sumN_congr fun i _=>?_
   dsimp only
   by_cases e:i < m
   ·rw [if_pos e,if_pos e,Nat.mul_one]
   ·rw [if_neg e,if_neg e,Nat.mul_zero]
 | r+1,m,h=>by
  rw [row_len,leaves_len] at h
  obtain ⟨a,a1,a2,a3,a4,a5⟩:=merge_take (leaves n w s) (pairsOf (row (leaves n w s) r)) m (by rw [leaves_len,pairsOf_len];exact h)
  rw [leaves_len] at a2
  rw [pairsOf_len] at a3
  obtain ⟨c,wd,h1,h2,h3,h4,h5,h6⟩:=row_says hs r (2*(m-a)) (by omega)
  obtain ⟨p1,p2⟩:=pairs_take (row (leaves n w s) r) (m-a) (by omega)
  refine ⟨fun i=>(if i < a then 1 else 0)+c i,fun i=>(if i < a then 2 ^ (r+1) else 0)+wd i,fun i hi=>?_,fun x hx=>?_,fun i hi=>?_,fun i j hij hj=>?_,?_,?_⟩
  ·rw [row,a5 (s i),leaves_take a2,leaves_count hs hi a a2,p2 (s i),h1 i hi]
  ·rw [row,a5 x,leaves_take a2,leaves_other (fun i hi=>hx i (by omega)),p2 x,h2 x hx]
  ·dsimp only
   obtain ⟨k1,k2⟩:=h3 i hi
   have e2:2 ^ (r+1+1)=2*2 ^ (r+1):=by rw [Nat.pow_succ,Nat.mul_comm]
   by_cases e:i < a
   ·rw [if_pos e,if_pos e,show r+1+1-(1+c i)=r+1-c i by omega,e2]
    exact ⟨by omega,by omega⟩
   ·rw [if_neg e,if_neg e,Nat.zero_add,Nat.zero_add,show r+1+1-c i=(r+1-c i)+1 by omega,Nat.pow_succ,e2]
    have:2 ^ (r+1-c i)≤2 ^ (r+1):=Nat.pow_le_pow_right (by omega) (by omega)
    exact ⟨by omega,by omega⟩
  ·dsimp only
   have:=h4 i j hij hj
   by_cases e:j < a
   ·rw [if_pos e,if_pos (by omega)];omega
   ·rw [if_neg e];split <;> omega
  ·rw [sumN_add,sumN_first (fun _=>2 ^ (r+1)) a n a2,sumN_const,h5,Nat.pow_succ,Nat.mul_comm 2 (m-a),Nat.mul_assoc,← Nat.mul_comm (2 ^ r) 2,← Nat.add_mul]
   rw [show a+(m-a)=m by omega]
  ·rw [row,a4,leaves_take a2,leaves_wts,p1,h6,← sumN_first w a n a2,← sumN_add]
   refine sumN_congr fun i _=>?_
   dsimp only
   by_cases e:i < a
   ·rw [if_pos e,if_pos e,Nat.mul_add,Nat.mul_one]
   ·rw [if_neg e,if_neg e,Nat.mul_add,Nat.mul_zero]
theorem row_least (hw:∀ i j,i≤j→j < n→w i≤w j):∀ (r m:Nat) (l:Nat→Nat),(∀ i,i < n→l i≤r+1)→m*2 ^ r≤sumN n (fun i=>2 ^ (r+1)-2 ^ (r+1-l i)) →
  m≤(row (leaves n w s) r).length∧wts ((row (leaves n w s) r).take m)≤sumN n fun i=>w i*l i
 | 0,m,l,hl,h=>by
  have e:sumN n (fun i=>2 ^ (0+1)-2 ^ (0+1-l i))=cntN (fun i=>decide (0 < l i)) n:=by
   clear h hw
   induction n with
   | zero=>rfl
   | succ n ih =>
    rw [sumN,cntN,ih fun i hi=>hl i (by omega)]
    have:=hl n (by omega)
    rcases Nat.eq_zero_or_pos (l n) with h0 | h0
    ·rw [h0];simp
    ·have h1:l n=1:=by omega
     rw [h1];simp
  rw [e,Nat.pow_zero,Nat.mul_one] at h
  have hcn:=cntN_le (fun i=>decide (0 < l i)) n
  refine ⟨by rw [row,leaves_len];omega,?_⟩
  rw [row,leaves_take (by omega),leaves_wts]
  refine Nat.le_trans (sumN_mono h) (Nat.le_trans (firsts_le _ n hw) (sumN_le fun i _=>?_))
  by_cases h0:0 < l i
  ·rw [if_pos (by simpa using h0)]
   exact Nat.le_mul_of_pos_right _ h0
  ·rw [if_neg (by simpa using h0)]
   omega
 | r+1,m,l,hl,h=>by
  have hP:0 < 2 ^ (r+1):=Nat.pow_pos (by omega)
  have e:sumN n (fun i=>2 ^ (r+1+1)-2 ^ (r+1+1-l i))=cntN (fun i=>decide (0 < l i)) n*2 ^ (r+1)+sumN n (fun i=>2 ^ (r+1)-2 ^ (r+1-(l i-1))):=by
   clear h hw
   induction n with
   | zero=>rw [sumN,sumN,cntN];omega
   | succ n ih =>
    rw [sumN,sumN,cntN,ih fun i hi=>hl i (by omega),Nat.add_mul]
    have:=hl n (by omega)
    have e2:2 ^ (r+1+1)=2 ^ (r+1)+2 ^ (r+1):=by rw [Nat.pow_succ];omega
    rcases Nat.eq_zero_or_pos (l n) with h0 | h0
    ·rw [h0]
     simp
    ·rw [if_pos (by simpa using h0),show r+1+1-l n=r+1-(l n-1) by omega,Nat.one_mul,e2]
     have:2 ^ (r+1-(l n-1))≤2 ^ (r+1):=Nat.pow_le_pow_right (by omega) (by omega)
     omega
  rw [e] at h
  have hcn:=cntN_le (fun i=>decide (0 < l i)) n
  have hcost:sumN n (fun i=>w i*l i)=sumN n (fun i=>if decide (0 < l i) then w i else 0)+sumN n fun i=>w i*(l i-1):=by
   rw [← sumN_add]
   refine sumN_congr fun i _=>?_
   rcases Nat.eq_zero_or_pos (l i) with h0 | h0
   ·rw [h0];simp
   ·rw [if_pos (by simpa using h0)]
    have:l i=(l i-1)+1:=by omega
    rw [show w i*l i=w i*((l i-1)+1) by rw [← this],Nat.mul_add,Nat.mul_one]
    omega
  have hfl:=firsts_le (w:=w) (fun i=>decide (0 < l i)) n hw
  have hls:=leaves_sorted (s:=s) hw
  have hps:=pairs_sorted (row_sorted hls r)
  generalize cntN (fun i=>decide (0 < l i)) n=c at *
  rw [row_len,leaves_len]
  by_cases hmc:m≤c
  ·refine ⟨by omega,?_⟩
   have:=merge_least (leaves n w s) (pairsOf (row (leaves n w s) r)) m m hls hps (Nat.le_refl _) (by rw [leaves_len];omega) (by omega)
   rw [Nat.sub_self,List.take_zero,wts_nil,leaves_take (by omega),leaves_wts] at this
   have:=sumN_mono (f:=w) hmc
   rw [row]
   omega
  ·have hm2:(m-c)*2 ^ (r+1)=m*2 ^ (r+1)-c*2 ^ (r+1):=Nat.sub_mul _ _ _
   have IH:=row_least hw r (2*(m-c)) (fun i=>l i-1) (fun i hi=>by have:=hl i hi;omega) (by
    rw [Nat.mul_comm 2 (m-c),Nat.mul_assoc,Nat.mul_comm 2 (2 ^ r),← Nat.pow_succ,Nat.succ_eq_add_one,hm2]
    omega)
   obtain ⟨i1,i2⟩:=IH
   refine ⟨by omega,?_⟩
   have h1:=merge_least (leaves n w s) (pairsOf (row (leaves n w s) r)) m c hls hps (by omega) (by rw [leaves_len];exact hcn) (by rw [pairsOf_len];omega)
   rw [leaves_take hcn,leaves_wts,(pairs_take (row (leaves n w s) r) (m-c) (by omega)).1] at h1
   rw [row]
   omega
end
end Go.Proofs.YtaogpmombefmmaaGreatDoor.Len
namespace Go.Proofs.YtaogpmombefmmaaGreatDoor.Len
theorem sumN_shift:∀ (n:Nat) (f:Nat→Nat),sumN (n+1) f=f 0+sumN n fun i=>f (i+1)
 | 0,f=>by simp [sumN]
 | n+1,f=>by
  rw [sumN,sumN_shift n f,sumN]
  omega
theorem sumN_sub {c:Nat}:∀ (n:Nat) {g:Nat→Nat},(∀ i,i < n→g i≤c)→sumN n (fun i=>c-g i)+sumN n g=n*c
 | 0,_,_=>by simp [sumN]
 | n+1,g,h=>by
  rw [sumN,sumN,Nat.add_mul,Nat.one_mul]
  have:=sumN_sub (c:=c) n (g:=g) fun i hi=>h i (by omega)
  have:=h n (by omega)
  omega
theorem pow_le_of {a b:Nat}(h:a≤b):2 ^ a≤2 ^ b:=Nat.pow_le_pow_right (by omega) h
section
variable {n r:Nat}{w s l:Nat→Nat}
theorem wide (hK:sumN n (fun i=>2 ^ (r+1-l i))≤2 ^ (r+1)):(2*n-2)*2 ^ r≤sumN n fun i=>2 ^ (r+1)-2 ^ (r+1-l i):=by
 have h1:=sumN_sub (c:=2 ^ (r+1)) n (g:=fun i=>2 ^ (r+1-l i)) fun i _=>pow_le_of (by omega)
 have e:(2*n-2)*2 ^ r=n*2 ^ (r+1)-2 ^ (r+1):=by
  rw [Nat.pow_succ,Nat.sub_mul]
  have:2*n*2 ^ r=n*(2 ^ r*2):=by rw [Nat.mul_comm 2 n,Nat.mul_assoc,Nat.mul_comm 2]
  omega
 omega
def says (n:Nat)(w s:Nat→Nat)(r i:Nat):Nat:=(syms ((row (leaves n w s) r).take (2*n-2))).count (s i)
structure Fine (n r:Nat)(w s:Nat→Nat):Prop where
 enough:2*n-2≤(row (leaves n w s) r).length
 pos:∀ i,i < n→1≤says n w s r i
 top:∀ i,i < n→says n w s r i≤r+1
 anti:∀ i j,i≤j→j < n→says n w s r j≤says n w s r i
 full:sumN n (fun i=>2 ^ (r+1-says n w s r i))=2 ^ (r+1)
 none:∀ x,(∀ i,i < n→s i≠x)→(syms ((row (leaves n w s) r).take (2*n-2))).count x=0
 best:∀ l:Nat→Nat,(∀ i,i < n→l i≤r+1)→sumN n (fun i=>2 ^ (r+1-l i))≤2 ^ (r+1)→sumN n (fun i=>w i*says n w s r i)≤sumN n fun i=>w i*l i
theorem fine (hn:2≤n)(hnr:n≤2 ^ (r+1))(hw:∀ i j,i≤j→j < n→w i≤w j)(hw0:1≤w 0)(hs:∀ i j,i < n→j < n→s i=s j→i=j):Fine n r w s:=by
 have h0:=row_least (s:=s) hw r (2*n-2) (fun _=>r+1) (fun _ _=>Nat.le_refl _) (wide (by
  rw [sumN_congr (g:=fun _=>1) (fun i _=>by rw [Nat.sub_self,Nat.pow_zero]),sumN_const]
  omega))
 obtain ⟨c,wd,h1,h2,h3,h4,h5,h6⟩:=row_says (w:=w) hs r (2*n-2) h0.1
 have hP:0 < 2 ^ (r+1):=Nat.pow_pos (by omega)
 have hbest:∀ l:Nat→Nat,(∀ i,i < n→l i≤r+1)→sumN n (fun i=>2 ^ (r+1-l i))≤2 ^ (r+1)→sumN n (fun i=>w i*c i)≤sumN n fun i=>w i*l i:=fun l hl hK=>by
  rw [← h6]
  exact (row_least hw r (2*n-2) l hl (wide hK)).2
 have hle:sumN n (fun i=>2 ^ (r+1-c i))≤2 ^ (r+1):=by
  have k1:sumN n (fun i=>wd i+2 ^ (r+1-c i))≤sumN n fun _=>2 ^ (r+1):=sumN_le fun i hi=>(h3 i hi).2
  rw [sumN_add,h5,sumN_const] at k1
  have e:(2*n-2)*2 ^ r=n*2 ^ (r+1)-2 ^ (r+1):=by
   rw [Nat.pow_succ,Nat.sub_mul]
   have:2*n*2 ^ r=n*(2 ^ r*2):=by rw [Nat.mul_comm 2 n,Nat.mul_assoc,Nat.mul_comm 2]
   omega
  have:1*2 ^ (r+1)≤n*2 ^ (r+1):=Nat.mul_le_mul_right _ (by omega)
  omega
 obtain ⟨k,rfl⟩:∃ k,n=k+2:=⟨n-2,by omega⟩
 have hlast:1≤c (k+1):=by
  rcases Nat.eq_zero_or_pos (c (k+1)) with e | e
  ·rw [sumN,e,Nat.sub_zero] at hle
   have:sumN (k+1) (fun _=>1)≤sumN (k+1) fun i=>2 ^ (r+1-c i):=sumN_le fun i _=>Nat.pow_pos (by omega)
   rw [sumN_const] at this
   omega
  ·exact e
 have hpos:∀ i,i < k+2→1≤c i:=fun i hi=>Nat.le_trans hlast (h4 i (k+1) (by omega) (by omega))
 have hfull:sumN (k+2) (fun i=>2 ^ (r+1-c i))=2 ^ (r+1):=by
  rcases Nat.lt_or_ge (sumN (k+2) fun i=>2 ^ (r+1-c i)) (2 ^ (r+1)) with hlt | hge
  ·exfalso
   have hc0:=h3 0 (by omega)
   have hc1:=hpos 0 (by omega)
   by_cases h1':c 0=1
   ·have:sumN (k+2) (fun _=>2 ^ r)≤sumN (k+2) fun i=>2 ^ (r+1-c i):=sumN_le fun i hi=>by
     have:=h4 0 i (by omega) hi
     exact pow_le_of (by omega)
    rw [sumN_const] at this
    have h2':2*2 ^ r≤(k+2)*2 ^ r:=Nat.mul_le_mul_right _ (by omega)
    rw [Nat.pow_succ] at hlt
    omega
   ·have hdiv:sumN (k+2) (fun i=>2 ^ (r+1-c i))=2 ^ (r+1-c 0)*sumN (k+2) fun i=>2 ^ (c 0-c i):=by
     rw [← sumN_mul]
     refine sumN_congr fun i hi=>?_
     have:=h4 0 i (by omega) hi
     rw [← Nat.pow_add]
     congr 1
     omega
    have hpw:2 ^ (r+1)=2 ^ (r+1-c 0)*2 ^ c 0:=by
     rw [← Nat.pow_add]
     congr 1
     omega
    have hroom:sumN (k+2) (fun i=>2 ^ (r+1-c i))+2 ^ (r+1-c 0)≤2 ^ (r+1):=by
     rw [hdiv,hpw] at hlt ⊢
     have:=Nat.lt_of_mul_lt_mul_left hlt
     rw [← Nat.mul_succ]
     exact Nat.mul_le_mul_left _ this
    have hlow:=hbest (fun i=>if i=0 then c 0-1 else c i) (fun i hi=>by
     have:=(h3 i hi).1
     split <;> omega) (by
     rw [sumN_shift] at hroom ⊢
     simp only [if_false,if_true,Nat.add_one_ne_zero]
     have e:2 ^ (r+1-(c 0-1))=2 ^ (r+1-c 0)+2 ^ (r+1-c 0):=by
      rw [show r+1-(c 0-1)=(r+1-c 0)+1 by omega,Nat.pow_succ]
      omega
     omega)
    rw [sumN_shift,sumN_shift (k+1) fun i=>w i*if i=0 then c 0-1 else c i] at hlow
    simp only [Nat.add_one_ne_zero,if_false,if_true] at hlow
    have e:w 0*c 0=w 0*(c 0-1)+w 0:=by
     rw [← Nat.mul_succ]
     congr 1
     omega
    omega
  ·omega
 have hsay:∀ i,i < k+2→says (k+2) w s r i=c i:=fun i hi=>h1 i hi
 refine ⟨h0.1,fun i hi=>by rw [hsay i hi];exact hpos i hi,fun i hi=>by rw [hsay i hi];exact (h3 i hi).1,fun i j hij hj=>by rw [hsay i (by omega),hsay j hj];exact h4 i j hij hj,?_,h2,fun l hl hK=>?_⟩
 ·rw [sumN_congr (g:=fun i=>2 ^ (r+1-c i)) (fun i hi=>by rw [hsay i hi])]
  exact hfull
 ·rw [sumN_congr (g:=fun i=>w i*c i) (fun i hi=>by rw [hsay i hi])]
  exact hbest l hl hK
end
end Go.Proofs.YtaogpmombefmmaaGreatDoor.Len
namespace Go.Proofs.YtaogpmombefmmaaGreatDoor.Len
def insI (x:Item):List Item→List Item
 | []=>[x]
 | a :: l=>if a.1≤x.1 then a :: insI x l else x :: a :: l
def usedTo (often:List Nat):Nat→List Item
 | 0=>[]
 | j+1=>if often.getD j 0=0 then usedTo often j else insI (often.getD j 0,[j]) (usedTo often j)
def symOf (x:Item):Nat:=x.2.headD 0
def Lex (a b:Item):Prop:=a.1 < b.1∨a.1=b.1∧symOf a < symOf b
theorem insI_mem {x y:Item}:∀ {l:List Item},y∈insI x l↔y=x∨y∈l
 | []=>by simp [insI]
 | a :: l=>by
  rw [insI]
  split
  ·rw [List.mem_cons,insI_mem,List.mem_cons]
   constructor
   ·rintro (h | h | h)
    ·exact .inr (.inl h)
    ·exact .inl h
    ·exact .inr (.inr h)
   ·rintro (h | h | h)
    ·exact .inr (.inl h)
    ·exact .inl h
    ·exact .inr (.inr h)
  ·rw [List.mem_cons]
theorem insI_lex {x:Item}:∀ {l:List Item},l.Pairwise Lex→(∀ y∈l,symOf y < symOf x)→(insI x l).Pairwise Lex
 | [],_,_=>by simp [insI]
 | a :: l,h,hx=>by
  have h1:=List.pairwise_cons.1 h
  rw [insI]
  by_cases ha:a.1≤x.1
  ·rw [if_pos ha]
   refine List.pairwise_cons.2 ⟨fun y hy=>?_,insI_lex h1.2 fun y hy=>hx y (List.mem_cons_of_mem _ hy)⟩
   rcases insI_mem.1 hy with rfl | hy
   ·have:=hx a List.mem_cons_self
    rcases Nat.lt_or_eq_of_le ha with h | h
    ·exact .inl h
    ·exact .inr ⟨h,this⟩
   ·exact h1.1 y hy
  ·rw [if_neg ha]
   refine List.pairwise_cons.2 ⟨fun y hy=>?_,h⟩
   rcases List.mem_cons.1 hy with rfl | hy
   ·exact .inl (by omega)
   ·rcases h1.1 y hy with h | ⟨h,_⟩
    ·exact .inl (by omega)
    ·exact .inl (by omega)
theorem insI_sum (F:Item→Nat)(x:Item):∀ l:List Item,((insI x l).map F).sum=F x+(l.map F).sum
 | []=>by simp [insI]
 | a :: l=>by
  rw [insI]
  split
  ·rw [List.map_cons,List.sum_cons,insI_sum F x l,List.map_cons,List.sum_cons]
   omega
  ·simp
section
variable {often:List Nat}
theorem used_each:∀ {j:Nat} {x:Item},x∈usedTo often j→∃ q,q < j∧often.getD q 0≠0∧x=(often.getD q 0,[q])
 | 0,x,h=>by simp [usedTo] at h
 | j+1,x,h=>by
  rw [usedTo] at h
  by_cases h0:often.getD j 0=0
  ·rw [if_pos h0] at h
   obtain ⟨q,h1,h2⟩:=used_each h
   exact ⟨q,by omega,h2⟩
  ·rw [if_neg h0] at h
   rcases insI_mem.1 h with e | h
   ·exact ⟨j,by omega,h0,e⟩
   ·obtain ⟨q,h1,h2⟩:=used_each h
    exact ⟨q,by omega,h2⟩
theorem used_all:∀ {j q:Nat},q < j→often.getD q 0≠0→(often.getD q 0,[q])∈usedTo often j
 | j+1,q,h,hq=>by
  rw [usedTo]
  by_cases e:q=j
  ·subst e
   rw [if_neg hq]
   exact insI_mem.2 (.inl rfl)
  ·have:=used_all (j:=j) (q:=q) (by omega) hq
   split
   ·exact this
   ·exact insI_mem.2 (.inr this)
theorem used_lex:∀ j:Nat,(usedTo often j).Pairwise Lex
 | 0=>by simp [usedTo]
 | j+1=>by
  rw [usedTo]
  split
  ·exact used_lex j
  ·refine insI_lex (used_lex j) fun y hy=>?_
   obtain ⟨q,h1,_,rfl⟩:=used_each hy
   exact h1
theorem used_sum (F:Nat→Nat):∀ j:Nat,((usedTo often j).map fun x=>F (symOf x)).sum=sumN j fun q=>if often.getD q 0=0 then 0 else F q
 | 0=>rfl
 | j+1=>by
  rw [usedTo,sumN,← used_sum F j]
  split
  ·simp
  ·rw [insI_sum fun x=>F (symOf x)]
   simp [symOf]
   omega
theorem used_len:∀ j:Nat,(usedTo often j).length=sumN j fun q=>if often.getD q 0=0 then 0 else 1:=fun j=>by
 have:=used_sum (often:=often) (fun _=>1) j
 rw [← this]
 generalize usedTo often j=X
 induction X with
 | nil=>rfl
 | cons a X ih=>rw [List.length_cons,ih,List.map_cons,List.sum_cons];omega
theorem used_le (j:Nat):(usedTo often j).length≤j:=by
 rw [used_len]
 have:sumN j (fun q=>if often.getD q 0=0 then 0 else 1)≤sumN j fun _=>1:=sumN_le fun i _=>by split <;> omega
 rw [sumN_const] at this
 omega
end
def wOf (X:List Item)(i:Nat):Nat:=(X.getD i (0,[])).1
def sOf (X:List Item)(i:Nat):Nat:=symOf (X.getD i (0,[]))
theorem sum_at (F:Nat→Nat):∀ X:List Item,(X.map fun x=>F (symOf x)).sum=sumN X.length fun i=>F (sOf X i)
 | []=>rfl
 | a :: X=>by
  rw [List.map_cons,List.sum_cons,sum_at F X,List.length_cons,sumN_shift]
  rfl
section
variable {often:List Nat}{j:Nat}
theorem getD_mem {X:List Item}{i:Nat}(h:i < X.length):X.getD i (0,[])∈X:=by
 rw [List.getD_eq_getElem?_getD,List.getElem?_eq_getElem h]
 exact List.getElem_mem h
theorem used_at {i:Nat}(h:i < (usedTo often j).length):sOf (usedTo often j) i < j∧often.getD (sOf (usedTo often j) i) 0≠0∧wOf (usedTo often j) i=often.getD (sOf (usedTo often j) i) 0∧(usedTo often j).getD i (0,[])=(wOf (usedTo often j) i,[sOf (usedTo often j) i]):=by
 obtain ⟨q,h1,h2,e⟩:=used_each (getD_mem h)
 unfold wOf sOf
 rw [e]
 exact ⟨h1,h2,rfl,rfl⟩
theorem used_leaves:usedTo often j=leaves (usedTo often j).length (wOf (usedTo often j)) (sOf (usedTo often j)):=by
 apply List.ext_getElem
 ·rw [leaves_len]
 ·intro i h1 h2
  have:=(used_at h1).2.2.2
  rw [List.getD_eq_getElem?_getD,List.getElem?_eq_getElem h1] at this
  simp only [leaves,List.getElem_map,List.getElem_range]
  exact this
theorem used_rise {a b:Nat}(hab:a < b)(hb:b < (usedTo often j).length):Lex ((usedTo often j).getD a (0,[])) ((usedTo often j).getD b (0,[])):=by
 have:=List.pairwise_iff_getElem.1 (used_lex (often:=often) j) a b (by omega) hb hab
 rw [List.getD_eq_getElem?_getD,List.getD_eq_getElem?_getD,List.getElem?_eq_getElem (by omega),List.getElem?_eq_getElem hb]
 exact this
theorem used_w:∀ a b,a≤b→b < (usedTo often j).length→wOf (usedTo often j) a≤wOf (usedTo often j) b:=fun a b hab hb=>by
 rcases Nat.lt_or_eq_of_le hab with h | h
 ·rcases used_rise h hb with h | ⟨h,_⟩
  ·exact Nat.le_of_lt h
  ·exact Nat.le_of_eq h
 ·rw [h]
  exact Nat.le_refl _
theorem used_s:∀ a b,a < (usedTo often j).length→b < (usedTo often j).length→sOf (usedTo often j) a=sOf (usedTo often j) b→a=b:=fun a b ha hb e=>by
 have wa:=(used_at ha).2.2.1
 have wb:=(used_at hb).2.2.1
 rcases Nat.lt_trichotomy a b with h | h | h
 ·rcases used_rise h hb with h | ⟨_,h⟩
  ·rw [e,← wb] at wa
   exact absurd h (by unfold wOf at wa;omega)
  ·unfold sOf at e;omega
 ·exact h
 ·rcases used_rise h ha with h | ⟨_,h⟩
  ·rw [e,← wb] at wa
   exact absurd h (by unfold wOf at wa;omega)
  ·unfold sOf at e;omega
theorem used_place {q:Nat}(hq:q < j)(h0:often.getD q 0≠0):∃ i,i < (usedTo often j).length∧sOf (usedTo often j) i=q:=by
 obtain ⟨i,hi,e⟩:=List.mem_iff_getElem.1 (used_all hq h0)
 refine ⟨i,hi,?_⟩
 unfold sOf
 rw [List.getD_eq_getElem?_getD,List.getElem?_eq_getElem hi]
 show symOf ((usedTo often j)[i])=q
 rw [e]
 rfl
theorem sum_used (F:Nat→Nat):(sumN j fun q=>if often.getD q 0=0 then 0 else F q)=sumN (usedTo often j).length fun i=>F (sOf (usedTo often j) i):=by
 rw [← used_sum,sum_at]
end
def lenN (often:List Nat)(L q:Nat):Nat :=
 if (usedTo often often.length).length < 2 then (syms (usedTo often often.length)).count q
 else (syms ((row (usedTo often often.length) (L-1)).take (2*(usedTo often often.length).length-2))).count q
section
variable {often:List Nat}{L:Nat}
theorem used_fine (h2:2≤(usedTo often often.length).length)(hL:1≤L)(hn:(usedTo often often.length).length≤2 ^ L) :
  Fine (usedTo often often.length).length (L-1) (wOf (usedTo often often.length)) (sOf (usedTo often often.length)) :=
 fine h2 (by rw [show L-1+1=L by omega];exact hn) used_w (by
  obtain ⟨_,h,e,_⟩:=used_at (often:=often) (j:=often.length) (i:=0) (by omega)
  omega) used_s
theorem lenN_at (h2:2≤(usedTo often often.length).length)(i:Nat) :
  lenN often L (sOf (usedTo often often.length) i)=says (usedTo often often.length).length (wOf (usedTo often often.length)) (sOf (usedTo often often.length)) (L-1) i:=by
 unfold lenN says
 rw [if_neg (by omega),← used_leaves]
theorem lenN_one (h1:(usedTo often often.length).length=1)(q:Nat):lenN often L q=if q=sOf (usedTo often often.length) 0 then 1 else 0:=by
 have hS:syms (usedTo often often.length)=[sOf (usedTo often often.length) 0]:=by
  have:=congrArg syms (used_leaves (often:=often) (j:=often.length))
  rw [h1] at this
  exact this
 unfold lenN
 rw [if_pos (by omega),hS]
 rw [List.count_singleton]
 by_cases e:q=sOf (usedTo often often.length) 0
 ·rw [if_pos e,e];simp
 ·have hb:(sOf (usedTo often often.length) 0 == q)=false:=beq_eq_false_iff_ne.2 fun h=>e h.symm
  rw [if_neg e,hb]
  rfl
theorem lenN_used {q:Nat}(hq:q < often.length)(h0:often.getD q 0≠0)(hL:1≤L)(hn:(usedTo often often.length).length≤2 ^ L):1≤lenN often L q∧lenN often L q≤L:=by
 obtain ⟨i,hi,rfl⟩:=used_place hq h0
 by_cases h2:2≤(usedTo often often.length).length
 ·have F:=used_fine h2 hL hn
  rw [lenN_at h2]
  have:=F.pos i hi
  have:=F.top i hi
  omega
 ·have h1:(usedTo often often.length).length=1:=by omega
  rw [lenN_one h1]
  obtain rfl:i=0:=by omega
  rw [if_pos rfl]
  omega
theorem lenN_free {q:Nat}(h0:often.getD q 0=0)(hL:1≤L)(hn:(usedTo often often.length).length≤2 ^ L):lenN often L q=0:=by
 have hne:∀ i,i < (usedTo often often.length).length→sOf (usedTo often often.length) i≠q:=fun i hi e=>(used_at hi).2.1 (by rw [e];exact h0)
 by_cases h2:2≤(usedTo often often.length).length
 ·have:=(used_fine h2 hL hn).none q hne
  rw [← used_leaves] at this
  unfold lenN
  rw [if_neg (by omega)]
  exact this
 ·unfold lenN
  rw [if_pos (by omega),used_leaves]
  exact leaves_other hne
theorem lenN_full (hL:1≤L)(hL15:L≤15)(hn:(usedTo often often.length).length≤2 ^ L) :
  (sumN often.length fun q=>if often.getD q 0=0 then 0 else 2 ^ (15-lenN often L q))=if 2≤(usedTo often often.length).length then 32768 else if (usedTo often often.length).length=1 then 16384 else 0:=by
 rw [sum_used fun q=>2 ^ (15-lenN often L q)]
 by_cases h2:2≤(usedTo often often.length).length
 ·rw [if_pos h2]
  have F:=used_fine h2 hL hn
  have:=F.full
  rw [show L-1+1=L by omega] at this
  rw [sumN_congr (g:=fun i=>2 ^ (15-L)*2 ^ (L-says (usedTo often often.length).length (wOf (usedTo often often.length)) (sOf (usedTo often often.length)) (L-1) i)) (fun i hi=>by
   have:=F.top i hi
   rw [lenN_at h2,← Nat.pow_add]
   congr 1
   omega),sumN_mul,this,← Nat.pow_add,show 15-L+L=15 by omega]
 ·rw [if_neg h2]
  by_cases h1:(usedTo often often.length).length=1
  ·rw [if_pos h1,h1]
   simp only [sumN]
   rw [lenN_one h1,if_pos rfl]
  ·rw [if_neg h1,show (usedTo often often.length).length=0 by omega]
   rfl
end
def lensL (often:List Nat)(L:Nat):List UInt8:=(List.range often.length).map fun q=>UInt8.ofNat (lenN often L q)
def lensE (often:List Nat)(limit:Int):List UInt8×Int :=
 if 300 < often.length∨limit < 1∨15 < limit then ([],13)
 else if 2 ^ limit.toNat < (usedTo often often.length).length then ([],6)
 else (lensL often limit.toNat,0)
def kraftOf (l:List UInt8)(n:Nat):Nat:=sumN n fun i=>if (l.getD i 0).toNat=0 then 0 else 2 ^ (15-(l.getD i 0).toNat)
def kraftE (l:List UInt8):Nat×Int:=if l.length≤300∧∀ i,i < l.length→(l.getD i 0).toNat≤15 then (kraftOf l l.length,0) else (0,13)
section
variable {often:List Nat}{L:Nat}
theorem lensL_len:(lensL often L).length=often.length:=by simp [lensL]
theorem lenN_small {q:Nat}(hq:q < often.length)(hL:1≤L)(hL15:L≤15)(hn:(usedTo often often.length).length≤2 ^ L):lenN often L q≤L:=by
 by_cases h0:often.getD q 0=0
 ·rw [lenN_free h0 hL hn]
  omega
 ·exact (lenN_used hq h0 hL hn).2
theorem lensL_at {q:Nat}(hq:q < often.length)(hL:1≤L)(hL15:L≤15)(hn:(usedTo often often.length).length≤2 ^ L):((lensL often L).getD q 0).toNat=lenN often L q:=by
 have:=lenN_small hq hL hL15 hn
 have e:(lensL often L).getD q 0=UInt8.ofNat (lenN often L q):=by simp [lensL,List.getD_eq_getElem?_getD,hq]
 rw [e,UInt8.toNat_ofNat',Nat.mod_eq_of_lt (by omega)]
end
end Go.Proofs.YtaogpmombefmmaaGreatDoor.Len
namespace Go.Proofs.YtaogpmombefmmaaGreatDoor.Can
open Len
def lenAt (l:List UInt8)(i:Nat):Nat:=(l.getD i 0).toNat
def usedC (l:List UInt8)(n:Nat):Nat:=sumN n fun i=>if lenAt l i=0 then 0 else 1
def oneC (l:List UInt8)(n:Nat):Nat:=sumN n fun i=>if lenAt l i=1 then 1 else 0
def right (l:List UInt8):Bool:=decide ((kraftE l).2=0∧(usedC l l.length=0∨usedC l l.length=1∧oneC l l.length=1∨(kraftE l).1=32768))
def checkE (l:List UInt8):Int:=if right l then 0 else 7
theorem check_right {l:List UInt8}(h:right l=true):checkE l=0:=by unfold checkE;rw [if_pos h]
theorem check_wrong {l:List UInt8}(h:right l=false):checkE l=7:=by unfold checkE;rw [h];rfl
theorem sumN_pt (s c:Nat):∀ n,(sumN n fun t=>if t=s then c else 0)=if s < n then c else 0
 | 0=>rfl
 | n+1=>by
  rw [sumN,sumN_pt s c n]
  by_cases h:s < n
  ·rw [if_pos h,if_neg (by omega),if_pos (by omega)]
   omega
  ·by_cases e:n=s
   ·rw [if_neg h,if_pos e,if_pos (by omega)]
    omega
   ·rw [if_neg h,if_neg e,if_neg (by omega)]
def ahead (l:List UInt8)(k s t:Nat):Nat:=if lenAt l t≠0∧(lenAt l t < k∨lenAt l t=k∧t < s) then 2 ^ (15-lenAt l t) else 0
def acc (l:List UInt8)(k s:Nat):Nat:=sumN l.length (ahead l k s)
theorem acc_start (l:List UInt8):acc l 1 0=0:=sumN_zero _ fun i _=>by
 unfold ahead
 rw [if_neg]
 omega
theorem acc_turn (l:List UInt8)(k:Nat):acc l (k+1) 0=acc l k l.length:=sumN_congr fun i hi=>by
 unfold ahead
 by_cases h:lenAt l i≠0∧(lenAt l i < k∨lenAt l i=k∧i < l.length)
 ·rw [if_pos h,if_pos ⟨h.1,by omega⟩]
 ·rw [if_neg h,if_neg (by omega)]
theorem acc_step (l:List UInt8){k s:Nat}(hk:1≤k)(hs:s < l.length):acc l k (s+1)=acc l k s+if lenAt l s=k then 2 ^ (15-k) else 0:=by
 have h1:(if lenAt l s=k then 2 ^ (15-k) else 0)=sumN l.length fun t=>if t=s then (if lenAt l s=k then 2 ^ (15-k) else 0) else 0:=by rw [sumN_pt,if_pos hs]
 rw [h1]
 unfold acc
 rw [← sumN_add]
 refine sumN_congr fun i hi=>?_
 unfold ahead
 by_cases e:i=s
 ·subst e
  rw [if_pos rfl]
  by_cases hl:lenAt l i=k
  ·rw [if_pos hl,if_pos ⟨by omega,by omega⟩,if_neg (by omega),hl]
   omega
  ·rw [if_neg hl]
   by_cases h:lenAt l i≠0∧(lenAt l i < k∨lenAt l i=k∧i < i)
   ·rw [if_pos h,if_pos ⟨h.1,by omega⟩]
    rfl
   ·rw [if_neg h,if_neg (by omega)]
 ·rw [if_neg e]
  by_cases h:lenAt l i≠0∧(lenAt l i < k∨lenAt l i=k∧i < s)
  ·rw [if_pos h,if_pos ⟨h.1,by omega⟩]
   rfl
  ·rw [if_neg h,if_neg (by omega)]
theorem acc_le (l:List UInt8)(k s:Nat):acc l k s≤kraftOf l l.length:=sumN_le fun i _=>by
 unfold ahead lenAt
 split
 ·rename_i h
  rw [if_neg h.1]
  exact Nat.le_refl _
 ·omega
def word (l:List UInt8)(s:Nat):Nat:=if lenAt l s=0 then 0 else acc l (lenAt l s) s / 2 ^ (15-lenAt l s)
def codesL (l:List UInt8):List Nat:=(List.range l.length).map (word l)
def codesE (l:List UInt8):List Nat×Int:=if right l then (codesL l,0) else ([],7)
theorem kraft_ok {l:List UInt8}(h:(kraftE l).2=0):l.length≤300∧(∀ i,i < l.length→lenAt l i≤15)∧(kraftE l).1=kraftOf l l.length:=by
 unfold kraftE at *
 split at h
 ·rename_i h2
  rw [if_pos h2]
  exact ⟨h2.1,h2.2,rfl⟩
 ·simp at h
theorem used_kraft {l:List UInt8}:∀ n,n≤l.length→kraftOf l n≤16384*usedC l n
 | 0,_=>by simp [kraftOf,usedC,sumN]
 | n+1,h=>by
  have:=used_kraft (l:=l) n (by omega)
  unfold kraftOf usedC at *
  rw [sumN,sumN]
  unfold lenAt at *
  by_cases h0:(l.getD n 0).toNat=0
  ·rw [if_pos h0,if_pos h0]
   omega
  ·rw [if_neg h0,if_neg h0]
   have:2 ^ (15-(l.getD n 0).toNat)≤2 ^ 14:=Nat.pow_le_pow_right (by omega) (by omega)
   omega
theorem right_facts {l:List UInt8}(h:right l=true):l.length≤300∧(∀ i,i < l.length→lenAt l i≤15)∧kraftOf l l.length≤32768:=by
 have h1:=of_decide_eq_true h
 obtain ⟨k1,k2,k3⟩:=kraft_ok h1.1
 refine ⟨k1,k2,?_⟩
 have hu:=used_kraft (l:=l) l.length (Nat.le_refl _)
 rcases h1.2 with h2 | h2 | h2
 ·rw [h2] at hu;omega
 ·rw [h2.1] at hu;omega
 ·omega
section
variable {l:List UInt8}
theorem sumN_dvd {n c:Nat}{f:Nat→Nat}(h:∀ i,i < n→c ∣ f i):c ∣ sumN n f:=by
 induction n with
 | zero=>exact ⟨0,by simp [sumN]⟩
 | succ n ih =>
  rw [sumN]
  exact Nat.dvd_add (ih fun i hi=>h i (by omega)) (h n (by omega))
theorem acc_dvd (k s:Nat):2 ^ (15-k) ∣ acc l k s:=sumN_dvd fun i _=>by
 unfold ahead
 split
 ·exact Nat.pow_dvd_pow 2 (by omega)
 ·exact ⟨0,by simp⟩
theorem word_mul {s:Nat}(h0:lenAt l s≠0):word l s*2 ^ (15-lenAt l s)=acc l (lenAt l s) s:=by
 unfold word
 rw [if_neg h0]
 exact Nat.div_mul_cancel (acc_dvd _ _)
theorem word_lt (hr:right l=true){s:Nat}(hs:s < l.length):word l s < 2 ^ 15:=by
 by_cases h0:lenAt l s=0
 ·unfold word
  rw [if_pos h0]
  decide
 ·obtain ⟨_,h15,hk⟩:=right_facts hr
  have h1:=acc_le l (lenAt l s) (s+1)
  rw [acc_step l (by omega) hs,if_pos rfl,← word_mul h0] at h1
  have h2:0 < 2 ^ (15-lenAt l s):=Nat.pow_pos (by omega)
  have h3:word l s*1≤word l s*2 ^ (15-lenAt l s):=Nat.mul_le_mul_left _ h2
  omega
end
end Go.Proofs.YtaogpmombefmmaaGreatDoor.Can
namespace Go.Proofs.YtaogpmombefmmaaGreatDoor.Can
open Len
def cnt (l:List UInt8)(n k:Nat):Nat:=sumN n fun i=>if lenAt l i=k then 1 else 0
def fst (l:List UInt8)(k:Nat):Nat:=if k=0 then 0 else acc l k 0 / 2 ^ (15-k)
theorem cnt_succ (l:List UInt8)(n k:Nat):cnt l (n+1) k=cnt l n k+if lenAt l n=k then 1 else 0:=rfl
theorem cnt_le (l:List UInt8)(k:Nat):∀ n,cnt l n k≤n
 | 0=>Nat.le_refl _
 | n+1=>by
  have:=cnt_le l k n
  rw [cnt_succ]
  split <;> omega
theorem acc_cnt (l:List UInt8){k:Nat}(hk:1≤k):∀ s,s≤l.length→acc l k s=acc l k 0+cnt l s k*2 ^ (15-k)
 | 0,_=>by simp [cnt,sumN]
 | s+1,h=>by
  rw [acc_step l hk (by omega),acc_cnt l hk s (by omega),cnt_succ]
  split
  ·rw [Nat.add_mul,Nat.one_mul,Nat.add_assoc]
  ·simp
theorem fst_mul (l:List UInt8){k:Nat}(hk:1≤k):fst l k*2 ^ (15-k)=acc l k 0:=by
 unfold fst
 rw [if_neg (by omega)]
 exact Nat.div_mul_cancel (acc_dvd _ _)
theorem fst_one (l:List UInt8):fst l 1=0:=by
 unfold fst
 rw [if_neg (by omega),acc_start,Nat.zero_div]
theorem fst_acc (l:List UInt8){k:Nat}(hk:1≤k)(s:Nat)(hs:s≤l.length):(fst l k+cnt l s k)*2 ^ (15-k)=acc l k s:=by
 rw [Nat.add_mul,fst_mul l hk,← acc_cnt l hk s hs]
theorem fst_next (l:List UInt8){k:Nat}(hk:1≤k)(h15:k < 15):fst l (k+1)=(fst l k+cnt l l.length k)*2:=by
 have h1:=fst_acc l hk l.length (Nat.le_refl _)
 rw [← acc_turn,← fst_mul l (k:=k+1) (by omega),show 15-k=15-(k+1)+1 by omega,Nat.pow_succ,← Nat.mul_assoc,Nat.mul_right_comm] at h1
 exact (Nat.eq_of_mul_eq_mul_right (Nat.pow_pos (by omega)) h1).symm
theorem fst_room {l:List UInt8}(hr:right l=true){k:Nat}(hk:1≤k)(s:Nat)(hs:s≤l.length):fst l k+cnt l s k≤32768:=by
 have h1:=acc_le l k s
 rw [← fst_acc l hk s hs] at h1
 have h2:=(right_facts hr).2.2
 have h3:(fst l k+cnt l s k)*1≤(fst l k+cnt l s k)*2 ^ (15-k):=Nat.mul_le_mul_left _ (Nat.pow_pos (by omega))
 omega
theorem word_fst (l:List UInt8){s:Nat}(hs:s < l.length)(h0:lenAt l s≠0):word l s=fst l (lenAt l s)+cnt l s (lenAt l s):=by
 unfold word
 rw [if_neg h0,← fst_acc l (by omega) s (by omega),Nat.mul_div_cancel _ (Nat.pow_pos (by omega))]
theorem cnt_sum {l:List UInt8}(c:Nat→Nat):∀ n,(∀ i,i < n→lenAt l i≤15)→(sumN 15 fun j=>cnt l n (j+1)*c (j+1))=sumN n fun i=>if lenAt l i=0 then 0 else c (lenAt l i)
 | 0,_=>sumN_zero _ fun i _=>by simp [cnt,sumN]
 | n+1,h=>by
  have ih:=cnt_sum c n (fun i hi=>h i (by omega))
  have e:(sumN 15 fun j=>cnt l (n+1) (j+1)*c (j+1))=sumN 15 fun j=>cnt l n (j+1)*c (j+1)+(if lenAt l n=j+1 then c (j+1) else 0):=sumN_congr fun j _=>by
   rw [cnt_succ,Nat.add_mul]
   split <;> simp
  have e3:(sumN 15 fun j=>if lenAt l n=j+1 then c (j+1) else 0)=if lenAt l n=0 then 0 else c (lenAt l n):=by
   by_cases h0:lenAt l n=0
   ·rw [if_pos h0]
    exact sumN_zero _ fun j _=>if_neg (by omega)
   ·rw [if_neg h0]
    have e2:(sumN 15 fun j=>if lenAt l n=j+1 then c (j+1) else 0)=sumN 15 fun j=>if j=lenAt l n-1 then c (lenAt l n) else 0:=sumN_congr fun j _=>by
     by_cases hj:lenAt l n=j+1
     ·rw [if_pos hj,if_pos (by omega),hj]
     ·rw [if_neg hj,if_neg (by omega)]
    have:=h n (by omega)
    rw [e2,sumN_pt,if_pos (by omega)]
  rw [e,sumN_add,ih,e3]
  rfl
def wordsF (f:Nat→Nat)(n:Nat):Nat:=sumN n fun j=>f (j+1)
def weightF (f:Nat→Nat)(n:Nat):Nat:=sumN n fun j=>f (j+1)*2 ^ (15-(j+1))
def rightF (f:Nat→Nat):Bool:=decide (wordsF f 15=0∨wordsF f 15=1∧f 1=1∨weightF f 15=32768)
theorem wordsF_le {f:Nat→Nat}(hf:∀ k,f k≤300)(n:Nat):wordsF f n≤n*300:=by
 rw [← sumN_const 300 n]
 exact sumN_le fun j _=>hf _
theorem weightF_le {f:Nat→Nat}(hf:∀ k,f k≤300)(n:Nat):weightF f n≤n*9830400:=by
 rw [← sumN_const 9830400 n]
 refine sumN_le fun j _=>?_
 have h1:2 ^ (15-(j+1))≤2 ^ 15:=Nat.pow_le_pow_right (by omega) (by omega)
 have h2:=Nat.mul_le_mul (hf (j+1)) h1
 omega
theorem right_of_counts {l:List UInt8}(hn:l.length≤300)(h15:∀ i,i < l.length→lenAt l i≤15):rightF (cnt l l.length)=right l:=by
 have hk:kraftE l=(kraftOf l l.length,0):=if_pos ⟨hn,h15⟩
 have h1:wordsF (cnt l l.length) 15=usedC l l.length:=by
  have:=cnt_sum (l:=l) (fun _=>1) l.length h15
  simp only [Nat.mul_one] at this
  exact this
 have h2:weightF (cnt l l.length) 15=kraftOf l l.length:=cnt_sum (l:=l) (fun k=>2 ^ (15-k)) l.length h15
 unfold rightF right
 rw [h1,h2,hk]
 apply decide_eq_decide.2
 constructor
 ·exact fun h=>⟨rfl,h⟩
 ·exact fun h=>h.2
theorem wrong_long {l:List UInt8}(hn:300 < l.length):right l=false:=decide_eq_false fun h=>by
 have:=(kraft_ok h.1).1
 omega
theorem wrong_high {l:List UInt8}{i:Nat}(hi:i < l.length)(h:15 < lenAt l i):right l=false:=decide_eq_false fun h2=>by
 have:=(kraft_ok h2.1).2.1 i hi
 omega
def codesTo (l:List UInt8)(s:Nat):List Nat:=(List.range l.length).map fun t=>if t < s then word l t else 0
theorem codesTo_len (l:List UInt8)(s:Nat):(codesTo l s).length=l.length:=by simp [codesTo]
theorem codesTo_none (l:List UInt8):codesTo l 0=List.replicate l.length 0:=by
 refine List.ext_getElem (by simp [codesTo]) fun t h1 h2=>?_
 simp [codesTo]
theorem codesTo_all (l:List UInt8):codesTo l l.length=codesL l:=by
 refine List.ext_getElem (by simp [codesTo,codesL]) fun t h1 h2=>?_
 have:t < l.length:=by simpa [codesTo] using h1
 simp [codesTo,codesL,this]
theorem codesTo_set (l:List UInt8)(s:Nat):(codesTo l s).set s (word l s)=codesTo l (s+1):=by
 refine List.ext_getElem (by simp [codesTo]) fun t h1 h2=>?_
 rw [List.getElem_set]
 simp only [codesTo,List.getElem_map,List.getElem_range]
 split
 ·rename_i e
  rw [if_pos (by omega),e]
 ·rename_i e
  by_cases h:t < s
  ·rw [if_pos h,if_pos (by omega)]
  ·rw [if_neg h,if_neg (by omega)]
theorem codesTo_pass (l:List UInt8){s:Nat}(h:lenAt l s=0):codesTo l s=codesTo l (s+1):=by
 have e:word l s=0:=if_pos h
 refine List.ext_getElem (by simp [codesTo]) fun t h1 h2=>?_
 simp only [codesTo,List.getElem_map,List.getElem_range]
 by_cases ht:t=s
 ·rw [if_neg (by omega),if_pos (by omega),ht,e]
 ·by_cases h:t < s
  ·rw [if_pos h,if_pos (by omega)]
  ·rw [if_neg h,if_neg (by omega)]
end Go.Proofs.YtaogpmombefmmaaGreatDoor.Can
namespace Go.Proofs.YtaogpmombefmmaaGreatDoor.Len
abbrev PI:=Nat×Nat
def pSym:List Nat→Nat
 | [s]=>s
 | _=>300
def pOf (x:Item):PI:=(x.1,pSym x.2)
def pairsP:List PI→List PI
 | a :: b :: r=>(a.1+b.1,300) :: pairsP r
 | _=>[]
def mergeP:List PI→List PI→List PI
 | [],ps=>ps
 | ls,[]=>ls
 | a :: ls,b :: ps=>if a.1≤b.1 then a :: mergeP ls (b :: ps) else b :: mergeP (a :: ls) ps
termination_by ls ps=>ls.length+ps.length
theorem mergeP_nil (l:List PI):mergeP l []=l:=by cases l <;> simp [mergeP]
theorem nil_mergeP (l:List PI):mergeP [] l=l:=by simp [mergeP]
theorem mergeP_cons (a b:PI)(ls ps:List PI):mergeP (a :: ls) (b :: ps)=if a.1≤b.1 then a :: mergeP ls (b :: ps) else b :: mergeP (a :: ls) ps:=by rw [mergeP]
def rowP (lv:List PI):Nat→List PI
 | 0=>lv
 | r+1=>mergeP lv (pairsP (rowP lv r))
theorem mergeP_len:∀ (ls ps:List PI),(mergeP ls ps).length=ls.length+ps.length
 | [],ps=>by rw [nil_mergeP];simp
 | a :: ls,[]=>by rw [mergeP_nil];simp
 | a :: ls,b :: ps=>by
  rw [mergeP_cons]
  split
  ·rw [List.length_cons,mergeP_len ls (b :: ps)];simp;omega
  ·rw [List.length_cons,mergeP_len (a :: ls) ps];simp;omega
termination_by ls ps=>ls.length+ps.length
theorem pairsP_len:∀ l:List PI,(pairsP l).length=l.length / 2
 | []=>rfl
 | [_]=>by simp [pairsP]
 | a :: b :: r=>by rw [pairsP,List.length_cons,pairsP_len r];simp;omega
theorem pairsP_get:∀ (l:List PI) (k:Nat),2*k+1 < l.length→(pairsP l).getD k (0,0)=((l.getD (2*k) (0,0)).1+(l.getD (2*k+1) (0,0)).1,300)
 | [],k,h=>by simp at h
 | [_],k,h=>by simp at h
 | a :: b :: r,0,_=>by simp [pairsP]
 | a :: b :: r,k+1,h=>by
  have:=pairsP_get r k (by simp at h;omega)
  rw [pairsP]
  simp only [List.getD_cons_succ,show 2*(k+1)=2*k+1+1 by omega]
  exact this
def Full (l:List Item):Prop:=∀ x∈l,1≤x.2.length
theorem merge_map (f:Item→PI)(hf:∀ x,(f x).1=x.1):∀ (ls ps:List Item),(mergeI ls ps).map f=mergeP (ls.map f) (ps.map f)
 | [],ps=>by rw [nil_mergeI,List.map_nil,nil_mergeP]
 | a :: ls,[]=>by rw [mergeI_nil,List.map_nil,mergeP_nil]
 | a :: ls,b :: ps=>by
  rw [mergeI_cons,List.map_cons,List.map_cons,mergeP_cons,hf,hf]
  by_cases h:a.1≤b.1
  ·rw [if_pos h,if_pos h,List.map_cons,merge_map f hf ls (b :: ps),List.map_cons]
  ·rw [if_neg h,if_neg h,List.map_cons,merge_map f hf (a :: ls) ps,List.map_cons]
termination_by ls ps=>ls.length+ps.length
theorem pSym_two {a b:List Nat}(ha:1≤a.length)(hb:1≤b.length):pSym (a++b)=300:=by
 match a,b,ha,hb with
 | x :: a,y :: b,_,_ =>
  cases a <;> rfl
theorem pairs_map:∀ {l:List Item},Full l→(pairsOf l).map pOf=pairsP (l.map pOf)
 | [],_=>rfl
 | [_],_=>by simp [pairsOf,pairsP]
 | a :: b :: r,h=>by
  rw [pairsOf,List.map_cons,List.map_cons,List.map_cons,pairsP,pairs_map (l:=r) fun x hx=>h x (by simp [hx])]
  congr 1
  unfold pOf
  simp only
  rw [pSym_two (h a (by simp)) (h b (by simp))]
theorem pairs_full:∀ {l:List Item},Full l→Full (pairsOf l)
 | [],_=>by simp [pairsOf,Full]
 | [_],_=>by simp [pairsOf,Full]
 | a :: b :: r,h=>by
  intro x hx
  rw [pairsOf] at hx
  rcases List.mem_cons.1 hx with e | e
  ·rw [e]
   have:=h a (by simp)
   simp only [List.length_append]
   omega
  ·exact pairs_full (l:=r) (fun y hy=>h y (by simp [hy])) x e
theorem pairs_two:∀ {l:List Item},Full l→∀ x∈pairsOf l,pSym x.2=300
 | [],_,x,hx=>by simp [pairsOf] at hx
 | [_],_,x,hx=>by simp [pairsOf] at hx
 | a :: b :: r,h,x,hx=>by
  rw [pairsOf] at hx
  rcases List.mem_cons.1 hx with e | e
  ·rw [e]
   exact pSym_two (h a (by simp)) (h b (by simp))
  ·exact pairs_two (l:=r) (fun y hy=>h y (by simp [hy])) x e
theorem row_full {lv:List Item}(h:Full lv):∀ r,Full (row lv r)
 | 0=>h
 | r+1=>fun x hx=>by
  rw [row] at hx
  rcases merge_mem hx with e | e
  ·exact h x e
  ·exact pairs_full (row_full h r) x e
theorem row_map {lv:List Item}(h:Full lv):∀ r,(row lv r).map pOf=rowP (lv.map pOf) r
 | 0=>rfl
 | r+1=>by rw [row,rowP,merge_map pOf (fun _=>rfl),pairs_map (row_full h r),row_map h r]
theorem merge_takeF:∀ (ls ps:List Item) (m:Nat),m≤ls.length+ps.length→∃ a,a≤m∧a≤ls.length∧m-a≤ps.length ∧
  ∀ F:Item→Nat,(((mergeI ls ps).take m).map F).sum=((ls.take a).map F).sum+((ps.take (m-a)).map F).sum
 | ls,ps,0,_=>⟨0,by omega,by omega,by omega,fun F=>by simp⟩
 | [],ps,m+1,h=>⟨0,by omega,by omega,by simpa using h,fun F=>by rw [nil_mergeI];simp⟩
 | a :: ls,[],m+1,h=>⟨m+1,by omega,by simpa using h,by omega,fun F=>by rw [mergeI_nil];simp⟩
 | a :: ls,b :: ps,m+1,h=>by
  rw [mergeI_cons]
  by_cases hab:a.1≤b.1
  ·rw [if_pos hab]
   obtain ⟨k,h1,h2,h3,h4⟩:=merge_takeF ls (b :: ps) m (by simp at h ⊢;omega)
   refine ⟨k+1,by omega,by simpa using h2,by rw [show m+1-(k+1)=m-k by omega];exact h3,fun F=>?_⟩
   rw [List.take_succ_cons,List.take_succ_cons,List.map_cons,List.map_cons,List.sum_cons,List.sum_cons,h4 F,show m+1-(k+1)=m-k by omega]
   omega
  ·rw [if_neg hab]
   obtain ⟨k,h1,h2,h3,h4⟩:=merge_takeF (a :: ls) ps m (by simp at h ⊢;omega)
   refine ⟨k,by omega,h2,by simp;omega,fun F=>?_⟩
   rw [show m+1-k=(m-k)+1 by omega,List.take_succ_cons,List.take_succ_cons,List.map_cons,List.map_cons,List.sum_cons,List.sum_cons,h4 F]
   omega
termination_by ls ps=>ls.length+ps.length
theorem count_syms (q:Nat):∀ l:List Item,(syms l).count q=(l.map fun x=>x.2.count q).sum
 | []=>rfl
 | a :: l=>by rw [syms_cons,List.count_append,count_syms q l,List.map_cons,List.sum_cons]
theorem countP_map (p:PI→Bool)(f:Item→PI):∀ l:List Item,((l.map f).countP p)=(l.map fun x=>if p (f x) then 1 else 0).sum
 | []=>rfl
 | a :: l=>by rw [List.map_cons,List.countP_cons,countP_map p f l,List.map_cons,List.sum_cons];omega
def packs (l:List PI):Nat:=l.countP fun x=>x.2 == 300
def cntP (lv:List PI)(q:Nat):Nat→Nat→Nat
 | 0,m=>((rowP lv 0).take m).countP fun x=>x.2 == q
 | r+1,m=>(((rowP lv (r+1)).take m).countP fun x=>x.2 == q)+cntP lv q r (2*packs ((rowP lv (r+1)).take m))
def Single (l:List Item):Prop:=∀ x∈l,∃ s,x.2=[s]∧s < 300
theorem Single.full {l:List Item}(h:Single l):Full l:=fun x hx=>by obtain ⟨s,e,_⟩:=h x hx;rw [e];simp
theorem sum_congr_mem (F G:Item→Nat):∀ {l:List Item},(∀ x∈l,F x=G x)→(l.map F).sum=(l.map G).sum
 | [],_=>rfl
 | a :: l,h=>by rw [List.map_cons,List.map_cons,List.sum_cons,List.sum_cons,h a (by simp),sum_congr_mem F G fun x hx=>h x (by simp [hx])]
theorem sum_zero_mem (F:Item→Nat){l:List Item}(h:∀ x∈l,F x=0):(l.map F).sum=0:=by
 rw [sum_congr_mem F (fun _=>0) h]
 induction l with
 | nil=>rfl
 | cons a l ih=>rw [List.map_cons,List.sum_cons,ih fun x hx=>h x (by simp [hx])]
theorem sum_one_mem (F:Item→Nat){l:List Item}(h:∀ x∈l,F x=1):(l.map F).sum=l.length:=by
 induction l with
 | nil=>rfl
 | cons a l ih=>rw [List.map_cons,List.sum_cons,ih fun x hx=>h x (by simp [hx]),h a (by simp),List.length_cons];omega
section
variable {lv:List Item}
theorem single_count (q s:Nat):[s].count q=if s == q then 1 else 0:=by rw [List.count_singleton]
theorem row_parts (h:Single lv)(r m:Nat)(hm:m≤(row lv (r+1)).length):∃ k,k≤m∧2*k≤(row lv r).length∧packs ((rowP (lv.map pOf) (r+1)).take m)=k ∧
  ∀ q,q < 300→(syms ((row lv (r+1)).take m)).count q=(((rowP (lv.map pOf) (r+1)).take m).countP fun x=>x.2 == q)+(syms ((row lv r).take (2*k))).count q:=by
 rw [row_len] at hm
 obtain ⟨a,h1,h2,h3,h4⟩:=merge_takeF lv (pairsOf (row lv r)) m (by rw [pairsOf_len];exact hm)
 rw [pairsOf_len] at h3
 have hF:=row_full h.full r
 refine ⟨m-a,by omega,by omega,?_,fun q hq=>?_⟩
 ·unfold packs
  rw [← row_map h.full,← List.map_take,countP_map,row,h4,sum_zero_mem _ fun x hx=>?_,sum_one_mem _ fun x hx=>?_,List.length_take,pairsOf_len]
  ·omega
  ·have:=pairs_two hF x (List.mem_of_mem_take hx)
   simp [pOf,this]
  ·obtain ⟨s,e,hs⟩:=h x (List.mem_of_mem_take hx)
   simp only [pOf,e,pSym,beq_iff_eq]
   rw [if_neg (by omega)]
 ·rw [count_syms,← row_map h.full,← List.map_take,countP_map,row,h4,h4]
  have e1:(((pairsOf (row lv r)).take (m-a)).map fun x=>x.2.count q).sum=(syms ((row lv r).take (2*(m-a)))).count q:=by
   rw [← count_syms]
   exact (pairs_take (row lv r) (m-a) (by omega)).2 q
  have e2:(((pairsOf (row lv r)).take (m-a)).map fun x=>if (pOf x).2 == q then 1 else 0).sum=0:=sum_zero_mem _ fun x hx=>by
   have:=pairs_two hF x (List.mem_of_mem_take hx)
   simp only [pOf,this,beq_iff_eq]
   rw [if_neg (by omega)]
  have e3:((lv.take a).map fun x=>x.2.count q).sum=((lv.take a).map fun x=>if (pOf x).2 == q then 1 else 0).sum:=sum_congr_mem _ _ fun x hx=>by
   obtain ⟨s,e,hs⟩:=h x (List.mem_of_mem_take hx)
   simp only [pOf,e,pSym]
   exact single_count q s
  rw [e1,e2,e3,Nat.add_zero]
theorem cntP_eq (h:Single lv)(q:Nat)(hq:q < 300):∀ (r m:Nat),m≤(row lv r).length→cntP (lv.map pOf) q r m=(syms ((row lv r).take m)).count q
 | 0,m,_=>by
  rw [cntP,rowP,← List.map_take,countP_map,count_syms,row]
  refine sum_congr_mem _ _ fun x hx=>?_
  obtain ⟨s,e,hs⟩:=h x (List.mem_of_mem_take hx)
  simp only [pOf,e,pSym]
  exact (single_count q s).symm
 | r+1,m,hm=>by
  obtain ⟨k,_,h2,h3,h4⟩:=row_parts h r m hm
  rw [cntP,h3,cntP_eq h q hq r (2*k) h2,h4 q hq]
theorem packs_le (h:Single lv)(r m:Nat)(hm:m≤(row lv (r+1)).length):2*packs ((rowP (lv.map pOf) (r+1)).take m)≤(row lv r).length:=by
 obtain ⟨k,_,h2,h3,_⟩:=row_parts h r m hm
 rw [h3]
 exact h2
end
def metTo (often:List Nat):Nat→List PI
 | 0=>[]
 | j+1=>if often.getD j 0=0 then metTo often j else metTo often j++[(often.getD j 0,j)]
theorem insI_perm (x:Item):∀ l:List Item,(insI x l).Perm (x :: l)
 | []=>.refl _
 | a :: l=>by
  rw [insI]
  split
  ·exact ((insI_perm x l).cons a).trans (.swap x a l)
  ·exact .refl _
theorem met_perm (often:List Nat):∀ j,(metTo often j).Perm ((usedTo often j).map pOf)
 | 0=>.refl _
 | j+1=>by
  rw [metTo,usedTo]
  split
  ·exact met_perm often j
  ·refine .trans ?_ ((insI_perm _ _).map pOf).symm
   rw [List.map_cons]
   exact (List.perm_append_singleton _ _).trans ((met_perm often j).cons _)
theorem met_len (often:List Nat)(j:Nat):(metTo often j).length=(usedTo often j).length:=by rw [(met_perm often j).length_eq,List.length_map]
theorem used_single {often:List Nat}{j:Nat}(hj:j≤300):Single (usedTo often j):=fun x hx=>by
 obtain ⟨q,h1,_,e⟩:=used_each hx
 rw [e]
 exact ⟨q,rfl,by omega⟩
def LexP (a b:PI):Prop:=a.1 < b.1∨a.1=b.1∧a.2 < b.2
theorem used_lexP (often:List Nat)(j:Nat):((usedTo often j).map pOf).Pairwise LexP:=by
 rw [List.pairwise_map]
 refine (used_lex j).imp_of_mem fun {a b} ha hb hl=>?_
 obtain ⟨q,_,_,rfl⟩:=used_each ha
 obtain ⟨p,_,_,rfl⟩:=used_each hb
 exact hl
theorem met_sorted {often:List Nat}{j:Nat}{l:List PI}(hp:l.Perm (metTo often j))(hs:l.Pairwise fun a b=>LexP a b∨a=b):l=(usedTo often j).map pOf :=
 (hp.trans (met_perm often j)).eq_of_pairwise (le:=fun a b=>LexP a b∨a=b) (fun a b _ _ h1 h2=>by
  rcases h1 with h1 | h1
  ·rcases h2 with h2 | h2
   ·unfold LexP at h1 h2
    omega
   ·exact h2.symm
  ·exact h1) hs ((used_lexP often j).imp fun h=>.inl h)
end Go.Proofs.YtaogpmombefmmaaGreatDoor.Len
