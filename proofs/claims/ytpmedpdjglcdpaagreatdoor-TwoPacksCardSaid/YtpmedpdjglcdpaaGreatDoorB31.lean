/- Contract of the program's order: weights first, then symbols. -/
import Derived.Test.YtpmedpdjglcdpaaGreatDoorB18
import Derived.Sort.Grow
namespace Go.Proofs.YtpmedpdjglcdpaaGreatDoor
section
open Go.RowKit
def Gr (w w':World):Prop:=∃ q os,w'=Go.Sort.grow (w.drewN q) os
theorem Gr.refl (w:World):Gr w w:=⟨0,#[],by rw[Go.Sort.grow_empty];rfl⟩
theorem Gr.drewN {a b:World}(h:Gr a b)(n:Nat):Gr a (b.drewN n):=by
 obtain⟨q,os,rfl⟩:=h
 refine⟨q+n,os,?_⟩
 rw[← World.drewN_drewN]
 rfl
theorem Gr.drew {a b:World}(h:Gr a b):Gr a b.drew:=h.drewN 1
theorem Gr.alloc {a b:World}(h:Gr a b)(o:Obj):Gr a (b.alloc o):=by
 obtain⟨q,os,rfl⟩:=h
 exact⟨q,os++#[o],by rw[Go.Sort.alloc_eq_grow,Go.Sort.grow_grow]⟩
theorem Gr.trans {a b c:World}(h:Gr a b)(k:Gr b c):Gr a c:=by
 obtain⟨q,os,rfl⟩:=h
 obtain⟨p,os',rfl⟩:=k
 refine⟨q+p,os++os',?_⟩
 rw[← Go.Sort.grow_grow,← World.drewN_drewN]
 rfl
theorem Gr.ext {a b:World}(h:Gr a b):Ext a b:=by
 obtain⟨q,os,rfl⟩:=h
 exact⟨rfl,rfl,rfl,by simp,fun k hk=>by
  have:=Go.Sort.cell?_grow (a.drewN q) os
  show (a.heap++os)[k]?=a.heap[k]?
  rw[Array.getElem?_append_left hk]⟩
def xt (x y:Int):Int:=if x<y then -1 else if y<x then 1 else 0
def orN (x y:Int):Int:=if x=0 then y else x
def uG (x y:Nat×Nat):Int:=orN (xt x.1 y.1) (xt x.2 y.2)
theorem aad (x:Int)(w:World):Calls Tryz.prog 204 #[.int .u64 x] w fun e w'=>e=.returned (.bool false)∧w=w':=by
 go_enter Tryz.func204,Tryz.ntmps204
 go_wp2
 go_ret
 exact⟨by simp,rfl⟩
theorem aae (x:Int)(w:World):Calls Tryz.prog 205 #[.int .i64 x] w fun e w'=>e=.returned (.bool false)∧w=w':=by
 go_enter Tryz.func205,Tryz.ntmps205
 go_wp2
 go_ret
 exact⟨by simp,rfl⟩
set_option maxHeartbeats 1000000 in
theorem UQ (x y:Int)(w:World):Calls Tryz.prog 189 #[.int .u64 x,.int .u64 y] w fun e w'=>e=.returned (.int .i64 (xt x y))∧Gr w w':=by
 have HC:∀ c,xt x y=c→Ending.returned (.int .i64 c)=.returned (.int .i64 (xt x y)):=fun c h=>by rw[h]
 have H1:x<y→xt x y=-1:=fun h=>if_pos h
 have H2:¬ x<y→y<x→xt x y=1:=fun h k=>by unfold xt;rw[if_neg h,if_pos k]
 have H3:¬ x<y→¬ y<x→xt x y=0:=fun h k=>by unfold xt;rw[if_neg h,if_neg k]
 go_enter Tryz.func189,Tryz.ntmps189
 go_wp2_with (first | (go_at_call 204;refine (aad _ _).mono ?_;rintro e w' ⟨rfl,rfl⟩))
 all_goals
  go_ret
  exact⟨by first | exact HC _ (H1 (by assumption)) | exact HC _ (H2 (by omega) (by omega)) | exact HC _ (H3 (by omega) (by omega)),Gr.refl _⟩
set_option maxHeartbeats 1000000 in
theorem UR (x y:Int)(w:World):Calls Tryz.prog 190 #[.int .i64 x,.int .i64 y] w fun e w'=>e=.returned (.int .i64 (xt x y))∧Gr w w':=by
 have HC:∀ c,xt x y=c→Ending.returned (.int .i64 c)=.returned (.int .i64 (xt x y)):=fun c h=>by rw[h]
 have H1:x<y→xt x y=-1:=fun h=>if_pos h
 have H2:¬ x<y→y<x→xt x y=1:=fun h k=>by unfold xt;rw[if_neg h,if_pos k]
 have H3:¬ x<y→¬ y<x→xt x y=0:=fun h k=>by unfold xt;rw[if_neg h,if_neg k]
 go_enter Tryz.func190,Tryz.ntmps190
 go_wp2_with (first | (go_at_call 205;refine (aae _ _).mono ?_;rintro e w' ⟨rfl,rfl⟩))
 all_goals
  go_ret
  exact⟨by first | exact HC _ (H1 (by assumption)) | exact HC _ (H2 (by omega) (by omega)) | exact HC _ (H3 (by omega) (by omega)),Gr.refl _⟩
set_option maxHeartbeats 1000000 in
theorem ad9 (x y:Int)(g:Nat)(w:World)(h0:w.cell? ⟨g,0,none⟩=some (.int .i64 x))(h1:w.cell? ⟨g,1,none⟩=some (.int .i64 y)) :
  Calls Tryz.prog 188 #[.slice (some ⟨g,0,none⟩) 2 2] w fun e w'=>e=.returned (.int .i64 (orN x y))∧Gr w w':=by
 have HX:∀ c,(orN x y)=c→Ending.returned (.int .i64 c)=.returned (.int .i64 (orN x y)):=fun c h=>by rw[h]
 have HXH:=hide HX
 clear HX
 go_enter Tryz.func188,Tryz.ntmps188
 go_wp2
 go_loop [8] (fun i=>∃ k:Nat,k≤2∧i=.int .i64 k∧(1≤k→x=0)∧(2≤k→y=0)) (fun i=>2-(intOf i).toNat)
 case atStart=>exact⟨0,by omega,rfl,fun h=>by omega,fun h=>by omega⟩
 case round =>
  obtain⟨k,hk,rfl,hx,hy⟩:=hrel
  match k,hk with
  | 0,_ =>
   by_cases h:x=0
   ·have hb:(x != 0)=false:=by rw[h];rfl
    clear hx hy
    have HH:=hide h
    clear h
    go_wp2
    go_round
    case rel=>exact⟨1,by omega,rfl,fun _=>HH.out,fun h=>by omega⟩
    case measure=>simp[intOf]
   ·have hb:(x != 0)=true:=by simpa using h
    clear hx hy
    have HH:=hide h
    clear h
    go_wp2
    go_ret
    exact⟨HXH.out _ (if_neg HH.out),Gr.refl _⟩
  | 1,_ =>
   have HX0:=hide (hx (by omega))
   clear hx
   by_cases h:y=0
   ·have hb:(y != 0)=false:=by rw[h];rfl
    clear hy
    have HH:=hide h
    clear h
    go_wp2
    go_round
    case rel=>exact⟨2,by omega,rfl,fun _=>HX0.out,fun _=>HH.out⟩
    case measure=>simp[intOf]
   ·have hb:(y != 0)=true:=by simpa using h
    clear hy h
    go_wp2
    go_ret
    exact⟨HXH.out _ (if_pos HX0.out),Gr.refl _⟩
  | 2,_ =>
   have HX0:=hide (hx (by omega))
   have HY0:=hide (hy (by omega))
   clear hx hy
   go_wp2
   go_ret
   exact⟨HXH.out _ (by unfold orN;rw[if_pos HX0.out];exact HY0.out),Gr.refl _⟩
set_option maxHeartbeats 2000000 in
set_option maxRecDepth 100000 in
theorem VU (x y:Nat×Nat)(w:World) :
  Calls Tryz.prog 187 #[.agg #[.int .u64 (x.1:Int),.int .i64 (x.2:Int)],.agg #[.int .u64 (y.1:Int),.int .i64 (y.2:Int)]] w fun e w'=>e=.returned (.int .i64 (uG x y))∧Gr w w':=by
 unfold uG
 have hC:∀ W,Ext ((w.alloc (.cells #[.int .u64 (x.1:Int),.int .i64 (x.2:Int)] 230)).alloc (.cells #[.int .u64 (y.1:Int),.int .i64 (y.2:Int)] 230)) W →
   W.cell? ⟨w.heap.size,0,none⟩=some (.int .u64 (x.1:Int))∧W.cell? ⟨w.heap.size,1,none⟩=some (.int .i64 (x.2:Int))∧W.cell? ⟨w.heap.size+1,0,none⟩=some (.int .u64 (y.1:Int))∧W.cell? ⟨w.heap.size+1,1,none⟩=some (.int .i64 (y.2:Int)):=fun W hE=>by
  have k1:=fun i=>(zb (w.alloc (.cells #[.int .u64 (x.1:Int),.int .i64 (x.2:Int)] 230)) (.cells #[.int .u64 (y.1:Int),.int .i64 (y.2:Int)] 230)).cell (g:=w.heap.size) (i:=i) (by simp)
  have k2:=zA w #[.int .u64 (x.1:Int),.int .i64 (x.2:Int)] 230 (0,0)
  have k3:=zA (w.alloc (.cells #[.int .u64 (x.1:Int),.int .i64 (x.2:Int)] 230)) #[.int .u64 (y.1:Int),.int .i64 (y.2:Int)] 230 (0,0)
  rw[World.size_alloc]at k3
  refine⟨?_,?_,?_,?_⟩
  ·rw[hE.cell (by simp;omega),k1,k2];rfl
  ·rw[hE.cell (by simp;omega),k1,k2];rfl
  ·rw[hE.cell (by simp),k3];rfl
  ·rw[hE.cell (by simp),k3];rfl
 have hG2:Gr w ((w.alloc (.cells #[.int .u64 (x.1:Int),.int .i64 (x.2:Int)] 230)).alloc (.cells #[.int .u64 (y.1:Int),.int .i64 (y.2:Int)] 230)):=((Gr.refl w).alloc _).alloc _
 go_enter Tryz.func187,Tryz.ntmps187
 go_wp2_with fail
 generalize hw2:(w.alloc (.cells #[.int .u64 (x.1:Int),.int .i64 (x.2:Int)] 230)).alloc (.cells #[.int .u64 (y.1:Int),.int .i64 (y.2:Int)] 230)=w2 at hC hG2 ⊢
 clear hw2
 refine zq (fun W=>Gr w2 W) 12 13 #[false,false,false,false,false,false,false,false,false,false,false,false,false] (by kernel_rfl) rfl rfl (Gr.refl w2).drew ?_
 intro hS0
 refine za 0 (some 5) (.pointer (some ⟨w.heap.size,0,none⟩)) _ rfl rfl rfl (by kernel_rfl) (fun _ _ _ h=>h) hS0 (by rfl) (fun W hX=>by go_simp) ?_
 simp only[sP]
 refine za 1 (some 6) (.int .u64 (x.1:Int)) _ rfl rfl rfl (by kernel_rfl) (fun _ _ _ h=>h) hS0 (by rfl) (fun W hX=>by obtain⟨f0,f1,f2,f3⟩:=hC W hX.ext;go_simp) ?_
 simp only[sP]
 refine za 2 (some 7) (.pointer (some ⟨w.heap.size+1,0,none⟩)) _ rfl rfl rfl (by kernel_rfl) (fun _ _ _ h=>h) hS0 (by rfl) (fun W hX=>by go_simp) ?_
 simp only[sP]
 refine za 3 (some 8) (.int .u64 (y.1:Int)) _ rfl rfl rfl (by kernel_rfl) (fun _ _ _ h=>h) hS0 (by rfl) (fun W hX=>by obtain⟨f0,f1,f2,f3⟩:=hC W hX.ext;go_simp) ?_
 simp only[sP]
 refine za 5 (some 10) (.pointer (some ⟨w.heap.size,1,none⟩)) _ rfl rfl rfl (by kernel_rfl) (fun _ _ _ h=>h) hS0 (by rfl) (fun W hX=>by go_simp) ?_
 simp only[sP]
 refine za 6 (some 11) (.int .i64 (x.2:Int)) _ rfl rfl rfl (by kernel_rfl) (fun _ _ _ h=>h) hS0 (by rfl) (fun W hX=>by obtain⟨f0,f1,f2,f3⟩:=hC W hX.ext;go_simp) ?_
 simp only[sP]
 refine za 7 (some 12) (.pointer (some ⟨w.heap.size+1,1,none⟩)) _ rfl rfl rfl (by kernel_rfl) (fun _ _ _ h=>h) hS0 (by rfl) (fun W hX=>by go_simp) ?_
 simp only[sP]
 refine za 8 (some 13) (.int .i64 (y.2:Int)) _ rfl rfl rfl (by kernel_rfl) (fun _ _ _ h=>h) hS0 (by rfl) (fun W hX=>by obtain⟨f0,f1,f2,f3⟩:=hC W hX.ext;go_simp) ?_
 simp only[sP]
 refine zc 4 _ (by kernel_rfl) rfl rfl (by rfl) (fun K0 hK0=>?_)
 go_simp
 go_at_call 189
 refine ((UQ _ _) _).mono ?_
 rintro e wc0 ⟨rfl,hC0⟩
 have hX0:=hS0.trans hC0
 refine hK0 _ _ (fun _=>hX0) ?_
 clear hK0 K0
 refine zc 9 _ (by kernel_rfl) rfl rfl (by rfl) (fun K1 hK1=>?_)
 go_simp
 go_at_call 190
 refine ((UR _ _) _).mono ?_
 rintro e wc1 ⟨rfl,hC1⟩
 have hX1:=hX0.trans hC1
 refine hK1 _ _ (fun _=>hX1) ?_
 clear hK1 K1
 refine zc 10 _ (by kernel_rfl) rfl rfl (by rfl) (fun K2 hK2=>?_)
 go_simp
 refine hK2 _ _ (fun _=>hX1.alloc _) ?_
 clear hK2 K2
 have g0:=zA wc1 #[.int .i64 (xt (x.1:Int) (y.1:Int)),.int .i64 (xt (x.2:Int) (y.2:Int))] 3 (0,0) 0
 have g1:=zA wc1 #[.int .i64 (xt (x.1:Int) (y.1:Int)),.int .i64 (xt (x.2:Int) (y.2:Int))] 3 (0,0) 1
 refine zc 11 _ (by kernel_rfl) rfl rfl (by rfl) (fun K3 hK3=>?_)
 go_simp
 go_at_call 188
 refine (ad9 _ _ _ _ g0 g1).mono ?_
 rintro e w4 ⟨rfl,hE4⟩
 have hX4:=(hX1.alloc _).trans hE4
 refine hK3 _ _ (fun _=>hX4) ?_
 clear hK3 K3 g0 g1
 refine zc 12 _ (by kernel_rfl) rfl rfl (by rfl) (fun K5 hK5=>?_)
 go_simp
 refine hK5 _ _ (fun h=>absurd h (by decide)) (zj (by kernel_rfl) ?_ _)
 clear hK5 K5
 go_wp2
 go_ret
 exact⟨rfl,hG2.trans hX4⟩
end
end Go.Proofs.YtpmedpdjglcdpaaGreatDoor
