/- Plain facts on the sum of chapter 1, over natural numbers: one shift is linear, and what bytes make of a register is what shifts make of their number. Conditions: none. -/
namespace Go.Proofs.YtpmedpdjglcdpaaGreatDoor.Crc
def bit (x:Nat):Nat:=if x % 2=1 then (x / 2) ^^^ 3988292384 else x / 2
def run:Nat→Nat→Nat
 | 0,x=>x
 | n+1,x=>run n (bit x)
def step8 (x:Nat)(b:UInt8):Nat:=run 8 (x ^^^ b.toNat)
def fold (x:Nat)(l:List UInt8):Nat:=l.foldl step8 x
theorem fold_nil (x:Nat):fold x []=x:=List.foldl_nil
theorem fold_cons (x:Nat)(b:UInt8)(l:List UInt8):fold x (b::l)=fold (step8 x b) l:=List.foldl_cons ..
theorem ado (a b:Nat):(a ^^^ b) % 2=(a % 2+b % 2) % 2:=by
 have:=Nat.xor_mod_two_eq_one (a:=a) (b:=b)
 omega
theorem adp (a b:Nat):bit (a ^^^ b)=bit a ^^^ bit b:=by
 unfold bit
 rcases Nat.mod_two_eq_zero_or_one a with ha|ha<;>rcases Nat.mod_two_eq_zero_or_one b with hb|hb <;>
  simp only[ado,ha,hb,Nat.xor_div_two]<;>simp
 ·ac_rfl
 ·ac_rfl
 ·have:a / 2 ^^^ 3988292384 ^^^ (b / 2 ^^^ 3988292384)=a / 2 ^^^ b / 2 ^^^ (3988292384 ^^^ 3988292384):=by ac_rfl
  rw[this];simp
theorem adq (a:Nat):bit (2*a)=a:=by
 unfold bit
 rw[if_neg (by omega)];omega
theorem adr (n:Nat):∀ a b,run n (a ^^^ b)=run n a ^^^ run n b:=by
 induction n with
 | zero=>intro a b;rfl
 | succ n ih=>intro a b;simp only[run,adp,ih]
theorem aaW (n:Nat):∀ a,run n (2 ^ n*a)=a:=by
 induction n with
 | zero=>intro a;simp[run]
 | succ n ih =>
  intro a
  rw[run,show 2 ^ (n+1)*a=2*(2 ^ n*a) by rw[Nat.pow_succ];ac_rfl,adq,ih]
theorem run_add (n m:Nat):∀ a,run (n+m) a=run m (run n a):=by
 induction n with
 | zero=>intro a;simp[run]
 | succ n ih=>intro a;rw[show n+1+m=(n+m)+1 by omega];simp only[run,ih]
theorem aaX (n q r:Nat)(h:r<2 ^ n):2 ^ n*q+r=(2 ^ n*q) ^^^ r:=by
 apply Nat.eq_of_testBit_eq
 intro i
 rw[Nat.testBit_two_pow_mul_add _ h,Nat.testBit_xor,Nat.testBit_two_pow_mul]
 by_cases hi:i<n
 ·simp[hi,show ¬ n≤i by omega]
 ·have:r.testBit i=false:=Nat.testBit_lt_two_pow (Nat.lt_of_lt_of_le h (Nat.pow_le_pow_right (by omega) (by omega)))
  simp[hi,this,show n≤i by omega]
theorem aaY (n q r:Nat)(h:r<2 ^ n):run n (2 ^ n*q+r)=q ^^^ run n r:=by
 rw[aaX n q r h,adr,aaW]
theorem adY {k x:Nat}(hk:32≤k)(h:x<2 ^ (k+1)):bit x<2 ^ k:=by
 have h2:x / 2<2 ^ k:=by rw[Nat.pow_succ]at h;omega
 unfold bit
 split
 ·refine Nat.xor_lt_two_pow h2 (Nat.lt_of_lt_of_le (by decide:3988292384<2 ^ 32) (Nat.pow_le_pow_right (by omega) hk))
 ·exact h2
theorem ab4 {x:Nat}(h:x<2 ^ 32):bit x<2 ^ 32:=adY (k:=32) (by omega) (by rw[Nat.pow_succ];omega)
theorem run_lt32 (n:Nat):∀ {x:Nat},x<2 ^ 32→run n x<2 ^ 32:=by
 induction n with
 | zero=>intro x h;exact h
 | succ n ih=>intro x h;exact ih (ab4 h)
theorem fold_append (l k:List UInt8):∀ x,fold x (l++k)=fold (fold x l) k:=by
 intro x;simp[fold,List.foldl_append]
theorem fold_lt:∀ (l:List UInt8) (x:Nat),x<2 ^ 32→fold x l<2 ^ 32:=by
 intro l
 induction l with
 | nil=>intro x h;exact h
 | cons b l ih =>
  intro x h
  rw[fold_cons]
  refine ih _ (run_lt32 8 (Nat.xor_lt_two_pow h (Nat.lt_of_lt_of_le b.toNat_lt (by decide))))
def tab:List Nat:=[0,498536548,997073096,651767980,1994146192,1802195444,1303535960,1342533948,3988292384,4027552580,3604390888,3412177804,2607071920,2262029012,2685067896,3183342108]
theorem ads:∀ r,r<16→tab.getD r 0=run 4 r:=by decide
theorem four (x:Nat):x / 16 ^^^ tab.getD (x % 16) 0=run 4 x:=by
 have h:=aaY 4 (x / 16) (x % 16) (by omega)
 rw[show 2 ^ 4*(x / 16)+x % 16=x by omega]at h
 rw[h,ads _ (by omega)]
end Go.Proofs.YtpmedpdjglcdpaaGreatDoor.Crc
