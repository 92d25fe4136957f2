/- What the proofs of this claim use, text by text. -/
import Derived.WalkKit
set_option linter.unusedSimpArgs false
set_option linter.unusedVariables false
set_option maxRecDepth 100000
set_option maxHeartbeats 25600000
namespace Go.Proofs.YtcgaeknikfaghaaGreatDoor
namespace M
def BB:Nat:=4294967296
theorem BB_eq:BB=4294967296:=rfl
theorem BB_pos:0<BB:=by unfold BB;omega
def val:List Nat→Nat
 |[]=>0
 |x::l=>x+BB*val l
theorem getD_lt {l:List Nat} {j:Nat} (h:j<l.length):l.getD j 0=l[j]:=by simp[List.getD_eq_getElem?_getD,h]
theorem getD_ge {l:List Nat} {j:Nat} (h:l.length≤j):l.getD j 0=0:=by simp[List.getD_eq_getElem?_getD,h]
def Fit (l:List Nat):Prop:=∀ j,l.getD j 0<BB
theorem Fit.nil:Fit []:=fun j=>by simp[BB_pos]
theorem Fit.cons {x:Nat} {l:List Nat} (hx:x<BB) (h:Fit l):Fit (x::l):=fun j=>by
 cases j with
 |zero=>simpa using hx
 |succ j=>simpa using h j
theorem Fit.head {x:Nat} {l:List Nat} (h:Fit (x::l)):x<BB:=by simpa using h 0
theorem Fit.tail {x:Nat} {l:List Nat} (h:Fit (x::l)):Fit l:=fun j=>by simpa using h (j+1)
theorem Fit.mem {l:List Nat} (h:Fit l) {x:Nat} (hx:x∈l):x<BB:=by
 obtain⟨j,hj,rfl⟩:=List.getElem_of_mem hx
 have:=h j
 rwa [getD_lt hj] at this
theorem Fit.of_mem {l:List Nat} (h:∀ x∈l,x<BB):Fit l:=fun j=>by
 by_cases hj:j<l.length
 ·rw[getD_lt hj];exact h _ (List.getElem_mem hj)
 ·rw[getD_ge (by omega)];exact BB_pos
theorem Fit.take {l:List Nat} (h:Fit l) (n:Nat):Fit (l.take n):=Fit.of_mem fun _ hx=>h.mem (List.mem_of_mem_take hx)
theorem Fit.append {l m:List Nat} (h:Fit l) (k:Fit m):Fit (l++m):=Fit.of_mem fun x hx=>by
 rcases List.mem_append.1 hx with hx|hx
 ·exact h.mem hx
 ·exact k.mem hx
theorem val_nil:val []=0:=rfl
theorem val_cons (x:Nat) (l:List Nat):val (x::l)=x+BB*val l:=rfl
theorem val_append (l m:List Nat):val (l++m)=val l+BB^l.length*val m:=by
 induction l with
 |nil=>simp[val]
 |cons x l ih=>
  rw[List.cons_append,val_cons,val_cons,ih,List.length_cons,Nat.pow_succ,Nat.mul_add,←Nat.mul_assoc,Nat.mul_comm BB (BB^l.length)]
  omega
theorem val_lt {l:List Nat} (h:Fit l):val l<BB^l.length:=by
 induction l with
 |nil=>simp[val]
 |cons x l ih=>
  have h1:=ih h.tail
  have hx:=h.head
  rw[val_cons,List.length_cons,Nat.pow_succ]
  have h2:BB*(val l+1)≤BB*BB^l.length:=Nat.mul_le_mul_left _ h1
  rw[Nat.mul_comm BB (BB^l.length)] at h2
  rw[Nat.mul_add] at h2
  omega
theorem val_snoc (l:List Nat) (x:Nat):val (l++[x])=val l+BB^l.length*x:=by rw[val_append,val_cons,val_nil];simp
theorem val_take_succ (l:List Nat) (k:Nat) (h:k<l.length):val (l.take (k+1))=val (l.take k)+BB^k*l.getD k 0:=by
 rw[List.take_succ_eq_append_getElem h,val_snoc,List.length_take,getD_lt h]
 rw[Nat.min_eq_left (by omega)]
theorem val_zeros (l:List Nat) (n:Nat) (h:∀ j,n≤j→l.getD j 0=0):val (l.take n)=val l:=by
 induction l generalizing n with
 |nil=>simp
 |cons x l ih=>
  cases n with
  |zero=>
   have hx:x=0:=by simpa using h 0 (by omega)
   have:=ih 0 (fun j _=>by simpa using h (j+1) (by omega))
   simp only[List.take_zero,val_nil] at this
   rw[List.take_zero,val_nil,val_cons,←this,hx];simp
  |succ n=>
   rw[List.take_succ_cons,val_cons,val_cons,ih n (fun j hj=>by simpa using h (j+1) (by omega))]
theorem val_replicate_zero (n:Nat):val (List.replicate n 0)=0:=by
 induction n with
 |zero=>rfl
 |succ n ih=>rw[List.replicate_succ,val_cons,ih];simp
def Top (l:List Nat):Prop:=l≠[]→l.getD (l.length-1) 0≠0
theorem Top.nil:Top []:=fun h=>absurd rfl h
theorem Top.tail {x:Nat} {l:List Nat} (h:Top (x::l)):Top l:=fun hl=>by
 have h1:=h (by simp)
 cases l with
 |nil=>exact absurd rfl hl
 |cons y l=>simpa using h1
theorem val_ge {l:List Nat} (t:Top l) (hl:l≠[]):BB^(l.length-1)≤val l:=by
 induction l with
 |nil=>exact absurd rfl hl
 |cons x l ih=>
  by_cases e:l=[]
  ·subst e
   have:=t (by simp)
   simp[val] at this ⊢
   omega
  ·have h1:=ih t.tail e
   have hn:0<l.length:=List.length_pos_iff.2 e
   rw[val_cons,List.length_cons,Nat.add_sub_cancel]
   have h2:BB*BB^(l.length-1)≤BB*val l:=Nat.mul_le_mul_left _ h1
   have h3:BB*BB^(l.length-1)=BB^l.length:=by
    rw[Nat.mul_comm,←Nat.pow_succ];congr 1;omega
   omega
theorem lt_of_shorter {l m:List Nat} (hl:Fit l) (tm:Top m) (h:l.length<m.length):val l<val m:=by
 have h1:=val_lt hl
 have h2:=val_ge tm (by intro e;subst e;simp at h)
 have h3:BB^l.length≤BB^(m.length-1):=Nat.pow_le_pow_right BB_pos (by omega)
 omega
theorem len_le {l:List Nat} {n k:Nat} (t:Top l) (hn:l.length=n) (h:val l<BB^k):n≤k:=by
 subst hn
 rcases Nat.lt_or_ge k l.length with h1|h1
 ·have h2:=val_ge t (by intro e;subst e;simp at h1)
  have h3:BB^k≤BB^(l.length-1):=Nat.pow_le_pow_right BB_pos (by omega)
  omega
 ·exact h1
theorem val_at (l:List Nat) (i:Nat) (h:i<l.length):val l=val (l.take i)+BB^i*(l.getD i 0+BB*val (l.drop (i+1))):=by
 have e:l=l.take i++(l.getD i 0::l.drop (i+1)):=by
  rw[getD_lt h,List.getElem_cons_drop,List.take_append_drop]
 have hl:(l.take i).length=i:=by rw[List.length_take];omega
 have e2:=val_append (l.take i) (l.getD i 0::l.drop (i+1))
 rw[←e,hl,val_cons] at e2
 exact e2
theorem drop_eq {l m:List Nat} (i:Nat) (hl:l.length=m.length) (h:∀ j,i≤j→l.getD j 0=m.getD j 0):l.drop i=m.drop i:=by
 refine List.ext_getElem (by simp[hl]) fun j h1 h2=>?_
 rw[List.getElem_drop,List.getElem_drop]
 have:=h (i+j) (by omega)
 rwa [getD_lt (by simp at h1;omega),getD_lt (by simp at h2;omega)] at this
theorem lt_of_top {l m:List Nat} (i:Nat) (hl:l.length=m.length) (hi:i<l.length) (fl:Fit l) (h:∀ j,i+1≤j→l.getD j 0=m.getD j 0) (hx:l.getD i 0<m.getD i 0):val l<val m:=by
 rw[val_at l i hi,val_at m i (by omega),drop_eq (i+1) hl h]
 have h1:=val_lt (fl.take i)
 rw[List.length_take,Nat.min_eq_left (by omega)] at h1
 generalize BB*val (m.drop (i+1))=t
 have h2:BB^i*(l.getD i 0+t+1)≤BB^i*(m.getD i 0+t):=Nat.mul_le_mul_left _ (by omega)
 rw[Nat.mul_add _ _ 1] at h2
 omega
theorem eq_of_all {l m:List Nat} (hl:l.length=m.length) (h:∀ j,0≤j→l.getD j 0=m.getD j 0):l=m:=by
 have:=drop_eq 0 hl h
 simpa using this
def cmpI (a b:Nat):Int:=if a<b then -1 else if a=b then 0 else 1
theorem cmpI_lt {a b:Nat} (h:a<b):cmpI a b= -1:=by simp[cmpI,h]
theorem cmpI_eq (a:Nat):cmpI a a=0:=by simp[cmpI]
theorem cmpI_gt {a b:Nat} (h:b<a):cmpI a b=1:=by
 unfold cmpI
 rw[if_neg (by omega),if_neg (by omega)]
theorem take_set (l:List Nat) (i x:Nat) (h:i<l.length):(l.set i x).take (i+1)=l.take i++[x]:=by
 rw[List.take_succ_eq_append_getElem (by simpa using h),List.getElem_set_self,List.take_set_of_le (by omega)]
theorem set_ne (l:List Nat) (i j x:Nat) (h:i≠j):(l.set i x).getD j 0=l.getD j 0:=by
 simp[List.getD_eq_getElem?_getD,List.getElem?_set_ne h]
theorem Fit.set {l:List Nat} (h:Fit l) (i x:Nat) (hx:x<BB):Fit (l.set i x):=Fit.of_mem fun y hy=>by
 rcases List.mem_or_eq_of_mem_set hy with h1|rfl
 ·exact h.mem h1
 ·exact hx
theorem val_take_any (l:List Nat) (i:Nat):val (l.take (i+1))=val (l.take i)+BB^i*l.getD i 0:=by
 rcases Nat.lt_or_ge i l.length with h|h
 ·exact val_take_succ l i h
 ·rw[List.take_of_length_le (by omega),List.take_of_length_le h,getD_ge h];simp
end M
end Go.Proofs.YtcgaeknikfaghaaGreatDoor
namespace Go.Proofs.YtcgaeknikfaghaaGreatDoor
namespace T
def BB:Nat:=10
theorem BB_eq:BB=10:=rfl
theorem BB_pos:0<BB:=by unfold BB;omega
def val:List Nat→Nat
 |[]=>0
 |x::l=>x+BB*val l
theorem getD_lt {l:List Nat} {j:Nat} (h:j<l.length):l.getD j 0=l[j]:=by simp[List.getD_eq_getElem?_getD,h]
theorem getD_ge {l:List Nat} {j:Nat} (h:l.length≤j):l.getD j 0=0:=by simp[List.getD_eq_getElem?_getD,h]
def Fit (l:List Nat):Prop:=∀ j,l.getD j 0<BB
theorem Fit.nil:Fit []:=fun j=>by simp[BB_pos]
theorem Fit.cons {x:Nat} {l:List Nat} (hx:x<BB) (h:Fit l):Fit (x::l):=fun j=>by
 cases j with
 |zero=>simpa using hx
 |succ j=>simpa using h j
theorem Fit.head {x:Nat} {l:List Nat} (h:Fit (x::l)):x<BB:=by simpa using h 0
theorem Fit.tail {x:Nat} {l:List Nat} (h:Fit (x::l)):Fit l:=fun j=>by simpa using h (j+1)
theorem Fit.mem {l:List Nat} (h:Fit l) {x:Nat} (hx:x∈l):x<BB:=by
 obtain⟨j,hj,rfl⟩:=List.getElem_of_mem hx
 have:=h j
 rwa [getD_lt hj] at this
theorem Fit.of_mem {l:List Nat} (h:∀ x∈l,x<BB):Fit l:=fun j=>by
 by_cases hj:j<l.length
 ·rw[getD_lt hj];exact h _ (List.getElem_mem hj)
 ·rw[getD_ge (by omega)];exact BB_pos
theorem Fit.take {l:List Nat} (h:Fit l) (n:Nat):Fit (l.take n):=Fit.of_mem fun _ hx=>h.mem (List.mem_of_mem_take hx)
theorem Fit.append {l m:List Nat} (h:Fit l) (k:Fit m):Fit (l++m):=Fit.of_mem fun x hx=>by
 rcases List.mem_append.1 hx with hx|hx
 ·exact h.mem hx
 ·exact k.mem hx
theorem val_nil:val []=0:=rfl
theorem val_cons (x:Nat) (l:List Nat):val (x::l)=x+BB*val l:=rfl
theorem val_append (l m:List Nat):val (l++m)=val l+BB^l.length*val m:=by
 induction l with
 |nil=>simp[val]
 |cons x l ih=>
  rw[List.cons_append,val_cons,val_cons,ih,List.length_cons,Nat.pow_succ,Nat.mul_add,←Nat.mul_assoc,Nat.mul_comm BB (BB^l.length)]
  omega
theorem val_lt {l:List Nat} (h:Fit l):val l<BB^l.length:=by
 induction l with
 |nil=>simp[val]
 |cons x l ih=>
  have h1:=ih h.tail
  have hx:=h.head
  rw[val_cons,List.length_cons,Nat.pow_succ]
  have h2:BB*(val l+1)≤BB*BB^l.length:=Nat.mul_le_mul_left _ h1
  rw[Nat.mul_comm BB (BB^l.length)] at h2
  rw[Nat.mul_add] at h2
  omega
theorem val_snoc (l:List Nat) (x:Nat):val (l++[x])=val l+BB^l.length*x:=by rw[val_append,val_cons,val_nil];simp
theorem val_take_succ (l:List Nat) (k:Nat) (h:k<l.length):val (l.take (k+1))=val (l.take k)+BB^k*l.getD k 0:=by
 rw[List.take_succ_eq_append_getElem h,val_snoc,List.length_take,getD_lt h]
 rw[Nat.min_eq_left (by omega)]
theorem val_zeros (l:List Nat) (n:Nat) (h:∀ j,n≤j→l.getD j 0=0):val (l.take n)=val l:=by
 induction l generalizing n with
 |nil=>simp
 |cons x l ih=>
  cases n with
  |zero=>
   have hx:x=0:=by simpa using h 0 (by omega)
   have:=ih 0 (fun j _=>by simpa using h (j+1) (by omega))
   simp only[List.take_zero,val_nil] at this
   rw[List.take_zero,val_nil,val_cons,←this,hx];simp
  |succ n=>
   rw[List.take_succ_cons,val_cons,val_cons,ih n (fun j hj=>by simpa using h (j+1) (by omega))]
theorem val_replicate_zero (n:Nat):val (List.replicate n 0)=0:=by
 induction n with
 |zero=>rfl
 |succ n ih=>rw[List.replicate_succ,val_cons,ih];simp
def Top (l:List Nat):Prop:=l≠[]→l.getD (l.length-1) 0≠0
theorem Top.nil:Top []:=fun h=>absurd rfl h
theorem Top.tail {x:Nat} {l:List Nat} (h:Top (x::l)):Top l:=fun hl=>by
 have h1:=h (by simp)
 cases l with
 |nil=>exact absurd rfl hl
 |cons y l=>simpa using h1
theorem val_ge {l:List Nat} (t:Top l) (hl:l≠[]):BB^(l.length-1)≤val l:=by
 induction l with
 |nil=>exact absurd rfl hl
 |cons x l ih=>
  by_cases e:l=[]
  ·subst e
   have:=t (by simp)
   simp[val] at this ⊢
   omega
  ·have h1:=ih t.tail e
   have hn:0<l.length:=List.length_pos_iff.2 e
   rw[val_cons,List.length_cons,Nat.add_sub_cancel]
   have h2:BB*BB^(l.length-1)≤BB*val l:=Nat.mul_le_mul_left _ h1
   have h3:BB*BB^(l.length-1)=BB^l.length:=by
    rw[Nat.mul_comm,←Nat.pow_succ];congr 1;omega
   omega
theorem lt_of_shorter {l m:List Nat} (hl:Fit l) (tm:Top m) (h:l.length<m.length):val l<val m:=by
 have h1:=val_lt hl
 have h2:=val_ge tm (by intro e;subst e;simp at h)
 have h3:BB^l.length≤BB^(m.length-1):=Nat.pow_le_pow_right BB_pos (by omega)
 omega
theorem len_le {l:List Nat} {n k:Nat} (t:Top l) (hn:l.length=n) (h:val l<BB^k):n≤k:=by
 subst hn
 rcases Nat.lt_or_ge k l.length with h1|h1
 ·have h2:=val_ge t (by intro e;subst e;simp at h1)
  have h3:BB^k≤BB^(l.length-1):=Nat.pow_le_pow_right BB_pos (by omega)
  omega
 ·exact h1
theorem val_at (l:List Nat) (i:Nat) (h:i<l.length):val l=val (l.take i)+BB^i*(l.getD i 0+BB*val (l.drop (i+1))):=by
 have e:l=l.take i++(l.getD i 0::l.drop (i+1)):=by
  rw[getD_lt h,List.getElem_cons_drop,List.take_append_drop]
 have hl:(l.take i).length=i:=by rw[List.length_take];omega
 have e2:=val_append (l.take i) (l.getD i 0::l.drop (i+1))
 rw[←e,hl,val_cons] at e2
 exact e2
theorem drop_eq {l m:List Nat} (i:Nat) (hl:l.length=m.length) (h:∀ j,i≤j→l.getD j 0=m.getD j 0):l.drop i=m.drop i:=by
 refine List.ext_getElem (by simp[hl]) fun j h1 h2=>?_
 rw[List.getElem_drop,List.getElem_drop]
 have:=h (i+j) (by omega)
 rwa [getD_lt (by simp at h1;omega),getD_lt (by simp at h2;omega)] at this
theorem lt_of_top {l m:List Nat} (i:Nat) (hl:l.length=m.length) (hi:i<l.length) (fl:Fit l) (h:∀ j,i+1≤j→l.getD j 0=m.getD j 0) (hx:l.getD i 0<m.getD i 0):val l<val m:=by
 rw[val_at l i hi,val_at m i (by omega),drop_eq (i+1) hl h]
 have h1:=val_lt (fl.take i)
 rw[List.length_take,Nat.min_eq_left (by omega)] at h1
 generalize BB*val (m.drop (i+1))=t
 have h2:BB^i*(l.getD i 0+t+1)≤BB^i*(m.getD i 0+t):=Nat.mul_le_mul_left _ (by omega)
 rw[Nat.mul_add _ _ 1] at h2
 omega
theorem eq_of_all {l m:List Nat} (hl:l.length=m.length) (h:∀ j,0≤j→l.getD j 0=m.getD j 0):l=m:=by
 have:=drop_eq 0 hl h
 simpa using this
def cmpI (a b:Nat):Int:=if a<b then -1 else if a=b then 0 else 1
theorem cmpI_lt {a b:Nat} (h:a<b):cmpI a b= -1:=by simp[cmpI,h]
theorem cmpI_eq (a:Nat):cmpI a a=0:=by simp[cmpI]
theorem cmpI_gt {a b:Nat} (h:b<a):cmpI a b=1:=by
 unfold cmpI
 rw[if_neg (by omega),if_neg (by omega)]
theorem take_set (l:List Nat) (i x:Nat) (h:i<l.length):(l.set i x).take (i+1)=l.take i++[x]:=by
 rw[List.take_succ_eq_append_getElem (by simpa using h),List.getElem_set_self,List.take_set_of_le (by omega)]
theorem set_ne (l:List Nat) (i j x:Nat) (h:i≠j):(l.set i x).getD j 0=l.getD j 0:=by
 simp[List.getD_eq_getElem?_getD,List.getElem?_set_ne h]
theorem Fit.set {l:List Nat} (h:Fit l) (i x:Nat) (hx:x<BB):Fit (l.set i x):=Fit.of_mem fun y hy=>by
 rcases List.mem_or_eq_of_mem_set hy with h1|rfl
 ·exact h.mem h1
 ·exact hx
theorem val_take_any (l:List Nat) (i:Nat):val (l.take (i+1))=val (l.take i)+BB^i*l.getD i 0:=by
 rcases Nat.lt_or_ge i l.length with h|h
 ·exact val_take_succ l i h
 ·rw[List.take_of_length_le (by omega),List.take_of_length_le h,getD_ge h];simp
end T
end Go.Proofs.YtcgaeknikfaghaaGreatDoor
namespace Go.Proofs.YtcgaeknikfaghaaGreatDoor
namespace W2
def BB:Nat:=2
theorem BB_eq:BB=2:=rfl
theorem BB_pos:0<BB:=by unfold BB;omega
def val:List Nat→Nat
 |[]=>0
 |x::l=>x+BB*val l
theorem getD_lt {l:List Nat} {j:Nat} (h:j<l.length):l.getD j 0=l[j]:=by simp[List.getD_eq_getElem?_getD,h]
theorem getD_ge {l:List Nat} {j:Nat} (h:l.length≤j):l.getD j 0=0:=by simp[List.getD_eq_getElem?_getD,h]
def Fit (l:List Nat):Prop:=∀ j,l.getD j 0<BB
theorem Fit.nil:Fit []:=fun j=>by simp[BB_pos]
theorem Fit.cons {x:Nat} {l:List Nat} (hx:x<BB) (h:Fit l):Fit (x::l):=fun j=>by
 cases j with
 |zero=>simpa using hx
 |succ j=>simpa using h j
theorem Fit.head {x:Nat} {l:List Nat} (h:Fit (x::l)):x<BB:=by simpa using h 0
theorem Fit.tail {x:Nat} {l:List Nat} (h:Fit (x::l)):Fit l:=fun j=>by simpa using h (j+1)
theorem Fit.mem {l:List Nat} (h:Fit l) {x:Nat} (hx:x∈l):x<BB:=by
 obtain⟨j,hj,rfl⟩:=List.getElem_of_mem hx
 have:=h j
 rwa [getD_lt hj] at this
theorem Fit.of_mem {l:List Nat} (h:∀ x∈l,x<BB):Fit l:=fun j=>by
 by_cases hj:j<l.length
 ·rw[getD_lt hj];exact h _ (List.getElem_mem hj)
 ·rw[getD_ge (by omega)];exact BB_pos
theorem Fit.take {l:List Nat} (h:Fit l) (n:Nat):Fit (l.take n):=Fit.of_mem fun _ hx=>h.mem (List.mem_of_mem_take hx)
theorem Fit.append {l m:List Nat} (h:Fit l) (k:Fit m):Fit (l++m):=Fit.of_mem fun x hx=>by
 rcases List.mem_append.1 hx with hx|hx
 ·exact h.mem hx
 ·exact k.mem hx
theorem val_nil:val []=0:=rfl
theorem val_cons (x:Nat) (l:List Nat):val (x::l)=x+BB*val l:=rfl
theorem val_append (l m:List Nat):val (l++m)=val l+BB^l.length*val m:=by
 induction l with
 |nil=>simp[val]
 |cons x l ih=>
  rw[List.cons_append,val_cons,val_cons,ih,List.length_cons,Nat.pow_succ,Nat.mul_add,←Nat.mul_assoc,Nat.mul_comm BB (BB^l.length)]
  omega
theorem val_lt {l:List Nat} (h:Fit l):val l<BB^l.length:=by
 induction l with
 |nil=>simp[val]
 |cons x l ih=>
  have h1:=ih h.tail
  have hx:=h.head
  rw[val_cons,List.length_cons,Nat.pow_succ]
  have h2:BB*(val l+1)≤BB*BB^l.length:=Nat.mul_le_mul_left _ h1
  rw[Nat.mul_comm BB (BB^l.length)] at h2
  rw[Nat.mul_add] at h2
  omega
theorem val_snoc (l:List Nat) (x:Nat):val (l++[x])=val l+BB^l.length*x:=by rw[val_append,val_cons,val_nil];simp
theorem val_take_succ (l:List Nat) (k:Nat) (h:k<l.length):val (l.take (k+1))=val (l.take k)+BB^k*l.getD k 0:=by
 rw[List.take_succ_eq_append_getElem h,val_snoc,List.length_take,getD_lt h]
 rw[Nat.min_eq_left (by omega)]
theorem val_zeros (l:List Nat) (n:Nat) (h:∀ j,n≤j→l.getD j 0=0):val (l.take n)=val l:=by
 induction l generalizing n with
 |nil=>simp
 |cons x l ih=>
  cases n with
  |zero=>
   have hx:x=0:=by simpa using h 0 (by omega)
   have:=ih 0 (fun j _=>by simpa using h (j+1) (by omega))
   simp only[List.take_zero,val_nil] at this
   rw[List.take_zero,val_nil,val_cons,←this,hx];simp
  |succ n=>
   rw[List.take_succ_cons,val_cons,val_cons,ih n (fun j hj=>by simpa using h (j+1) (by omega))]
theorem val_replicate_zero (n:Nat):val (List.replicate n 0)=0:=by
 induction n with
 |zero=>rfl
 |succ n ih=>rw[List.replicate_succ,val_cons,ih];simp
def Top (l:List Nat):Prop:=l≠[]→l.getD (l.length-1) 0≠0
theorem Top.nil:Top []:=fun h=>absurd rfl h
theorem Top.tail {x:Nat} {l:List Nat} (h:Top (x::l)):Top l:=fun hl=>by
 have h1:=h (by simp)
 cases l with
 |nil=>exact absurd rfl hl
 |cons y l=>simpa using h1
theorem val_ge {l:List Nat} (t:Top l) (hl:l≠[]):BB^(l.length-1)≤val l:=by
 induction l with
 |nil=>exact absurd rfl hl
 |cons x l ih=>
  by_cases e:l=[]
  ·subst e
   have:=t (by simp)
   simp[val] at this ⊢
   omega
  ·have h1:=ih t.tail e
   have hn:0<l.length:=List.length_pos_iff.2 e
   rw[val_cons,List.length_cons,Nat.add_sub_cancel]
   have h2:BB*BB^(l.length-1)≤BB*val l:=Nat.mul_le_mul_left _ h1
   have h3:BB*BB^(l.length-1)=BB^l.length:=by
    rw[Nat.mul_comm,←Nat.pow_succ];congr 1;omega
   omega
theorem lt_of_shorter {l m:List Nat} (hl:Fit l) (tm:Top m) (h:l.length<m.length):val l<val m:=by
 have h1:=val_lt hl
 have h2:=val_ge tm (by intro e;subst e;simp at h)
 have h3:BB^l.length≤BB^(m.length-1):=Nat.pow_le_pow_right BB_pos (by omega)
 omega
theorem len_le {l:List Nat} {n k:Nat} (t:Top l) (hn:l.length=n) (h:val l<BB^k):n≤k:=by
 subst hn
 rcases Nat.lt_or_ge k l.length with h1|h1
 ·have h2:=val_ge t (by intro e;subst e;simp at h1)
  have h3:BB^k≤BB^(l.length-1):=Nat.pow_le_pow_right BB_pos (by omega)
  omega
 ·exact h1
theorem val_at (l:List Nat) (i:Nat) (h:i<l.length):val l=val (l.take i)+BB^i*(l.getD i 0+BB*val (l.drop (i+1))):=by
 have e:l=l.take i++(l.getD i 0::l.drop (i+1)):=by
  rw[getD_lt h,List.getElem_cons_drop,List.take_append_drop]
 have hl:(l.take i).length=i:=by rw[List.length_take];omega
 have e2:=val_append (l.take i) (l.getD i 0::l.drop (i+1))
 rw[←e,hl,val_cons] at e2
 exact e2
theorem drop_eq {l m:List Nat} (i:Nat) (hl:l.length=m.length) (h:∀ j,i≤j→l.getD j 0=m.getD j 0):l.drop i=m.drop i:=by
 refine List.ext_getElem (by simp[hl]) fun j h1 h2=>?_
 rw[List.getElem_drop,List.getElem_drop]
 have:=h (i+j) (by omega)
 rwa [getD_lt (by simp at h1;omega),getD_lt (by simp at h2;omega)] at this
theorem lt_of_top {l m:List Nat} (i:Nat) (hl:l.length=m.length) (hi:i<l.length) (fl:Fit l) (h:∀ j,i+1≤j→l.getD j 0=m.getD j 0) (hx:l.getD i 0<m.getD i 0):val l<val m:=by
 rw[val_at l i hi,val_at m i (by omega),drop_eq (i+1) hl h]
 have h1:=val_lt (fl.take i)
 rw[List.length_take,Nat.min_eq_left (by omega)] at h1
 generalize BB*val (m.drop (i+1))=t
 have h2:BB^i*(l.getD i 0+t+1)≤BB^i*(m.getD i 0+t):=Nat.mul_le_mul_left _ (by omega)
 rw[Nat.mul_add _ _ 1] at h2
 omega
theorem eq_of_all {l m:List Nat} (hl:l.length=m.length) (h:∀ j,0≤j→l.getD j 0=m.getD j 0):l=m:=by
 have:=drop_eq 0 hl h
 simpa using this
def cmpI (a b:Nat):Int:=if a<b then -1 else if a=b then 0 else 1
theorem cmpI_lt {a b:Nat} (h:a<b):cmpI a b= -1:=by simp[cmpI,h]
theorem cmpI_eq (a:Nat):cmpI a a=0:=by simp[cmpI]
theorem cmpI_gt {a b:Nat} (h:b<a):cmpI a b=1:=by
 unfold cmpI
 rw[if_neg (by omega),if_neg (by omega)]
theorem take_set (l:List Nat) (i x:Nat) (h:i<l.length):(l.set i x).take (i+1)=l.take i++[x]:=by
 rw[List.take_succ_eq_append_getElem (by simpa using h),List.getElem_set_self,List.take_set_of_le (by omega)]
theorem set_ne (l:List Nat) (i j x:Nat) (h:i≠j):(l.set i x).getD j 0=l.getD j 0:=by
 simp[List.getD_eq_getElem?_getD,List.getElem?_set_ne h]
theorem Fit.set {l:List Nat} (h:Fit l) (i x:Nat) (hx:x<BB):Fit (l.set i x):=Fit.of_mem fun y hy=>by
 rcases List.mem_or_eq_of_mem_set hy with h1|rfl
 ·exact h.mem h1
 ·exact hx
theorem val_take_any (l:List Nat) (i:Nat):val (l.take (i+1))=val (l.take i)+BB^i*l.getD i 0:=by
 rcases Nat.lt_or_ge i l.length with h|h
 ·exact val_take_succ l i h
 ·rw[List.take_of_length_le (by omega),List.take_of_length_le h,getD_ge h];simp
end W2
end Go.Proofs.YtcgaeknikfaghaaGreatDoor
namespace Go.Proofs.YtcgaeknikfaghaaGreatDoor
namespace M
theorem drop_get (L:List Nat) (o i:Nat):(L.drop o).getD i 0=L.getD (o+i) 0:=by
 simp[List.getD_eq_getElem?_getD]
end M
end Go.Proofs.YtcgaeknikfaghaaGreatDoor
namespace Go.Proofs.YtcgaeknikfaghaaGreatDoor
namespace T
structure Chunk (ds es:List Nat) (C j c:Nat):Prop where
 len:es.length=ds.length+j
 fit:Fit es
 sum:val es+10^es.length*c=val ds+10^ds.length*C
 lt:c<10^(9-j)
theorem Chunk.step {ds es:List Nat} {C j c:Nat} (h:Chunk ds es C j c) (hj:j<9):Chunk ds (es++[c % 10]) C (j+1) (c/10):=by
 refine⟨by simp[h.len];omega,h.fit.append (Fit.cons (Nat.mod_lt _ (by omega)) Fit.nil),?_,?_⟩
 ·rw[val_snoc,List.length_append,List.length_cons,List.length_nil,Nat.zero_add,BB_eq,←h.sum,Nat.pow_succ,Nat.mul_assoc]
  have e:10*(c/10)+c % 10=c:=Nat.div_add_mod c 10
  have e2:10^es.length*(c % 10)+10^es.length*(10*(c/10))=10^es.length*c:=by rw[←Nat.mul_add];congr 1;omega
  omega
 ·have:=h.lt
  refine Nat.div_lt_of_lt_mul ?_
  have e:10*10^(9-(j+1))=10^(9-j):=by rw[Nat.mul_comm,←Nat.pow_succ];congr 1;omega
  omega
end T
end Go.Proofs.YtcgaeknikfaghaaGreatDoor
namespace Go.Proofs.YtcgaeknikfaghaaGreatDoor
namespace T
def dv (l:List UInt8):Nat:=val (l.map fun c=>c.toNat-48).reverse
def AllD (l:List UInt8):Prop:=∀ c∈l,48≤c.toNat∧c.toNat≤57
theorem dv_nil:dv []=0:=rfl
theorem dv_snoc (l:List UInt8) (c:UInt8):dv (l++[c])=dv l*10+(c.toNat-48):=by
 unfold dv
 rw[List.map_append,List.reverse_append,List.map_cons,List.map_nil,List.reverse_singleton,List.singleton_append,val_cons,BB_eq]
 omega
theorem dv_fit {l:List UInt8} (h:AllD l):Fit (l.map fun c=>c.toNat-48).reverse:=Fit.of_mem fun x hx=>by
 rw[List.mem_reverse,List.mem_map] at hx
 obtain⟨c,hc,rfl⟩:=hx
 have:=h c hc
 rw[BB_eq]
 omega
theorem dv_lt {l:List UInt8} (h:AllD l):dv l<10^l.length:=by
 have:=val_lt (dv_fit h)
 simpa [dv,BB_eq] using this
theorem AllD.take {l:List UInt8} (h:AllD l) (n:Nat):AllD (l.take n):=fun c hc=>h c (List.mem_of_mem_take hc)
structure Times (L0 L:List Nat) (n i k more c:Nat):Prop where
 len:L.length=n
 fit:M.Fit L
 rest:∀ j,i≤j→L.getD j 0=L0.getD j 0
 sum:M.val (L.take i)+M.BB^i*c=M.val (L0.take i)*k+more
 carry:c≤k
theorem Times.start {L:List Nat} {n k more:Nat} (hl:L.length=n) (f:M.Fit L) (hm:more≤k):Times L L n 0 k more more:=
 ⟨hl,f,fun _ _=>rfl,by simp[M.val],hm⟩
theorem Times.step {L0 L:List Nat} {n i k more c x t:Nat} (h:Times L0 L n i k more c) (hi:i<n) (hx:x=L.getD i 0) (ht:t=x*k+c):
  Times L0 (L.set i (t % M.BB)) n (i+1) k more (t/M.BB):=by
 have fx:x<M.BB:=by rw[hx];exact h.fit i
 refine⟨by simp[h.len],h.fit.set _ _ (Nat.mod_lt _ M.BB_pos),fun j hj=>?_,?_,?_⟩
 ·rw[M.set_ne _ _ _ _ (by omega)];exact h.rest j (by omega)
 ·have hl:(L.take i).length=i:=by rw[List.length_take,h.len];omega
  rw[M.take_set _ _ _ (by rw[h.len];exact hi),M.val_snoc,hl,M.val_take_any,←h.rest i (Nat.le_refl _),←hx]
  have e:M.BB*(t/M.BB)+t % M.BB=t:=Nat.div_add_mod t M.BB
  have h2:M.BB^(i+1)*(t/M.BB)=M.BB^i*(M.BB*(t/M.BB)):=by rw[Nat.pow_succ,Nat.mul_assoc]
  have h3:M.BB^i*(t % M.BB)+M.BB^i*(M.BB*(t/M.BB))=M.BB^i*t:=by rw[←Nat.mul_add];congr 1;omega
  have h4:M.BB^i*t=M.BB^i*x*k+M.BB^i*c:=by rw[ht,Nat.mul_add,Nat.mul_assoc]
  have:=h.sum
  rw[Nat.add_mul]
  omega
 ·have hc:=h.carry
  have h1:(x+1)*k≤M.BB*k:=Nat.mul_le_mul_right _ fx
  rw[Nat.add_mul,Nat.one_mul] at h1
  exact Nat.div_le_of_le_mul (by omega)
theorem Times.end_ {L0 L:List Nat} {n k more c:Nat} (h:Times L0 L n n k more c) (hl:L0.length=n):M.val L+M.BB^n*c=M.val L0*k+more:=by
 have:=h.sum
 rwa [List.take_of_length_le (by rw[h.len];exact Nat.le_refl _),List.take_of_length_le (by rw[hl];exact Nat.le_refl _)] at this
structure Parsing (s:List UInt8) (L:List Nat) (n i sc ch:Nat):Prop where
 len:L.length=n
 fit:M.Fit L
 sum:M.val L*sc+ch=dv (s.take i)
 lt:ch<sc
 pow:∃ r,r≤8∧sc=10^r
theorem Parsing.start (s:List UInt8) (n:Nat):Parsing s (List.replicate n 0) n 0 1 0:=
 ⟨by simp,M.Fit.of_mem fun x hx=>by rw[List.eq_of_mem_replicate hx];exact M.BB_pos,by rw[M.val_replicate_zero];simp[dv_nil],by omega,0,by omega,rfl⟩
theorem Parsing.more {s:List UInt8} {L:List Nat} {n i sc ch d:Nat} (h:Parsing s L n i sc ch) (hi:i<s.length) (hd:d=(s.getD i 0).toNat-48) (h9:d≤9):
  M.val L*(sc*10)+(ch*10+d)=dv (s.take (i+1))∧ch*10+d<sc*10:=by
 have e:s.getD i 0=s[i]:=by simp[List.getD_eq_getElem?_getD,hi]
 have hl:=h.lt
 refine⟨?_,by omega⟩
 rw[List.take_succ_eq_append_getElem hi,dv_snoc,←h.sum,←e,←hd,Nat.add_mul,Nat.mul_assoc]
 omega
theorem Parsing.small {s:List UInt8} {L:List Nat} {n i sc ch:Nat} (h:Parsing s L n i sc ch):1≤sc∧(sc=100000000∨sc≤10000000):=by
 obtain⟨r,hr,rfl⟩:=h.pow
 refine⟨Nat.pow_pos (by omega),?_⟩
 rcases Nat.lt_or_ge r 8 with h1|h1
 ·right
  exact Nat.le_trans (Nat.pow_le_pow_right (by omega) (show r≤7 by omega)) (by omega)
 ·obtain rfl:r=8:=by omega
  left;rfl
theorem Parsing.keep {s:List UInt8} {L:List Nat} {n i sc ch d:Nat} (h:Parsing s L n i sc ch) (hi:i<s.length) (hd:d=(s.getD i 0).toNat-48) (h9:d≤9) (hs:sc≤10000000):
  Parsing s L n (i+1) (sc*10) (ch*10+d):=by
 have hm:=h.more hi hd h9
 refine⟨h.len,h.fit,hm.1,hm.2,?_⟩
 obtain⟨r,hr,rfl⟩:=h.pow
 refine⟨r+1,?_,by rw[Nat.pow_succ]⟩
 rcases Nat.lt_or_ge r 8 with h1|h1
 ·omega
 ·obtain rfl:r=8:=by omega
  omega
theorem room {s:List UInt8} (h:AllD s) {i n:Nat} (hn:n=s.length/9+1):dv (s.take i)<M.BB^n:=by
 have h1:=dv_lt (h.take i)
 have h2:10^(s.take i).length≤10^(9*n):=Nat.pow_le_pow_right (by omega) (by rw[List.length_take];omega)
 have h3:10^(9*n)≤M.BB^n:=by
  rw[Nat.pow_mul]
  exact Nat.pow_le_pow_left (by rw[M.BB_eq];omega) n
 omega
theorem Parsing.flush {s:List UInt8} {L L':List Nat} {n i sc ch d c:Nat} (h:Parsing s L n i sc ch) (hi:i<s.length) (hd:d=(s.getD i 0).toNat-48) (h9:d≤9) (ha:AllD s) (hn:n=s.length/9+1)
  (hl:L'.length=n) (f:M.Fit L') (hs:M.val L'+M.BB^n*c=M.val L*(sc*10)+(ch*10+d)):Parsing s L' n (i+1) 1 0:=by
 have hm:=h.more hi hd h9
 rw[hm.1] at hs
 have hr:=room (i:=i+1) ha hn
 have hc:c=0:=by
  rcases Nat.eq_zero_or_pos c with e|e
  ·exact e
  ·have:M.BB^n*1≤M.BB^n*c:=Nat.mul_le_mul_left _ e
   omega
 rw[hc,Nat.mul_zero,Nat.add_zero] at hs
 exact⟨hl,f,by omega,by omega,0,by omega,rfl⟩
end T
end Go.Proofs.YtcgaeknikfaghaaGreatDoor
namespace Go.Proofs.YtcgaeknikfaghaaGreatDoor
namespace Bt
def nat (bs:List Bool):List Nat:=bs.map Bool.toNat
def val (bs:List Bool):Nat:=W2.val (nat bs)
def Top (bs:List Bool):Prop:=W2.Top (nat bs)
theorem nat_length (bs:List Bool):(nat bs).length=bs.length:=by simp[nat]
theorem nat_get (bs:List Bool) (j:Nat):(nat bs).getD j 0=(bs.getD j false).toNat:=by
 simp only[nat,List.getD_eq_getElem?_getD,List.getElem?_map]
 cases bs[j]? <;> rfl
theorem bit_le (b:Bool):b.toNat≤1:=by cases b <;> simp
theorem nat_fit (bs:List Bool):W2.Fit (nat bs):=fun j=>by
 rw[nat_get,W2.BB_eq]
 have:=bit_le (bs.getD j false)
 omega
theorem nat_take (bs:List Bool) (n:Nat):nat (bs.take n)=(nat bs).take n:=by simp[nat,List.map_take]
theorem nat_append (bs cs:List Bool):nat (bs++cs)=nat bs++nat cs:=by simp[nat]
theorem getD_lt {bs:List Bool} {j:Nat} (h:j<bs.length):bs.getD j false=bs[j]:=by simp[List.getD_eq_getElem?_getD,h]
theorem getD_ge {bs:List Bool} {j:Nat} (h:bs.length≤j):bs.getD j false=false:=by simp[List.getD_eq_getElem?_getD,h]
theorem val_nil:val []=0:=rfl
theorem val_lt (bs:List Bool):val bs<2^bs.length:=by
 have:=W2.val_lt (nat_fit bs)
 rwa [nat_length,W2.BB_eq] at this
theorem len_le {bs:List Bool} {k:Nat} (t:Top bs) (h:val bs<2^k):bs.length≤k:=W2.len_le t (nat_length bs) (by rw[W2.BB_eq];exact h)
theorem val_ge {bs:List Bool} (t:Top bs) (h:bs≠[]):2^(bs.length-1)≤val bs:=by
 have:=W2.val_ge t (by intro e;apply h;have:=congrArg List.length e;rw[nat_length] at this;exact List.eq_nil_of_length_eq_zero (by simpa using this))
 rwa [nat_length,W2.BB_eq] at this
theorem val_zeros (bs:List Bool) (n:Nat) (h:∀ j,n≤j→bs.getD j false=false):val (bs.take n)=val bs:=by
 unfold val
 rw[nat_take]
 exact W2.val_zeros _ n fun j hj=>by rw[nat_get,h j hj];rfl
theorem val_snoc (bs:List Bool) (b:Bool):val (bs++[b])=val bs+2^bs.length*b.toNat:=by
 unfold val
 rw[nat_append]
 have:=W2.val_snoc (nat bs) b.toNat
 rwa [nat_length,W2.BB_eq] at this
theorem val_cons (b:Bool) (bs:List Bool):val (b::bs)=b.toNat+2*val bs:=by
 have:=W2.val_cons b.toNat (nat bs)
 rwa [W2.BB_eq] at this
theorem odd_bit (n:Nat):(decide (n % 2=1)).toNat=n % 2:=by
 rcases(show n % 2=0∨n % 2=1 from by omega) with h|h <;> simp[h]
structure Chunk (ds es:List Bool) (C j c:Nat):Prop where
 len:es.length=ds.length+j
 sum:val es+2^es.length*c=val ds+2^ds.length*C
 lt:c<2^(32-j)
theorem Chunk.step {ds es:List Bool} {C j c:Nat} (h:Chunk ds es C j c) (hj:j<32):Chunk ds (es++[decide (c % 2=1)]) C (j+1) (c/2):=by
 refine⟨by simp[h.len];omega,?_,?_⟩
 ·rw[val_snoc,odd_bit,List.length_append,List.length_cons,List.length_nil,Nat.zero_add,←h.sum,Nat.pow_succ,Nat.mul_assoc]
  have e:2*(c/2)+c % 2=c:=Nat.div_add_mod c 2
  have e2:2^es.length*(c % 2)+2^es.length*(2*(c/2))=2^es.length*c:=by rw[←Nat.mul_add];congr 1;omega
  omega
 ·have:=h.lt
  refine Nat.div_lt_of_lt_mul ?_
  have e:2*2^(32-(j+1))=2^(32-j):=by rw[Nat.mul_comm,←Nat.pow_succ];congr 1;omega
  omega
theorem val_piece (bs:List Bool) (k m:Nat):val ((bs.drop k).take (m+1))=(bs.getD k false).toNat+2*val ((bs.drop (k+1)).take m):=by
 rcases Nat.lt_or_ge k bs.length with h|h
 ·rw[List.drop_eq_getElem_cons h,List.take_succ_cons,val_cons,getD_lt h]
 ·rw[List.drop_of_length_le h,List.drop_of_length_le (by omega),getD_ge h];simp[val_nil]
theorem val_split (bs:List Bool) (i m:Nat):val (bs.take (i+m))=val (bs.take i)+2^i*val ((bs.drop i).take m):=by
 rcases Nat.lt_or_ge bs.length i with h|h
 ·rw[List.take_of_length_le (by omega),List.take_of_length_le (by omega),List.drop_of_length_le (by omega)];simp[val_nil]
 ·have e:bs.take (i+m)=bs.take i++(bs.drop i).take m:=by rw[List.take_add]
  rw[e]
  unfold val
  rw[nat_append,W2.val_append,nat_length,List.length_take,Nat.min_eq_left h,W2.BB_eq]
end Bt
end Go.Proofs.YtcgaeknikfaghaaGreatDoor
namespace Go.Proofs.YtcgaeknikfaghaaGreatDoor
namespace Bt
theorem val_ext {bs cs:List Bool} (h:∀ j,bs.getD j false=cs.getD j false):val bs=val cs:=by
 induction bs generalizing cs with
 |nil=>
  have:=val_zeros cs 0 (fun j _=>by rw[←h j];rfl)
  rw[←this];rfl
 |cons b bs ih=>
  cases cs with
  |nil=>
   have:=val_zeros (b::bs) 0 (fun j _=>by rw[h j];rfl)
   rw[←this];rfl
  |cons c cs=>
   have h0:b=c:=by simpa using h 0
   rw[val_cons,val_cons,h0,ih fun j=>by simpa using h (j+1)]
theorem drop_get (bs:List Bool) (i j:Nat):(bs.drop i).getD j false=bs.getD (i+j) false:=by simp[List.getD_eq_getElem?_getD]
theorem val_take_drop (bs:List Bool) (i:Nat):val bs=val (bs.take i)+2^i*val (bs.drop i):=by
 rcases Nat.lt_or_ge bs.length i with h|h
 ·rw[List.take_of_length_le (by omega),List.drop_of_length_le (by omega),val_nil];simp
 ·have e:=W2.val_append (nat (bs.take i)) (nat (bs.drop i))
  rw[←nat_append,List.take_append_drop,nat_length,List.length_take,Nat.min_eq_left h,W2.BB_eq] at e
  exact e
theorem val_drop (bs:List Bool) (i:Nat):val (bs.drop i)=(bs.getD i false).toNat+2*val (bs.drop (i+1)):=by
 rcases Nat.lt_or_ge i bs.length with h|h
 ·rw[List.drop_eq_getElem_cons h,val_cons,getD_lt h]
 ·rw[List.drop_of_length_le h,List.drop_of_length_le (by omega),getD_ge h,val_nil];simp
theorem val_take_lt (bs:List Bool) (i:Nat):val (bs.take i)<2^i:=by
 have h1:=val_lt (bs.take i)
 have h2:2^(bs.take i).length≤2^i:=Nat.pow_le_pow_right (by omega) (List.length_take_le _ _)
 omega
theorem val_take_succ (bs:List Bool) (i:Nat):val (bs.take (i+1))=val (bs.take i)+2^i*(bs.getD i false).toNat:=by
 have h:=val_split bs i 1
 rw[h]
 congr 2
 have:=val_piece bs i 0
 rw[this,List.take_zero,val_nil];omega
theorem lt_of_top {bs cs:List Bool} (i:Nat) (h:∀ j,i<j→bs.getD j false=cs.getD j false) (hb:bs.getD i false=false) (hc:cs.getD i false=true):val bs<val cs:=by
 have e:val (bs.drop (i+1))=val (cs.drop (i+1)):=val_ext fun j=>by rw[drop_get,drop_get];exact h _ (by omega)
 rw[val_take_drop bs i,val_take_drop cs i,val_drop bs i,val_drop cs i,hb,hc,e]
 have h1:=val_take_lt bs i
 generalize val (cs.drop (i+1))=t
 have e2:2^i*(true.toNat+2*t)=2^i+2^i*(false.toNat+2*t):=by
  rw[show true.toNat=1 from rfl,show false.toNat=0 from rfl,Nat.mul_add,Nat.mul_one,Nat.zero_add]
 omega
end Bt
end Go.Proofs.YtcgaeknikfaghaaGreatDoor
namespace Go.Proofs.YtcgaeknikfaghaaGreatDoor
namespace T
end T
end Go.Proofs.YtcgaeknikfaghaaGreatDoor
namespace Go.Proofs.YtcgaeknikfaghaaGreatDoor
namespace M
end M
end Go.Proofs.YtcgaeknikfaghaaGreatDoor
namespace Go.Proofs.YtcgaeknikfaghaaGreatDoor
namespace M
end M
end Go.Proofs.YtcgaeknikfaghaaGreatDoor
namespace Go.Proofs.YtcgaeknikfaghaaGreatDoor
namespace M
end M
end Go.Proofs.YtcgaeknikfaghaaGreatDoor
namespace Go.Proofs.YtcgaeknikfaghaaGreatDoor
namespace M
theorem val_split (L:List Nat) (i:Nat) (h:i≤L.length):val L=val (L.take i)+BB^i*val (L.drop i):=by
 have e:=val_append (L.take i) (L.drop i)
 rw[List.take_append_drop,List.length_take,Nat.min_eq_left h] at e
 exact e
theorem begun {a U:List Nat} {la n s K V:Nat} (ha:a.length=la) (fa:Fit a) (hU:U.length=s+n) (hla:la+1=s+n) (hn:1≤n) (hs:val U=val a*K) (hK:K≤2147483648) (hV:2147483648*BB^(n-1)≤V):val (U.drop s)<V:=by
 obtain⟨m,rfl⟩:∃ m,n=m+1:=⟨n-1,by omega⟩
 rw[Nat.add_sub_cancel] at hV
 obtain rfl:la=s+m:=by omega
 have e:=val_split U s (by omega)
 have h1:val a<BB^(s+m):=by rw[←ha];exact val_lt fa
 have h2:val a*K<BB^(s+m)*2147483648:=by
  rcases Nat.eq_zero_or_pos K with rfl|h0
  ·rw[Nat.mul_zero];have:=Nat.pow_pos (n:=s+m) BB_pos;omega
  ·have h3:val a*K<BB^(s+m)*K:=Nat.mul_lt_mul_of_pos_right h1 h0
   have h4:BB^(s+m)*K≤BB^(s+m)*2147483648:=Nat.mul_le_mul_left _ hK
   omega
 rcases Nat.lt_or_ge (val (U.drop s)) V with h5|h5
 ·exact h5
 ·exfalso
  have h6:BB^s*(2147483648*BB^m)≤BB^s*val (U.drop s):=Nat.mul_le_mul_left _ (by omega)
  rw[Nat.pow_add,Nat.mul_assoc,Nat.mul_comm (BB^m)] at h2
  omega
end M
end Go.Proofs.YtcgaeknikfaghaaGreatDoor
namespace Go.Proofs.YtcgaeknikfaghaaGreatDoor
namespace Z
def sg (g:Bool) (N:Nat):Int:=if g then -(N:Int) else(N:Int)
def sgn (z:Int):Int:=if z<0 then -1 else if z=0 then 0 else 1
theorem sg_true (N:Nat):sg true N= -(N:Int):=rfl
theorem sg_false (N:Nat):sg false N=(N:Int):=rfl
theorem sgn_neg {z:Int} (h:z<0):sgn z= -1:=by simp[sgn,h]
theorem sgn_pos {z:Int} (h:0<z):sgn z=1:=by
 unfold sgn
 rw[if_neg (by omega),if_neg (by omega)]
theorem sgn_cases (z:Int):(z<0∧sgn z= -1)∨(z=0∧sgn z=0)∨(0<z∧sgn z=1):=by
 rcases Int.lt_trichotomy z 0 with h|h|h
 ·exact .inl ⟨h,sgn_neg h⟩
 ·exact .inr (.inl ⟨h,by rw[h];rfl⟩)
 ·exact .inr (.inr ⟨h,sgn_pos h⟩)
def fl (z y:Int):Int:=if y<0 then(-z)/(-y) else z/y
end Z
end Go.Proofs.YtcgaeknikfaghaaGreatDoor
