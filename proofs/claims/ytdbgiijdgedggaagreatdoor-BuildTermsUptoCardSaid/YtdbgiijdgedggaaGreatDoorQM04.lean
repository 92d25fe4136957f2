import Derived.Test.YtdbgiijdgedggaaGreatDoorQM01
import Derived.WalkKit
set_option linter.unusedSimpArgs false
set_option linter.unusedVariables false
set_option maxRecDepth 100000
set_option maxHeartbeats 25600000
namespace Go.Proofs.YtdbgiijdgedggaaGreatDoor
namespace M
def BB:Nat:=4294967296
theorem bS:BB=4294967296:=rfl
theorem aV:0<BB:=by unfold BB;omega
def val:List Nat->Nat
 |[]=>0
 |x::l=>x+BB*val l
theorem getD_lt {l:List Nat} {j:Nat} (h:j<l.length):l.getD j 0=l[j]:=by simp[G3,h]
theorem aM {l:List Nat} {j:Nat} (h:l.length<=j):l.getD j 0=0:=by simp[G3,h]
def Fit (l:List Nat):Prop:=∀ j,l.getD j 0<BB
theorem Fit.nil:Fit []:=fun j=>by simp[aV]
theorem Fit.cons {x:Nat} {l:List Nat} (r:x<BB) (h:Fit l):Fit (x::l):=fun j=>by
 cases j with
 |zero=>simpa using r
 |succ j=>simpa using h j
theorem Fit.head {x:Nat} {l:List Nat} (h:Fit (x::l)):x<BB:=by simpa using h 0
theorem Fit.tail {x:Nat} {l:List Nat} (h:Fit (x::l)):Fit l:=fun j=>by simpa using h (j+1)
theorem Fit.mem {l:List Nat} (h:Fit l) {x:Nat} (I:x∈l):x<BB:=by
 obtain⟨j,r,rfl⟩:=GV I
 have:=h j
 rwa [getD_lt r] at this
theorem Fit.dB {l:List Nat} (h:∀ x∈l,x<BB):Fit l:=fun j=>by
 by_cases r:j<l.length
 ·rw[getD_lt r];exact h _ (Gf r)
 ·rw[aM (by omega)];exact aV
theorem Fit.take {l:List Nat} (h:Fit l) (n:Nat):Fit (l.take n):=Fit.dB fun _ r=>h.mem (GN r)
theorem Fit.append {l m:List Nat} (h:Fit l) (k:Fit m):Fit (l++m):=Fit.dB fun x r=>by
 rcases F7.1 r with r|r
 ·exact h.mem r
 ·exact k.mem r
theorem aW:val []=0:=rfl
theorem ai (x:Nat) (l:List Nat):val (x::l)=x+BB*val l:=rfl
theorem aR (l m:List Nat):val (l++m)=val l+BB^l.length*val m:=by
 induction l with
 |nil=>simp[val]
 |cons x l h=>
  rw[FZ,ai,ai,h,FG,FH,G4,<-FJ,FI BB (BB^l.length)]
  omega
theorem bm {l:List Nat} (h:Fit l):val l<BB^l.length:=by
 induction l with
 |nil=>simp[val]
 |cons x l J=>
  have I:=J h.tail
  have L:=h.head
  rw[ai,FG,FH]
  have r:BB*(val l+1)<=BB*BB^l.length:=G5 _ I
  rw[FI BB (BB^l.length)] at r
  rw[G4] at r
  omega
theorem bu (l:List Nat) (x:Nat):val (l++[x])=val l+BB^l.length*x:=by rw[aR,ai,aW];simp
theorem a8 (l:List Nat) (k:Nat) (h:k<l.length):val (l.take (k+1))=val (l.take k)+BB^k*l.getD k 0:=by
 rw[Fh h,bu,FK,getD_lt h]
 rw[G6 (by omega)]
theorem cn (l:List Nat) (n:Nat) (h:∀ j,n<=j->l.getD j 0=0):val (l.take n)=val l:=by
 induction l generalizing n with
 |nil=>simp
 |cons x l r=>
  cases n with
  |zero=>
   have I:x=0:=by simpa using h 0 (by omega)
   have:=r 0 (fun j _=>by simpa using h (j+1) (by omega))
   simp only[G8,aW] at this
   rw[G8,aW,ai,<-this,I];simp
  |succ n=>
   rw[GG,ai,ai,r n (fun j J=>by simpa using h (j+1) (by omega))]
theorem da (n:Nat):val (List.replicate n 0)=0:=by
 induction n with
 |zero=>rfl
 |succ n h=>rw[List.replicate_succ,ai,h];simp
def cS (l:List Nat):Prop:=l≠[]->l.getD (l.length-1) 0≠0
theorem cS.nil:cS []:=fun h=>absurd rfl h
theorem cS.tail {x:Nat} {l:List Nat} (h:cS (x::l)):cS l:=fun hl=>by
 have r:=h (by simp)
 cases l with
 |nil=>exact absurd rfl hl
 |cons y l=>simpa using r
theorem cS.pos {l:List Nat} (h:cS l) (hl:l≠[]):0<val l:=by
 induction l with
 |nil=>exact absurd rfl hl
 |cons x l r=>
  rw[ai]
  by_cases e:l=[]
  ·subst e
   have:=h (by simp)
   simp at this
   omega
  ·have:=r h.tail e
   have I:0<BB*val l:=Nat.mul_pos aV this
   omega
theorem cS.eq_nil {l:List Nat} (h:cS l) (hv:val l=0):l=[]:=by
 by_cases e:l=[]
 ·exact e
 ·have:=h.pos e
  omega
theorem uniq {l m:List Nat} (hl:Fit l) (hm:Fit m) (r:cS l) (tm:cS m) (h:val l=val m):l=m:=by
 induction l generalizing m with
 |nil=>exact(tm.eq_nil h.symm).symm
 |cons x l O=>
  cases m with
  |nil=>exact r.eq_nil h
  |cons y m=>
   rw[ai,ai] at h
   have L:=hl.head
   have hy:=hm.head
   have I:x=y:=by
    have:=G1 (·% BB) h
    simp only[Nat.add_mul_mod_self_left] at this
    rwa [G9 L,G9 hy] at this
   subst I
   have J:val l=val m:=Nat.eq_of_mul_eq_mul_left aV (by omega)
   rw[O hl.tail hm.tail r.tail tm.tail J]
theorem ey {l:List Nat} (t:cS l) (hl:l≠[]):BB^(l.length-1)<=val l:=by
 induction l with
 |nil=>exact absurd rfl hl
 |cons x l r=>
  by_cases e:l=[]
  ·subst e
   have:=t (by simp)
   simp[val] at this ⊢
   omega
  ·have h:=r t.tail e
   have hn:0<l.length:=FR.2 e
   rw[ai,FG,Ha]
   have I:BB*BB^(l.length-1)<=BB*val l:=G5 _ h
   have J:BB*BB^(l.length-1)=BB^l.length:=by
    rw[FI,<-FH];congr 1;omega
   omega
theorem dG {l m:List Nat} (hl:Fit l) (tm:cS m) (h:l.length<m.length):val l<val m:=by
 have r:=bm hl
 have I:=ey tm (by intro e;subst e;simp at h)
 have J:BB^l.length<=BB^(m.length-1):=Gy aV (by omega)
 omega
theorem ep {l:List Nat} {n k:Nat} (t:cS l) (hn:l.length=n) (h:val l<BB^k):n<=k:=by
 subst hn
 rcases GX k l.length with r|r
 ·have I:=ey t (by intro e;subst e;simp at r)
  have J:BB^k<=BB^(l.length-1):=Gy aV (by omega)
  omega
 ·exact r
theorem gy (l:List Nat) (i:Nat) (h:i<l.length):val l=val (l.take i)+BB^i*(l.getD i 0+BB*val (l.drop (i+1))):=by
 have e:l=l.take i++(l.getD i 0::l.drop (i+1)):=by
  rw[getD_lt h,List.getElem_cons_drop,FM]
 have hl:(l.take i).length=i:=by rw[FK];omega
 have r:=aR (l.take i) (l.getD i 0::l.drop (i+1))
 rw[<-e,hl,ai] at r
 exact r
theorem drop_eq {l m:List Nat} (i:Nat) (hl:l.length=m.length) (h:∀ j,i<=j->l.getD j 0=m.getD j 0):l.drop i=m.drop i:=by
 refine Hb (by simp[hl]) fun j r I=>?_
 rw[Hc,Hc]
 have:=h (i+j) (by omega)
 rwa [getD_lt (by simp at r;omega),getD_lt (by simp at I;omega)] at this
theorem du {l m:List Nat} (i:Nat) (hl:l.length=m.length) (hi:i<l.length) (fl:Fit l) (h:∀ j,i+1<=j->l.getD j 0=m.getD j 0) (J:l.getD i 0<m.getD i 0):val l<val m:=by
 rw[gy l i hi,gy m i (by omega),drop_eq (i+1) hl h]
 have r:=bm (fl.take i)
 rw[FK,G6 (by omega)] at r
 generalize BB*val (m.drop (i+1))=t
 have I:BB^i*(l.getD i 0+t+1)<=BB^i*(m.getD i 0+t):=G5 _ (by omega)
 rw[G4 _ _ 1] at I
 omega
theorem eq_of_all {l m:List Nat} (hl:l.length=m.length) (h:∀ j,0<=j->l.getD j 0=m.getD j 0):l=m:=by
 have:=drop_eq 0 hl h
 simpa using this
def di (a b:Nat):Int:=if a<b then -1 else if a=b then 0 else 1
theorem jz {a b:Nat} (h:a<b):di a b= -1:=by simp[di,h]
theorem ko (a:Nat):di a a=0:=by simp[di]
theorem hH {a b:Nat} (h:b<a):di a b=1:=by
 unfold di
 rw[FQ (by omega),FQ (by omega)]
theorem take_set (l:List Nat) (i x:Nat) (h:i<l.length):(l.set i x).take (i+1)=l.take i++[x]:=by
 rw[Fh (by simpa using h),List.getElem_set_self,List.take_set_of_le (by omega)]
theorem eT (l:List Nat) (i j x:Nat) (h:i≠j):(l.set i x).getD j 0=l.getD j 0:=by
 simp[G3,List.getElem?_set_ne h]
theorem og (l:List Nat) (i x:Nat) (h:i<l.length):(l.set i x).getD i 0=x:=by
 simp[G3,h]
theorem Fit.set {l:List Nat} (h:Fit l) (i x:Nat) (I:x<BB):Fit (l.set i x):=Fit.dB fun y hy=>by
 rcases List.mem_or_eq_of_mem_set hy with r|rfl
 ·exact h.mem r
 ·exact I
theorem cK (l:List Nat) (i:Nat):val (l.take (i+1))=val (l.take i)+BB^i*l.getD i 0:=by
 rcases GX i l.length with h|h
 ·exact a8 l i h
 ·rw[Gr (by omega),Gr h,aM h];simp
theorem bF (l:List Nat) {n:Nat} (h:l.length<=n):val (l.take n)=val l:=by rw[Gr h]
end M
namespace T
def BB:Nat:=10
theorem bS:BB=10:=rfl
theorem aV:0<BB:=by unfold BB;omega
def val:List Nat->Nat
 |[]=>0
 |x::l=>x+BB*val l
theorem getD_lt {l:List Nat} {j:Nat} (h:j<l.length):l.getD j 0=l[j]:=by simp[G3,h]
theorem aM {l:List Nat} {j:Nat} (h:l.length<=j):l.getD j 0=0:=by simp[G3,h]
def Fit (l:List Nat):Prop:=∀ j,l.getD j 0<BB
theorem Fit.nil:Fit []:=fun j=>by simp[aV]
theorem Fit.cons {x:Nat} {l:List Nat} (r:x<BB) (h:Fit l):Fit (x::l):=fun j=>by
 cases j with
 |zero=>simpa using r
 |succ j=>simpa using h j
theorem Fit.head {x:Nat} {l:List Nat} (h:Fit (x::l)):x<BB:=by simpa using h 0
theorem Fit.tail {x:Nat} {l:List Nat} (h:Fit (x::l)):Fit l:=fun j=>by simpa using h (j+1)
theorem Fit.mem {l:List Nat} (h:Fit l) {x:Nat} (I:x∈l):x<BB:=by
 obtain⟨j,r,rfl⟩:=GV I
 have:=h j
 rwa [getD_lt r] at this
theorem Fit.dB {l:List Nat} (h:∀ x∈l,x<BB):Fit l:=fun j=>by
 by_cases r:j<l.length
 ·rw[getD_lt r];exact h _ (Gf r)
 ·rw[aM (by omega)];exact aV
theorem Fit.take {l:List Nat} (h:Fit l) (n:Nat):Fit (l.take n):=Fit.dB fun _ r=>h.mem (GN r)
theorem Fit.append {l m:List Nat} (h:Fit l) (k:Fit m):Fit (l++m):=Fit.dB fun x r=>by
 rcases F7.1 r with r|r
 ·exact h.mem r
 ·exact k.mem r
theorem aW:val []=0:=rfl
theorem ai (x:Nat) (l:List Nat):val (x::l)=x+BB*val l:=rfl
theorem aR (l m:List Nat):val (l++m)=val l+BB^l.length*val m:=by
 induction l with
 |nil=>simp[val]
 |cons x l h=>
  rw[FZ,ai,ai,h,FG,FH,G4,<-FJ,FI BB (BB^l.length)]
  omega
theorem bm {l:List Nat} (h:Fit l):val l<BB^l.length:=by
 induction l with
 |nil=>simp[val]
 |cons x l J=>
  have I:=J h.tail
  have L:=h.head
  rw[ai,FG,FH]
  have r:BB*(val l+1)<=BB*BB^l.length:=G5 _ I
  rw[FI BB (BB^l.length)] at r
  rw[G4] at r
  omega
theorem bu (l:List Nat) (x:Nat):val (l++[x])=val l+BB^l.length*x:=by rw[aR,ai,aW];simp
theorem a8 (l:List Nat) (k:Nat) (h:k<l.length):val (l.take (k+1))=val (l.take k)+BB^k*l.getD k 0:=by
 rw[Fh h,bu,FK,getD_lt h]
 rw[G6 (by omega)]
theorem cn (l:List Nat) (n:Nat) (h:∀ j,n<=j->l.getD j 0=0):val (l.take n)=val l:=by
 induction l generalizing n with
 |nil=>simp
 |cons x l r=>
  cases n with
  |zero=>
   have I:x=0:=by simpa using h 0 (by omega)
   have:=r 0 (fun j _=>by simpa using h (j+1) (by omega))
   simp only[G8,aW] at this
   rw[G8,aW,ai,<-this,I];simp
  |succ n=>
   rw[GG,ai,ai,r n (fun j J=>by simpa using h (j+1) (by omega))]
theorem da (n:Nat):val (List.replicate n 0)=0:=by
 induction n with
 |zero=>rfl
 |succ n h=>rw[List.replicate_succ,ai,h];simp
def cS (l:List Nat):Prop:=l≠[]->l.getD (l.length-1) 0≠0
theorem cS.nil:cS []:=fun h=>absurd rfl h
theorem cS.tail {x:Nat} {l:List Nat} (h:cS (x::l)):cS l:=fun hl=>by
 have r:=h (by simp)
 cases l with
 |nil=>exact absurd rfl hl
 |cons y l=>simpa using r
theorem cS.pos {l:List Nat} (h:cS l) (hl:l≠[]):0<val l:=by
 induction l with
 |nil=>exact absurd rfl hl
 |cons x l r=>
  rw[ai]
  by_cases e:l=[]
  ·subst e
   have:=h (by simp)
   simp at this
   omega
  ·have:=r h.tail e
   have I:0<BB*val l:=Nat.mul_pos aV this
   omega
theorem cS.eq_nil {l:List Nat} (h:cS l) (hv:val l=0):l=[]:=by
 by_cases e:l=[]
 ·exact e
 ·have:=h.pos e
  omega
theorem uniq {l m:List Nat} (hl:Fit l) (hm:Fit m) (r:cS l) (tm:cS m) (h:val l=val m):l=m:=by
 induction l generalizing m with
 |nil=>exact(tm.eq_nil h.symm).symm
 |cons x l O=>
  cases m with
  |nil=>exact r.eq_nil h
  |cons y m=>
   rw[ai,ai] at h
   have L:=hl.head
   have hy:=hm.head
   have I:x=y:=by
    have:=G1 (·% BB) h
    simp only[Nat.add_mul_mod_self_left] at this
    rwa [G9 L,G9 hy] at this
   subst I
   have J:val l=val m:=Nat.eq_of_mul_eq_mul_left aV (by omega)
   rw[O hl.tail hm.tail r.tail tm.tail J]
theorem ey {l:List Nat} (t:cS l) (hl:l≠[]):BB^(l.length-1)<=val l:=by
 induction l with
 |nil=>exact absurd rfl hl
 |cons x l r=>
  by_cases e:l=[]
  ·subst e
   have:=t (by simp)
   simp[val] at this ⊢
   omega
  ·have h:=r t.tail e
   have hn:0<l.length:=FR.2 e
   rw[ai,FG,Ha]
   have I:BB*BB^(l.length-1)<=BB*val l:=G5 _ h
   have J:BB*BB^(l.length-1)=BB^l.length:=by
    rw[FI,<-FH];congr 1;omega
   omega
theorem dG {l m:List Nat} (hl:Fit l) (tm:cS m) (h:l.length<m.length):val l<val m:=by
 have r:=bm hl
 have I:=ey tm (by intro e;subst e;simp at h)
 have J:BB^l.length<=BB^(m.length-1):=Gy aV (by omega)
 omega
theorem ep {l:List Nat} {n k:Nat} (t:cS l) (hn:l.length=n) (h:val l<BB^k):n<=k:=by
 subst hn
 rcases GX k l.length with r|r
 ·have I:=ey t (by intro e;subst e;simp at r)
  have J:BB^k<=BB^(l.length-1):=Gy aV (by omega)
  omega
 ·exact r
theorem gy (l:List Nat) (i:Nat) (h:i<l.length):val l=val (l.take i)+BB^i*(l.getD i 0+BB*val (l.drop (i+1))):=by
 have e:l=l.take i++(l.getD i 0::l.drop (i+1)):=by
  rw[getD_lt h,List.getElem_cons_drop,FM]
 have hl:(l.take i).length=i:=by rw[FK];omega
 have r:=aR (l.take i) (l.getD i 0::l.drop (i+1))
 rw[<-e,hl,ai] at r
 exact r
theorem drop_eq {l m:List Nat} (i:Nat) (hl:l.length=m.length) (h:∀ j,i<=j->l.getD j 0=m.getD j 0):l.drop i=m.drop i:=by
 refine Hb (by simp[hl]) fun j r I=>?_
 rw[Hc,Hc]
 have:=h (i+j) (by omega)
 rwa [getD_lt (by simp at r;omega),getD_lt (by simp at I;omega)] at this
theorem du {l m:List Nat} (i:Nat) (hl:l.length=m.length) (hi:i<l.length) (fl:Fit l) (h:∀ j,i+1<=j->l.getD j 0=m.getD j 0) (J:l.getD i 0<m.getD i 0):val l<val m:=by
 rw[gy l i hi,gy m i (by omega),drop_eq (i+1) hl h]
 have r:=bm (fl.take i)
 rw[FK,G6 (by omega)] at r
 generalize BB*val (m.drop (i+1))=t
 have I:BB^i*(l.getD i 0+t+1)<=BB^i*(m.getD i 0+t):=G5 _ (by omega)
 rw[G4 _ _ 1] at I
 omega
theorem eq_of_all {l m:List Nat} (hl:l.length=m.length) (h:∀ j,0<=j->l.getD j 0=m.getD j 0):l=m:=by
 have:=drop_eq 0 hl h
 simpa using this
def di (a b:Nat):Int:=if a<b then -1 else if a=b then 0 else 1
theorem jz {a b:Nat} (h:a<b):di a b= -1:=by simp[di,h]
theorem ko (a:Nat):di a a=0:=by simp[di]
theorem hH {a b:Nat} (h:b<a):di a b=1:=by
 unfold di
 rw[FQ (by omega),FQ (by omega)]
theorem take_set (l:List Nat) (i x:Nat) (h:i<l.length):(l.set i x).take (i+1)=l.take i++[x]:=by
 rw[Fh (by simpa using h),List.getElem_set_self,List.take_set_of_le (by omega)]
theorem eT (l:List Nat) (i j x:Nat) (h:i≠j):(l.set i x).getD j 0=l.getD j 0:=by
 simp[G3,List.getElem?_set_ne h]
theorem og (l:List Nat) (i x:Nat) (h:i<l.length):(l.set i x).getD i 0=x:=by
 simp[G3,h]
theorem Fit.set {l:List Nat} (h:Fit l) (i x:Nat) (I:x<BB):Fit (l.set i x):=Fit.dB fun y hy=>by
 rcases List.mem_or_eq_of_mem_set hy with r|rfl
 ·exact h.mem r
 ·exact I
theorem cK (l:List Nat) (i:Nat):val (l.take (i+1))=val (l.take i)+BB^i*l.getD i 0:=by
 rcases GX i l.length with h|h
 ·exact a8 l i h
 ·rw[Gr (by omega),Gr h,aM h];simp
theorem bF (l:List Nat) {n:Nat} (h:l.length<=n):val (l.take n)=val l:=by rw[Gr h]
end T
namespace W2
def BB:Nat:=2
theorem bS:BB=2:=rfl
theorem aV:0<BB:=by unfold BB;omega
def val:List Nat->Nat
 |[]=>0
 |x::l=>x+BB*val l
theorem getD_lt {l:List Nat} {j:Nat} (h:j<l.length):l.getD j 0=l[j]:=by simp[G3,h]
theorem aM {l:List Nat} {j:Nat} (h:l.length<=j):l.getD j 0=0:=by simp[G3,h]
def Fit (l:List Nat):Prop:=∀ j,l.getD j 0<BB
theorem Fit.nil:Fit []:=fun j=>by simp[aV]
theorem Fit.cons {x:Nat} {l:List Nat} (r:x<BB) (h:Fit l):Fit (x::l):=fun j=>by
 cases j with
 |zero=>simpa using r
 |succ j=>simpa using h j
theorem Fit.head {x:Nat} {l:List Nat} (h:Fit (x::l)):x<BB:=by simpa using h 0
theorem Fit.tail {x:Nat} {l:List Nat} (h:Fit (x::l)):Fit l:=fun j=>by simpa using h (j+1)
theorem Fit.mem {l:List Nat} (h:Fit l) {x:Nat} (I:x∈l):x<BB:=by
 obtain⟨j,r,rfl⟩:=GV I
 have:=h j
 rwa [getD_lt r] at this
theorem Fit.dB {l:List Nat} (h:∀ x∈l,x<BB):Fit l:=fun j=>by
 by_cases r:j<l.length
 ·rw[getD_lt r];exact h _ (Gf r)
 ·rw[aM (by omega)];exact aV
theorem Fit.take {l:List Nat} (h:Fit l) (n:Nat):Fit (l.take n):=Fit.dB fun _ r=>h.mem (GN r)
theorem Fit.append {l m:List Nat} (h:Fit l) (k:Fit m):Fit (l++m):=Fit.dB fun x r=>by
 rcases F7.1 r with r|r
 ·exact h.mem r
 ·exact k.mem r
theorem aW:val []=0:=rfl
theorem ai (x:Nat) (l:List Nat):val (x::l)=x+BB*val l:=rfl
theorem aR (l m:List Nat):val (l++m)=val l+BB^l.length*val m:=by
 induction l with
 |nil=>simp[val]
 |cons x l h=>
  rw[FZ,ai,ai,h,FG,FH,G4,<-FJ,FI BB (BB^l.length)]
  omega
theorem bm {l:List Nat} (h:Fit l):val l<BB^l.length:=by
 induction l with
 |nil=>simp[val]
 |cons x l J=>
  have I:=J h.tail
  have L:=h.head
  rw[ai,FG,FH]
  have r:BB*(val l+1)<=BB*BB^l.length:=G5 _ I
  rw[FI BB (BB^l.length)] at r
  rw[G4] at r
  omega
theorem bu (l:List Nat) (x:Nat):val (l++[x])=val l+BB^l.length*x:=by rw[aR,ai,aW];simp
theorem a8 (l:List Nat) (k:Nat) (h:k<l.length):val (l.take (k+1))=val (l.take k)+BB^k*l.getD k 0:=by
 rw[Fh h,bu,FK,getD_lt h]
 rw[G6 (by omega)]
theorem cn (l:List Nat) (n:Nat) (h:∀ j,n<=j->l.getD j 0=0):val (l.take n)=val l:=by
 induction l generalizing n with
 |nil=>simp
 |cons x l r=>
  cases n with
  |zero=>
   have I:x=0:=by simpa using h 0 (by omega)
   have:=r 0 (fun j _=>by simpa using h (j+1) (by omega))
   simp only[G8,aW] at this
   rw[G8,aW,ai,<-this,I];simp
  |succ n=>
   rw[GG,ai,ai,r n (fun j J=>by simpa using h (j+1) (by omega))]
theorem da (n:Nat):val (List.replicate n 0)=0:=by
 induction n with
 |zero=>rfl
 |succ n h=>rw[List.replicate_succ,ai,h];simp
def cS (l:List Nat):Prop:=l≠[]->l.getD (l.length-1) 0≠0
theorem cS.nil:cS []:=fun h=>absurd rfl h
theorem cS.tail {x:Nat} {l:List Nat} (h:cS (x::l)):cS l:=fun hl=>by
 have r:=h (by simp)
 cases l with
 |nil=>exact absurd rfl hl
 |cons y l=>simpa using r
theorem cS.pos {l:List Nat} (h:cS l) (hl:l≠[]):0<val l:=by
 induction l with
 |nil=>exact absurd rfl hl
 |cons x l r=>
  rw[ai]
  by_cases e:l=[]
  ·subst e
   have:=h (by simp)
   simp at this
   omega
  ·have:=r h.tail e
   have I:0<BB*val l:=Nat.mul_pos aV this
   omega
theorem cS.eq_nil {l:List Nat} (h:cS l) (hv:val l=0):l=[]:=by
 by_cases e:l=[]
 ·exact e
 ·have:=h.pos e
  omega
theorem uniq {l m:List Nat} (hl:Fit l) (hm:Fit m) (r:cS l) (tm:cS m) (h:val l=val m):l=m:=by
 induction l generalizing m with
 |nil=>exact(tm.eq_nil h.symm).symm
 |cons x l O=>
  cases m with
  |nil=>exact r.eq_nil h
  |cons y m=>
   rw[ai,ai] at h
   have L:=hl.head
   have hy:=hm.head
   have I:x=y:=by
    have:=G1 (·% BB) h
    simp only[Nat.add_mul_mod_self_left] at this
    rwa [G9 L,G9 hy] at this
   subst I
   have J:val l=val m:=Nat.eq_of_mul_eq_mul_left aV (by omega)
   rw[O hl.tail hm.tail r.tail tm.tail J]
theorem ey {l:List Nat} (t:cS l) (hl:l≠[]):BB^(l.length-1)<=val l:=by
 induction l with
 |nil=>exact absurd rfl hl
 |cons x l r=>
  by_cases e:l=[]
  ·subst e
   have:=t (by simp)
   simp[val] at this ⊢
   omega
  ·have h:=r t.tail e
   have hn:0<l.length:=FR.2 e
   rw[ai,FG,Ha]
   have I:BB*BB^(l.length-1)<=BB*val l:=G5 _ h
   have J:BB*BB^(l.length-1)=BB^l.length:=by
    rw[FI,<-FH];congr 1;omega
   omega
theorem dG {l m:List Nat} (hl:Fit l) (tm:cS m) (h:l.length<m.length):val l<val m:=by
 have r:=bm hl
 have I:=ey tm (by intro e;subst e;simp at h)
 have J:BB^l.length<=BB^(m.length-1):=Gy aV (by omega)
 omega
theorem ep {l:List Nat} {n k:Nat} (t:cS l) (hn:l.length=n) (h:val l<BB^k):n<=k:=by
 subst hn
 rcases GX k l.length with r|r
 ·have I:=ey t (by intro e;subst e;simp at r)
  have J:BB^k<=BB^(l.length-1):=Gy aV (by omega)
  omega
 ·exact r
theorem gy (l:List Nat) (i:Nat) (h:i<l.length):val l=val (l.take i)+BB^i*(l.getD i 0+BB*val (l.drop (i+1))):=by
 have e:l=l.take i++(l.getD i 0::l.drop (i+1)):=by
  rw[getD_lt h,List.getElem_cons_drop,FM]
 have hl:(l.take i).length=i:=by rw[FK];omega
 have r:=aR (l.take i) (l.getD i 0::l.drop (i+1))
 rw[<-e,hl,ai] at r
 exact r
theorem drop_eq {l m:List Nat} (i:Nat) (hl:l.length=m.length) (h:∀ j,i<=j->l.getD j 0=m.getD j 0):l.drop i=m.drop i:=by
 refine Hb (by simp[hl]) fun j r I=>?_
 rw[Hc,Hc]
 have:=h (i+j) (by omega)
 rwa [getD_lt (by simp at r;omega),getD_lt (by simp at I;omega)] at this
theorem du {l m:List Nat} (i:Nat) (hl:l.length=m.length) (hi:i<l.length) (fl:Fit l) (h:∀ j,i+1<=j->l.getD j 0=m.getD j 0) (J:l.getD i 0<m.getD i 0):val l<val m:=by
 rw[gy l i hi,gy m i (by omega),drop_eq (i+1) hl h]
 have r:=bm (fl.take i)
 rw[FK,G6 (by omega)] at r
 generalize BB*val (m.drop (i+1))=t
 have I:BB^i*(l.getD i 0+t+1)<=BB^i*(m.getD i 0+t):=G5 _ (by omega)
 rw[G4 _ _ 1] at I
 omega
theorem eq_of_all {l m:List Nat} (hl:l.length=m.length) (h:∀ j,0<=j->l.getD j 0=m.getD j 0):l=m:=by
 have:=drop_eq 0 hl h
 simpa using this
def di (a b:Nat):Int:=if a<b then -1 else if a=b then 0 else 1
theorem jz {a b:Nat} (h:a<b):di a b= -1:=by simp[di,h]
theorem ko (a:Nat):di a a=0:=by simp[di]
theorem hH {a b:Nat} (h:b<a):di a b=1:=by
 unfold di
 rw[FQ (by omega),FQ (by omega)]
theorem take_set (l:List Nat) (i x:Nat) (h:i<l.length):(l.set i x).take (i+1)=l.take i++[x]:=by
 rw[Fh (by simpa using h),List.getElem_set_self,List.take_set_of_le (by omega)]
theorem eT (l:List Nat) (i j x:Nat) (h:i≠j):(l.set i x).getD j 0=l.getD j 0:=by
 simp[G3,List.getElem?_set_ne h]
theorem og (l:List Nat) (i x:Nat) (h:i<l.length):(l.set i x).getD i 0=x:=by
 simp[G3,h]
theorem Fit.set {l:List Nat} (h:Fit l) (i x:Nat) (I:x<BB):Fit (l.set i x):=Fit.dB fun y hy=>by
 rcases List.mem_or_eq_of_mem_set hy with r|rfl
 ·exact h.mem r
 ·exact I
theorem cK (l:List Nat) (i:Nat):val (l.take (i+1))=val (l.take i)+BB^i*l.getD i 0:=by
 rcases GX i l.length with h|h
 ·exact a8 l i h
 ·rw[Gr (by omega),Gr h,aM h];simp
theorem bF (l:List Nat) {n:Nat} (h:l.length<=n):val (l.take n)=val l:=by rw[Gr h]
end W2
namespace M
structure cI (a b L:List Nat) (n i c:Nat):Prop where
 len:L.length=n+1
 fit:Fit L
 rest:∀ j,i<=j->j<n->L.getD j 0=a.getD j 0
 sum:val (L.take i)+BB^i*c=val (a.take i)+val (b.take i)
 carry:c<=1
theorem cI.start {a b:List Nat} {n:Nat} (ha:a.length=n) (h:Fit a):cI a b (a++[0]) n 0 0:=
 ⟨by simp[ha],h.append (Fit.cons aV Fit.nil),fun j _ r=>by simp[G3,FO (ha▸r)],by simp[val],by omega⟩
theorem cI.step {a b L:List Nat} {n i c x y t:Nat} (h:cI a b L n i c) (hi:i<n) (r:x=a.getD i 0) (hy:y=b.getD i 0) (I:x<BB) (J:y<BB) (ht:t=x+y+c):
  cI a b (L.set i (t % BB)) n (i+1) (t/BB):=by
 have hc:=h.carry
 refine⟨by simp[h.len],h.fit.set _ _ (Nat.mod_lt _ aV),fun j V hn=>?_,?_,?_⟩
 ·rw[eT _ _ _ _ (by omega)];exact h.rest j (by omega) hn
 ·have hl:(L.take i).length=i:=by rw[FK,h.len];omega
  rw[take_set _ _ _ (by rw[h.len];omega),bu,hl,cK,cK,<-r,<-hy]
  have e:BB*(t/BB)+t % BB=t:=Nat.div_add_mod t BB
  have O:BB^(i+1)*(t/BB)=BB^i*(BB*(t/BB)):=by rw[FH,FJ]
  have Q:BB^i*(t % BB)+BB^i*(BB*(t/BB))=BB^i*t:=by rw[<-G4];congr 1;omega
  have U:BB^i*t=BB^i*x+BB^i*y+BB^i*c:=by rw[ht,G4,G4]
  have:=h.sum
  omega
 ·have:=bS
  have:t/BB<2:=Nat.div_lt_of_lt_mul (by omega)
  omega
theorem cI.end_ {a b L:List Nat} {n i c:Nat} (h:cI a b L n i c) (ha:a.length=n) (hb:b.length<=n) (hi:i<=n) (he:i=n\/(b.length<=i/\c=0)):
  val (L.set n c)=val a+val b:=by
 have hs:=h.sum
 have J:n<L.length:=by rw[h.len];omega
 have O:L.set n c=L.take n++[c]:=by
  rw[<-take_set L n c J,Gr (by simp[h.len])]
 have hl:(L.take n).length=n:=by rw[FK,h.len];omega
 rw[O,bu,hl]
 rcases he with rfl|⟨I,rfl⟩
 ·rw[bF a (by omega),bF b hb] at hs
  exact hs
 ·rw[bF b I] at hs
  have Q:val (L.take n)=val (L.take i)+BB^i*val ((L.take n).drop i):=by
   have:=aR ((L.take n).take i) ((L.take n).drop i)
   rw[FM,List.take_take,G6 hi,FK,h.len,G6 (by omega)] at this
   exact this
  have U:val a=val (a.take i)+BB^i*val (a.drop i):=by
   have:=aR (a.take i) (a.drop i)
   rw[FM,FK,ha,G6 hi] at this
   exact this
  have V:(L.take n).drop i=a.drop i:=drop_eq i (by rw[hl,ha]) fun j X=>by
   rcases GX j n with r|r
   ·rw[<-h.rest j X r];simp[G3,r]
   ·rw[aM (by omega),aM (by omega)]
  rw[Q,V,U]
  omega
theorem lA (L:List Nat) (o i:Nat):(L.drop o).getD i 0=L.getD (o+i) 0:=by
 simp[G3]
end M
namespace T
structure Chunk (ds es:List Nat) (C j c:Nat):Prop where
 len:es.length=ds.length+j
 fit:Fit es
 sum:val es+10^es.length*c=val ds+10^ds.length*C
 lt:c<10^(9-j)
theorem Chunk.start {ds:List Nat} {C:Nat} (f:Fit ds) (h:C<1000000000):Chunk ds ds C 0 C:=⟨rfl,f,rfl,h⟩
theorem Chunk.step {ds es:List Nat} {C j c:Nat} (h:Chunk ds es C j c) (I:j<9):Chunk ds (es++[c % 10]) C (j+1) (c/10):=by
 refine⟨by simp[h.len];omega,h.fit.append (Fit.cons (Nat.mod_lt _ (by omega)) Fit.nil),?_,?_⟩
 ·rw[bu,Gb,FG,He,FA,bS,<-h.sum,FH,FJ]
  have e:10*(c/10)+c % 10=c:=Nat.div_add_mod c 10
  have r:10^es.length*(c % 10)+10^es.length*(10*(c/10))=10^es.length*c:=by rw[<-G4];congr 1;omega
  omega
 ·have:=h.lt
  refine Nat.div_lt_of_lt_mul ?_
  have e:10*10^(9-(j+1))=10^(9-j):=by rw[FI,<-FH];congr 1;omega
  omega
end T
namespace T
def dv (l:List UInt8):Nat:=val (l.map fun c=>c.toNat-48).reverse
def gq (l:List UInt8):Prop:=∀ c∈l,48<=c.toNat/\c.toNat<=57
theorem CU:dv []=0:=rfl
theorem sQ (l:List UInt8) (c:UInt8):dv (l++[c])=dv l*10+(c.toNat-48):=by
 unfold dv
 rw[Hf,List.reverse_append,GK,GL,List.reverse_singleton,List.singleton_append,ai,bS]
 omega
theorem CX {l:List UInt8} (h:gq l):Fit (l.map fun c=>c.toNat-48).reverse:=Fit.dB fun x r=>by
 rw[Hg,Hh] at r
 obtain⟨c,hc,rfl⟩:=r
 have:=h c hc
 rw[bS]
 omega
theorem xh {l:List UInt8} (h:gq l):dv l<10^l.length:=by
 have:=bm (CX h)
 simpa [dv,bS] using this
theorem gq.take {l:List UInt8} (h:gq l) (n:Nat):gq (l.take n):=fun c hc=>h c (GN hc)
structure jw (L0 L:List Nat) (n i k more c:Nat):Prop where
 len:L.length=n
 fit:M.Fit L
 rest:∀ j,i<=j->L.getD j 0=L0.getD j 0
 sum:M.val (L.take i)+M.BB^i*c=M.val (L0.take i)*k+more
 carry:c<=k
theorem jw.start {L:List Nat} {n k more:Nat} (hl:L.length=n) (f:M.Fit L) (hm:more<=k):jw L L n 0 k more more:=
 ⟨hl,f,fun _ _=>rfl,by simp[M.val],hm⟩
theorem jw.step {r L:List Nat} {n i k more c x t:Nat} (h:jw r L n i k more c) (hi:i<n) (I:x=L.getD i 0) (ht:t=x*k+c):
  jw r (L.set i (t % M.BB)) n (i+1) k more (t/M.BB):=by
 have J:x<M.BB:=by rw[I];exact h.fit i
 refine⟨by simp[h.len],h.fit.set _ _ (Nat.mod_lt _ M.aV),fun j X=>?_,?_,?_⟩
 ·rw[M.eT _ _ _ _ (by omega)];exact h.rest j (by omega)
 ·have hl:(L.take i).length=i:=by rw[FK,h.len];omega
  rw[M.take_set _ _ _ (by rw[h.len];exact hi),M.bu,hl,M.cK,<-h.rest i (Fm _),<-I]
  have e:M.BB*(t/M.BB)+t % M.BB=t:=Nat.div_add_mod t M.BB
  have Q:M.BB^(i+1)*(t/M.BB)=M.BB^i*(M.BB*(t/M.BB)):=by rw[FH,FJ]
  have U:M.BB^i*(t % M.BB)+M.BB^i*(M.BB*(t/M.BB))=M.BB^i*t:=by rw[<-G4];congr 1;omega
  have V:M.BB^i*t=M.BB^i*x*k+M.BB^i*c:=by rw[ht,G4,FJ]
  have:=h.sum
  rw[Hj]
  omega
 ·have hc:=h.carry
  have O:(x+1)*k<=M.BB*k:=FF _ J
  rw[Hj,Hk] at O
  exact Nat.div_le_of_le_mul (by omega)
theorem jw.end_ {r L:List Nat} {n k more c:Nat} (h:jw r L n n k more c) (hl:r.length=n):M.val L+M.BB^n*c=M.val r*k+more:=by
 have:=h.sum
 rwa [Gr (by rw[h.len];exact Fm _),Gr (by rw[hl];exact Fm _)] at this
structure Parsing (s:List UInt8) (L:List Nat) (n i sc ch:Nat):Prop where
 len:L.length=n
 fit:M.Fit L
 sum:M.val L*sc+ch=dv (s.take i)
 lt:ch<sc
 pow:∃ r,r<=8/\sc=10^r
theorem Parsing.start (s:List UInt8) (n:Nat):Parsing s (List.replicate n 0) n 0 1 0:=
 ⟨by simp,M.Fit.dB fun x h=>by rw[List.eq_of_mem_replicate h];exact M.aV,by rw[M.da];simp[CU],by omega,0,by omega,rfl⟩
theorem Parsing.more {s:List UInt8} {L:List Nat} {n i sc r d:Nat} (h:Parsing s L n i sc r) (hi:i<s.length) (hd:d=(s.getD i 0).toNat-48) (I:d<=9):
  M.val L*(sc*10)+(r*10+d)=dv (s.take (i+1))/\r*10+d<sc*10:=by
 have e:s.getD i 0=s[i]:=by simp[G3,hi]
 have hl:=h.lt
 refine⟨?_,by omega⟩
 rw[Fh hi,sQ,<-h.sum,<-e,<-hd,Hj,FJ]
 omega
theorem Parsing.small {s:List UInt8} {L:List Nat} {n i sc I:Nat} (h:Parsing s L n i sc I):1<=sc/\(sc=100000000\/sc<=10000000):=by
 obtain⟨r,O,rfl⟩:=h.pow
 refine⟨Nat.pow_pos (by omega),?_⟩
 rcases GX r 8 with J|J
 ·right
  exact Fo (Gy (by omega) (show r<=7 by omega)) (by omega)
 ·obtain rfl:r=8:=by omega
  left;rfl
theorem Parsing.keep {s:List UInt8} {L:List Nat} {n i sc I d:Nat} (h:Parsing s L n i sc I) (hi:i<s.length) (hd:d=(s.getD i 0).toNat-48) (O:d<=9) (hs:sc<=10000000):
  Parsing s L n (i+1) (sc*10) (I*10+d):=by
 have hm:=h.more hi hd O
 refine⟨h.len,h.fit,hm.1,hm.2,?_⟩
 obtain⟨r,Q,rfl⟩:=h.pow
 refine⟨r+1,?_,by rw[FH]⟩
 rcases GX r 8 with J|J
 ·omega
 ·obtain rfl:r=8:=by omega
  omega
theorem room {s:List UInt8} (h:gq s) {i n:Nat} (hn:n=s.length/9+1):dv (s.take i)<M.BB^n:=by
 have r:=xh (h.take i)
 have I:10^(s.take i).length<=10^(9*n):=Gy (by omega) (by rw[FK];omega)
 have J:10^(9*n)<=M.BB^n:=by
  rw[Nat.pow_mul]
  exact Hl (by rw[M.bS];omega) n
 omega
theorem Parsing.flush {s:List UInt8} {L r:List Nat} {n i sc I d c:Nat} (h:Parsing s L n i sc I) (hi:i<s.length) (hd:d=(s.getD i 0).toNat-48) (J:d<=9) (ha:gq s) (hn:n=s.length/9+1)
  (hl:r.length=n) (f:M.Fit r) (hs:M.val r+M.BB^n*c=M.val L*(sc*10)+(I*10+d)):Parsing s r n (i+1) 1 0:=by
 have hm:=h.more hi hd J
 rw[hm.1] at hs
 have O:=room (i:=i+1) ha hn
 have hc:c=0:=by
  rcases Hn c with e|e
  ·exact e
  ·have:M.BB^n*1<=M.BB^n*c:=G5 _ e
   omega
 rw[hc,Nat.mul_zero,Ho] at hs
 exact⟨hl,f,by omega,by omega,0,by omega,rfl⟩
end T
namespace Bt
def nat (bs:List Bool):List Nat:=bs.map Bool.toNat
def val (bs:List Bool):Nat:=W2.val (nat bs)
def cS (bs:List Bool):Prop:=W2.cS (nat bs)
theorem bG (bs:List Bool):(nat bs).length=bs.length:=by simp[nat]
theorem kk (bs:List Bool) (j:Nat):(nat bs).getD j 0=(bs.getD j false).toNat:=by
 simp only[nat,G3,Fj]
 cases bs[j]? <;> rfl
theorem oy (b:Bool):b.toNat<=1:=by cases b <;> simp
theorem oa (bs:List Bool):W2.Fit (nat bs):=fun j=>by
 rw[kk,W2.bS]
 have:=oy (bs.getD j false)
 omega
theorem y8 (bs:List Bool) (n:Nat):nat (bs.take n)=(nat bs).take n:=by simp[nat,List.map_take]
theorem iE (bs cs:List Bool):nat (bs++cs)=nat bs++nat cs:=by simp[nat]
theorem getD_lt {bs:List Bool} {j:Nat} (h:j<bs.length):bs.getD j false=bs[j]:=by simp[G3,h]
theorem aM {bs:List Bool} {j:Nat} (h:bs.length<=j):bs.getD j false=false:=by simp[G3,h]
theorem Bq {bs cs:List Bool} (h:nat bs=nat cs):bs=cs:=by
 have hl:bs.length=cs.length:=by rw[<-bG,<-bG,h]
 refine Hb hl fun j r I=>?_
 have:=G1 (·.getD j 0) h
 simp only[kk] at this
 rw[getD_lt r,getD_lt I] at this
 cases J:bs[j] <;> cases L:cs[j] <;> simp[J,L] at this <;> rfl
theorem uniq {bs cs:List Bool} (t:cS bs) (u:cS cs) (h:val bs=val cs):bs=cs:=Bq (W2.uniq (oa _) (oa _) t u h)
theorem aW:val []=0:=rfl
theorem bm (bs:List Bool):val bs<2^bs.length:=by
 have:=W2.bm (oa bs)
 rwa [bG,W2.bS] at this
theorem ep {bs:List Bool} {k:Nat} (t:cS bs) (h:val bs<2^k):bs.length<=k:=W2.ep t (bG bs) (by rw[W2.bS];exact h)
theorem ey {bs:List Bool} (t:cS bs) (h:bs≠[]):2^(bs.length-1)<=val bs:=by
 have:=W2.ey t (by intro e;apply h;have:=G1 List.length e;rw[bG] at this;exact FV (by simpa using this))
 rwa [bG,W2.bS] at this
theorem cn (bs:List Bool) (n:Nat) (h:∀ j,n<=j->bs.getD j false=false):val (bs.take n)=val bs:=by
 unfold val
 rw[y8]
 exact W2.cn _ n fun j r=>by rw[kk,h j r];rfl
theorem xv (bs:List Bool) (k:Nat) (J:k<=bs.length) (h:0<k->bs.getD (k-1) false=true):cS (bs.take k):=by
 intro I
 have hl:(nat (bs.take k)).length=k:=by rw[bG,FK];omega
 have r:0<k:=by
  rcases Hn k with e|e
  ·subst e;exact absurd rfl I
  ·exact e
 rw[hl,kk]
 have:(bs.take k).getD (k-1) false=true:=by
  rw[<-h r]
  simp[G3,show k-1<k from by omega]
 rw[this]
 simp
theorem At:cS []:=W2.cS.nil
theorem bu (bs:List Bool) (b:Bool):val (bs++[b])=val bs+2^bs.length*b.toNat:=by
 unfold val
 rw[iE]
 have:=W2.bu (nat bs) b.toNat
 rwa [bG,W2.bS] at this
theorem ai (b:Bool) (bs:List Bool):val (b::bs)=b.toNat+2*val bs:=by
 have:=W2.ai b.toNat (nat bs)
 rwa [W2.bS] at this
theorem ub (n:Nat):(decide (n % 2=1)).toNat=n % 2:=by
 rcases(show n % 2=0\/n % 2=1 from by omega) with h|h <;> simp[h]
structure Chunk (ds es:List Bool) (C j c:Nat):Prop where
 len:es.length=ds.length+j
 sum:val es+2^es.length*c=val ds+2^ds.length*C
 lt:c<2^(32-j)
theorem Chunk.start {ds:List Bool} {C:Nat} (h:C<4294967296):Chunk ds ds C 0 C:=⟨rfl,rfl,h⟩
theorem Chunk.step {ds es:List Bool} {C j c:Nat} (h:Chunk ds es C j c) (I:j<32):Chunk ds (es++[decide (c % 2=1)]) C (j+1) (c/2):=by
 refine⟨by simp[h.len];omega,?_,?_⟩
 ·rw[bu,ub,Gb,FG,He,FA,<-h.sum,FH,FJ]
  have e:2*(c/2)+c % 2=c:=Nat.div_add_mod c 2
  have r:2^es.length*(c % 2)+2^es.length*(2*(c/2))=2^es.length*c:=by rw[<-G4];congr 1;omega
  omega
 ·have:=h.lt
  refine Nat.div_lt_of_lt_mul ?_
  have e:2*2^(32-(j+1))=2^(32-j):=by rw[FI,<-FH];congr 1;omega
  omega
theorem lS (i:Nat):M.BB^i=2^(32*i):=by rw[Nat.pow_mul];congr 1
structure fK (l:List Nat) (ds:List Bool) (i:Nat):Prop where
 len:ds.length=32*i
 sum:val ds=M.val (l.take i)
theorem fK.start (l:List Nat):fK l [] 0:=⟨rfl,by simp[M.val,aW]⟩
theorem fK.step {l:List Nat} {ds es:List Bool} {i x c:Nat} (h:fK l ds i) (r:x=l.getD i 0) (k:Chunk ds es x 32 c):fK l es (i+1):=by
 refine⟨by rw[k.len,h.len];omega,?_⟩
 have hc:c=0:=by have:=k.lt;simp at this;exact this
 have hs:=k.sum
 rw[hc,Nat.mul_zero,Ho] at hs
 rw[hs,h.sum,h.len,M.cK,<-r,lS]
theorem mV (bs:List Bool) (k m:Nat):val ((bs.drop k).take (m+1))=(bs.getD k false).toNat+2*val ((bs.drop (k+1)).take m):=by
 rcases GX k bs.length with h|h
 ·rw[FC h,GG,ai,getD_lt h]
 ·rw[Gz h,Gz (by omega),aM h];simp[aW]
theorem jn (bs:List Bool) (k m:Nat):val ((bs.drop k).take m)<2^m:=by
 have h:=bm ((bs.drop k).take m)
 have r:2^((bs.drop k).take m).length<=2^m:=Gy (by omega) (List.length_take_le _ _)
 omega
theorem ib (bs:List Bool) (i m:Nat):val (bs.take (i+m))=val (bs.take i)+2^i*val ((bs.drop i).take m):=by
 rcases GX bs.length i with h|h
 ·rw[Gr (by omega),Gr (by omega),Gz (by omega)];simp[aW]
 ·have e:bs.take (i+m)=bs.take i++(bs.drop i).take m:=by rw[List.take_add]
  rw[e]
  unfold val
  rw[iE,W2.aR,bG,FK,G6 h,W2.bS]
structure dZ (bs:List Bool) (out:List Nat) (t:Nat):Prop where
 len:out.length=t
 fit:M.Fit out
 sum:M.val out=val (bs.take (32*t))
theorem dZ.start (bs:List Bool):dZ bs [] 0:=⟨rfl,M.Fit.nil,rfl⟩
theorem dZ.step {bs:List Bool} {out:List Nat} {t n:Nat} (h:dZ bs out t) (hn:n=val ((bs.drop (32*t)).take 32)):dZ bs (out++[n]) (t+1):=by
 have r:n<4294967296:=by rw[hn];exact jn _ _ _
 refine⟨by simp[h.len],h.fit.append (M.Fit.cons (by rw[M.bS];exact r) M.Fit.nil),?_⟩
 rw[M.bu,h.sum,h.len,lS,hn,show 32*(t+1)=32*t+32 from by omega,ib]
theorem dZ.end_ {bs:List Bool} {out:List Nat} {t:Nat} (h:dZ bs out t) (tp:cS bs) (O:bs.length<=32*t) (Q:t=0\/32*(t-1)<bs.length):M.cS out/\M.val out=val bs:=by
 have hv:M.val out=val bs:=by rw[h.sum,Gr O]
 refine⟨fun I=>?_,hv⟩
 have ht:0<t:=by rw[<-h.len];exact FR.2 I
 have hb:32*(t-1)<bs.length:=by rcases Q with e|e;omega;exact e
 intro J
 have r:bs≠[]:=by rintro rfl;simp at hb
 have g:=ey tp r
 have g2:2^(32*(t-1))<=2^(bs.length-1):=Gy (by omega) (by omega)
 have e:=M.cn out (t-1) (fun j U=>by
  by_cases e:j=t-1
  ·rw[e];rw[h.len] at J;exact J
  ·exact M.aM (by rw[h.len];omega))
 have L:=M.bm (h.fit.take (t-1))
 rw[FK,h.len,G6 (by omega),lS,e,hv] at L
 omega
end Bt
namespace Bt
theorem ui {bs cs:List Bool} (h:∀ j,bs.getD j false=cs.getD j false):val bs=val cs:=by
 induction bs generalizing cs with
 |nil=>
  have:=cn cs 0 (fun j _=>by rw[<-h j];rfl)
  rw[<-this];rfl
 |cons b bs I=>
  cases cs with
  |nil=>
   have:=cn (b::bs) 0 (fun j _=>by rw[h j];rfl)
   rw[<-this];rfl
  |cons c cs=>
   have r:b=c:=by simpa using h 0
   rw[ai,ai,r,I fun j=>by simpa using h (j+1)]
theorem lA (bs:List Bool) (i j:Nat):(bs.drop i).getD j false=bs.getD (i+j) false:=by simp[G3]
theorem iz (bs:List Bool) (i:Nat):val bs=val (bs.take i)+2^i*val (bs.drop i):=by
 rcases GX bs.length i with h|h
 ·rw[Gr (by omega),Gz (by omega),aW];simp
 ·have e:=W2.aR (nat (bs.take i)) (nat (bs.drop i))
  rw[<-iE,FM,bG,FK,G6 h,W2.bS] at e
  exact e
theorem lP (bs:List Bool) (i:Nat):val (bs.drop i)=(bs.getD i false).toNat+2*val (bs.drop (i+1)):=by
 rcases GX i bs.length with h|h
 ·rw[FC h,ai,getD_lt h]
 ·rw[Gz h,Gz (by omega),aM h,aW];simp
theorem qy (bs:List Bool) (i:Nat):val (bs.take i)<2^i:=by
 have h:=bm (bs.take i)
 have r:2^(bs.take i).length<=2^i:=Gy (by omega) (List.length_take_le _ _)
 omega
theorem a8 (bs:List Bool) (i:Nat):val (bs.take (i+1))=val (bs.take i)+2^i*(bs.getD i false).toNat:=by
 have h:=ib bs i 1
 rw[h]
 congr 2
 have:=mV bs i 0
 rw[this,G8,aW];omega
theorem bF (bs:List Bool) {i:Nat} (h:bs.length<=i):val (bs.take i)=val bs:=by rw[Gr h]
theorem du {bs cs:List Bool} (i:Nat) (h:∀ j,i<j->bs.getD j false=cs.getD j false) (hb:bs.getD i false=false) (hc:cs.getD i false=true):val bs<val cs:=by
 have e:val (bs.drop (i+1))=val (cs.drop (i+1)):=ui fun j=>by rw[lA,lA];exact h _ (by omega)
 rw[iz bs i,iz cs i,lP bs i,lP cs i,hb,hc,e]
 have I:=qy bs i
 generalize val (cs.drop (i+1))=t
 have r:2^i*(true.toNat+2*t)=2^i+2^i*(false.toNat+2*t):=by
  rw[show true.toNat=1 from rfl,show false.toNat=0 from rfl,G4,Hp,FA]
 omega
structure cI (a b out:List Bool) (i:Nat) (c:Bool):Prop where
 len:out.length=i
 sum:val out+2^i*c.toNat=val (a.take i)+val (b.take i)
theorem cI.start (a b:List Bool):cI a b [] 0 false:=⟨rfl,by simp[aW]⟩
theorem cI.step {a b out:List Bool} {i n:Nat} {c x y:Bool} (h:cI a b out i c) (J:x=a.getD i false) (hy:y=b.getD i false) (hn:n=x.toNat+y.toNat+c.toNat):
  cI a b (out++[decide (n % 2=1)]) (i+1) (decide (1<n)):=by
 refine⟨by simp[h.len],?_⟩
 rw[bu,h.len,ub,a8,a8,<-J,<-hy]
 have hs:=h.sum
 have e:(decide (1<n)).toNat=n/2:=by
  have L:=oy x
  have O:=oy y
  have I:=oy c
  by_cases r:1<n
  ·rw[FW r];simp;omega
  ·rw[Gq r];simp;omega
 rw[e,FH,FJ]
 have Q:2^i*(n % 2)+2^i*(2*(n/2))=2^i*n:=by rw[<-G4];congr 1;omega
 have U:2^i*n=2^i*x.toNat+2^i*y.toNat+2^i*c.toNat:=by rw[hn,G4,G4]
 omega
theorem cI.end_ {a b out:List Bool} {i:Nat} (h:cI a b out i false) (ha:a.length<=i) (hb:b.length<=i):val out=val a+val b:=by
 have:=h.sum
 rw[bF a ha,bF b hb] at this
 simpa using this
end Bt
namespace T
end T
namespace M
end M
namespace M
end M
namespace M
end M
namespace M
theorem ib (L:List Nat) (i:Nat) (h:i<=L.length):val L=val (L.take i)+BB^i*val (L.drop i):=by
 have e:=aR (L.take i) (L.drop i)
 rw[FM,FK,G6 h] at e
 exact e
theorem begun {a U:List Nat} {h n s K V:Nat} (ha:a.length=h) (I:Fit a) (hU:U.length=s+n) (Z:h+1=s+n) (hn:1<=n) (hs:val U=val a*K) (Q:K<=2147483648) (X:2147483648*BB^(n-1)<=V):val (U.drop s)<V:=by
 obtain⟨m,rfl⟩:∃ m,n=m+1:=⟨n-1,by omega⟩
 rw[Ha] at X
 obtain rfl:h=s+m:=by omega
 have e:=ib U s (by omega)
 have L:val a<BB^(s+m):=by rw[<-ha];exact bm I
 have O:val a*K<BB^(s+m)*2147483648:=by
  rcases Hn K with rfl|J
  ·rw[Nat.mul_zero];have:=Nat.pow_pos (n:=s+m) aV;omega
  ·have h3:val a*K<BB^(s+m)*K:=Nat.mul_lt_mul_of_pos_right L J
   have h4:BB^(s+m)*K<=BB^(s+m)*2147483648:=G5 _ Q
   omega
 rcases GX (val (U.drop s)) V with r|r
 ·exact r
 ·exfalso
  have h6:BB^s*(2147483648*BB^m)<=BB^s*val (U.drop s):=G5 _ (by omega)
  rw[Hq,FJ,FI (BB^m)] at O
  omega
end M
namespace Z
def sg (g:Bool) (N:Nat):Int:=if g then -(N:Int) else(N:Int)
def qK (z:Int):Int:=if z<0 then -1 else if z=0 then 0 else 1
theorem tk (N:Nat):sg true N= -(N:Int):=rfl
theorem kx (N:Nat):sg false N=(N:Int):=rfl
theorem ig {z:Int} (h:z<0):qK z= -1:=by simp[qK,h]
theorem oK {z:Int} (h:0<z):qK z=1:=by
 unfold qK
 rw[FQ (by omega),FQ (by omega)]
theorem jR (z:Int):(z<0/\qK z= -1)\/(z=0/\qK z=0)\/(0<z/\qK z=1):=by
 rcases Int.lt_trichotomy z 0 with h|h|h
 ·exact .inl ⟨h,ig h⟩
 ·exact .inr (.inl ⟨h,by rw[h];rfl⟩)
 ·exact .inr (.inr ⟨h,oK h⟩)
def fl (z y:Int):Int:=if y<0 then(-z)/(-y) else z/y
end Z
end Go.Proofs.YtdbgiijdgedggaaGreatDoor
