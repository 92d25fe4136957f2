import Derived.Test.YtdbgiijdgedggaaGreatDoorQM10
import Derived.Test.YtdbgiijdgedggaaGreatDoorQM12
set_option linter.unusedSimpArgs false
set_option linter.unusedVariables false
set_option maxRecDepth 100000
set_option maxHeartbeats 25600000
namespace Go.Proofs.YtdbgiijdgedggaaGreatDoor
mutual
def Bd.cost (w:ByteArray->Nat->Nat):Sx->Nat
 |⟨list,_,_,_,_,L⟩=>if list=true then Bd.head w L+Bd.bQ w L else 0
def Bd.bQ (w:ByteArray->Nat->Nat):List Sx->Nat
 |[]=>0
 |x::l=>Bd.cost w x+Bd.bQ w l
def Bd.head (w:ByteArray->Nat->Nat):List Sx->Nat
 |[]=>0
 |h::r=>if h.list=false/\h.k=3 then w h.T r.length else 0
end
theorem Bd.ie (w:ByteArray->Nat->Nat) {x:Sx} (h:x.list=true):Bd.cost w x=Bd.head w x.L+Bd.bQ w x.L:=by
 obtain⟨l,k,T,ta,a,L⟩:=x
 simp only at h
 subst h
 rw[Bd.cost,if_pos rfl]
theorem Bd.vh (w:ByteArray->Nat->Nat) {x:Sx} (h:x.list=false):Bd.cost w x=0:=by
 obtain⟨l,k,T,ta,a,L⟩:=x
 simp only at h
 subst h
 rw[Bd.cost]
 rfl
theorem Bd.uK (w:ByteArray->Nat->Nat) {l:List Sx} {x:Sx} (h:x∈l):Bd.cost w x<=Bd.bQ w l:=by
 induction l with
 |nil=>cases h
 |cons y l r=>
  rw[Bd.bQ]
  rcases List.mem_cons.1 h with rfl|h
  ·omega
  ·have:=r h;omega
mutual
theorem Bd.nK (w:ByteArray->Nat->Nat) (c Q:Nat) (hw:∀ s n,c*w s n<=(n+1)*Q):∀ x:Sx,c*Bd.cost w x+Q<=x.size*Q
 |⟨list,k,T,ta,a,L⟩=>by
  have J:=Bd.kN w c Q hw L
  have I:c*Bd.head w L<=L.length*Q:=by
   cases L with
   |nil=>rw[Bd.head];omega
   |cons h r=>
    rw[Bd.head]
    split
    ·exact hw _ _
    ·omega
  rw[Bd.cost,Sx.size,Nat.add_mul,Nat.one_mul]
  split
  ·rw[Nat.mul_add];omega
  ·omega
theorem Bd.kN (w:ByteArray->Nat->Nat) (c Q:Nat) (hw:∀ s n,c*w s n<=(n+1)*Q):∀ l:List Sx,c*Bd.bQ w l+l.length*Q<=Sx.sizes l*Q
 |[]=>by rw[Bd.bQ,Sx.sizes];simp
 |x::l=>by
  have h:=Bd.nK w c Q hw x
  have r:=Bd.kN w c Q hw l
  rw[Bd.bQ,Sx.sizes,List.length_cons,Nat.mul_add,Nat.add_mul,Nat.add_mul,Nat.one_mul]
  omega
end
def Bd.arity (D:List Dc) (j:Nat):Option Nat:=match D[j]? with
 |some d=>if d.cL=true then some d.par.length else none
 |none=>none
def Bd.weight (D:List Dc) (i k:Nat) (c:Nat->Nat) (s:ByteArray) (n:Nat):Nat:=match Bd.decl D s k with
 |some j=>if Bd.arity D j=some n/\i<n then 1+c j else 0
 |none=>0
def Bd.body (D:List Dc) (i:Nat):Nat->Nat->Nat
 |0,_=>0
 |k+1,j=>if j=k then(match D[k]? with
  |some d=>Bd.cost (Bd.weight D i k (Bd.body D i k)) d.body
  |none=>0) else Bd.body D i k j
theorem Bd.nZ (D:List Dc) (i:Nat):∀ k j,j<k->Bd.body D i k j=Bd.body D i (j+1) j
 |0,_,h=>absurd h (Nat.not_lt_zero _)
 |k+1,j,h=>by
  by_cases e:j=k
  ·subst e;rfl
  ·rw[Bd.body,if_neg e,Bd.nZ D i k j (by omega)]
def Bd.makes (D:List Dc) (i k:Nat) (x:Sx):Nat:=Bd.cost (Bd.weight D i k (Bd.body D i k)) x
def Bd.dQ (D:List Dc) (i:Nat):Nat->Nat
 |0=>0
 |k+1=>Bd.dQ D i k+(match Bd.arity D k with
  |some n=>if i<n then 0 else Bd.body D i (k+1) k
  |none=>0)
theorem Bd.vK (D:List Dc) (i:Nat):∀ {j k:Nat},j<=k->Bd.dQ D i j<=Bd.dQ D i k:=by
 intro j k h
 induction h with
 |refl=>exact Nat.le_refl _
 |step _ r=>rw[Bd.dQ];omega
def Bd.kept (i:Nat) (m:List (Nat×List Int×Int)):Nat:=(m.filter fun q=>decide (i<q.2.1.length)).length
def Bd.paid (D:List Dc) (i:Nat):List (Nat×List Int×Int)->Nat
 |[]=>0
 |q::m=>(if i<q.2.1.length then 0 else Bd.body D i (q.1+1) q.1)+Bd.paid D i m
theorem Bd.pN (i:Nat) (m:List (Nat×List Int×Int)) (q:Nat×List Int×Int):Bd.kept i (m++[q])=Bd.kept i m+if i<q.2.1.length then 1 else 0:=by
 unfold Bd.kept
 rw[List.filter_append,List.length_append]
 by_cases h:i<q.2.1.length <;> simp[h]
theorem Bd.kE (D:List Dc) (i:Nat) (q:Nat×List Int×Int):∀ m:List (Nat×List Int×Int),Bd.paid D i (m++[q])=Bd.paid D i m+if i<q.2.1.length then 0 else Bd.body D i (q.1+1) q.1
 |[]=>by rw[List.nil_append,Bd.paid,Bd.paid,Bd.paid];omega
 |r::m=>by rw[List.cons_append,Bd.paid,Bd.paid,Bd.kE D i q m];omega
def Bd.Fits (D:List Dc) (i S:Nat) (m:List (Nat×List Int×Int)) (more k rest:Nat):Prop:=Bd.kept i m+more+Bd.dQ D i k+rest<=Bd.paid D i m+S
theorem Bd.Fits.call {D:List Dc} {i S:Nat} {m:List (Nat×List Int×Int)} {k rest j n:Nat} {d:Dc} (L:j<k) (hd:D[j]?=some d) (ha:Bd.arity D j=some n)
  (h:Bd.Fits D i S m (if i<n then 1+Bd.body D i k j else 0) k rest):
  ∃ r,Bd.Fits D i S m (Bd.makes D i j d.body) j r/\∀ (m':List (Nat×List Int×Int)) (A:List Int) (id:Int),A.length=n->Bd.Fits D i S m' 0 j r->Bd.Fits D i S (m'++[(j,A,id)]) 0 k rest:=by
 have hb:Bd.body D i k j=Bd.makes D i j d.body:=by
  rw[Bd.nZ D i k j L,Bd.body,if_pos rfl,hd,Bd.makes]
 have I:Bd.body D i (j+1) j=Bd.makes D i j d.body:=by rw[Bd.body,if_pos rfl,hd,Bd.makes]
 have hp:=Bd.vK D i (show j+1<=k from L)
 have J:Bd.dQ D i (j+1)=Bd.dQ D i j+(if i<n then 0 else Bd.makes D i j d.body):=by
  rw[Bd.dQ,ha]
  simp only
  rw[I]
 unfold Bd.Fits at h ⊢
 rw[hb] at h
 by_cases hi:i<n
 ·rw[if_pos hi] at h J
  refine⟨rest+1+(Bd.dQ D i k-Bd.dQ D i j),by omega,fun m' A id hA O=>?_⟩
  rw[Bd.pN,Bd.kE,if_pos (by simp only[hA];exact hi),if_pos (by simp only[hA];exact hi)]
  omega
 ·rw[if_neg hi] at h J
  refine⟨rest+(Bd.dQ D i k-Bd.dQ D i j-Bd.makes D i j d.body),by omega,fun m' A id hA O=>?_⟩
  rw[Bd.pN,Bd.kE,if_neg (by simp only[hA];exact hi),if_neg (by simp only[hA];exact hi),I]
  omega
def Bd.size (D:List Dc) (j:Nat):Nat:=(D[j]?.map (·.body.size)).getD 0
def Bd.cQ (D:List Dc) (i:Nat):Nat->Nat×Nat
 |0=>(1,0)
 |k+1=>match Bd.arity D k with
  |some p=>if i<p then((Bd.cQ D i k).1*(p+1),max ((p+1)*(Bd.cQ D i k).2) ((Bd.cQ D i k).1+(Bd.size D k-1)*(Bd.cQ D i k).2)) else Bd.cQ D i k
  |none=>Bd.cQ D i k
theorem Bd.vr (D:List Dc) (i k c Q:Nat) (h:∀ j n,j<k->Bd.arity D j=some n->i<n->c*(1+Bd.body D i (j+1) j)<=(n+1)*Q) (s:ByteArray) (n:Nat):
  c*Bd.weight D i k (Bd.body D i k) s n<=(n+1)*Q:=by
 unfold Bd.weight
 cases hd:Bd.decl D s k with
 |none=>simp
 |some j=>
  simp only
  split
  ·rename_i e
   have r:=(Bd.bK hd).1
   rw[Bd.nZ D i k j r]
   exact h j n r e.1 e.2
  ·omega
theorem Bd.jF (D:List Dc) (i k c Q:Nat) (h:∀ j n,j<k->Bd.arity D j=some n->i<n->c*(1+Bd.body D i (j+1) j)<=(n+1)*Q) (x:Sx):
 c*Bd.makes D i k x+Q<=x.size*Q:=Bd.nK _ c Q (Bd.vr D i k c Q h) x
theorem Bd.fk {D:List Dc} {j n:Nat} (h:Bd.arity D j=some n):∃ d,D[j]?=some d/\d.cL=true/\d.par.length=n:=by
 unfold Bd.arity at h
 cases hd:D[j]? with
 |none=>rw[hd] at h;cases h
 |some d=>
  rw[hd] at h
  simp only at h
  split at h
  ·rename_i e;cases h;exact⟨d,rfl,e,rfl⟩
  ·cases h
theorem Bd.lH {D:List Dc} {i j:Nat} {d:Dc} (hd:D[j]?=some d):Bd.body D i (j+1) j=Bd.makes D i j d.body:=by rw[Bd.body,if_pos rfl,hd,Bd.makes]
theorem Bd.sa (D:List Dc) (i:Nat):∀ k j n,j<k->Bd.arity D j=some n->i<n->(Bd.cQ D i k).1*(1+Bd.body D i (j+1) j)<=(n+1)*(Bd.cQ D i k).2
 |0,_,_,h,_,_=>absurd h (Nat.not_lt_zero _)
 |k+1,j,n,V,ha,hi=>by
  have I:=Bd.sa D i k
  obtain⟨c,Q,r⟩:∃ c Q,Bd.cQ D i k=(c,Q):=⟨_,_,rfl⟩
  rw[r] at I
  simp only at I
  rw[Bd.cQ,r]
  simp only
  by_cases e:j=k
  ·subst e
   obtain⟨d,hd,_,_⟩:=Bd.fk ha
   rw[ha]
   simp only
   rw[if_pos hi]
   simp only
   have U:=Bd.jF D i j c Q (fun j' n' h=>I j' n' h) d.body
   have hs:Bd.size D j=d.body.size:=by rw[Bd.size,hd];rfl
   rw[Bd.lH hd,hs]
   have L:=d.body.size_pos
   have O:c*(1+Bd.makes D i j d.body)<=c+(d.body.size-1)*Q:=by
    rw[Nat.mul_add,Nat.mul_one,Nat.sub_mul,Nat.one_mul]
    omega
   calc c*(n+1)*(1+Bd.makes D i j d.body)=(n+1)*(c*(1+Bd.makes D i j d.body)):=by rw[Nat.mul_comm c,Nat.mul_assoc]
    _<=_:=Nat.mul_le_mul_left _ (Nat.le_trans O (Nat.le_max_right _ _))
  ·have J:=I j n (by omega) ha hi
   cases X:Bd.arity D k with
   |none=>exact J
   |some p=>
    simp only
    split
    ·simp only
     calc c*(p+1)*(1+Bd.body D i (j+1) j)=(p+1)*(c*(1+Bd.body D i (j+1) j)):=by rw[Nat.mul_comm c,Nat.mul_assoc]
      _<=(p+1)*((n+1)*Q):=Nat.mul_le_mul_left _ J
      _=(n+1)*((p+1)*Q):=by rw[<-Nat.mul_assoc,<-Nat.mul_assoc,Nat.mul_comm (p+1)]
      _<=_:=Nat.mul_le_mul_left _ (Nat.le_max_left _ _)
    ·exact J
theorem Bd.wX (D:List Dc) (i k:Nat) (x:Sx):(Bd.cQ D i k).1*Bd.makes D i k x<=(x.size-1)*(Bd.cQ D i k).2:=by
 have:=Bd.jF D i k _ _ (Bd.sa D i k) x
 rw[Nat.sub_mul,Nat.one_mul]
 omega
theorem Bd.Bf (L z:Nat):z*L^z*(L+1)^L<=L^(L+1)*(L+1)^z:=by
 have up:∀ d,(L+d)*L^(L+d)*(L+1)^L<=L^(L+1)*(L+1)^(L+d):=by
  intro d
  induction d with
  |zero=>rw[Nat.add_zero,Nat.pow_succ,Nat.mul_comm L (L^L)];exact Nat.le_refl _
  |succ d I=>
   have r:(L+(d+1))*L<=(L+1)*(L+d):=by
    have:=Nat.mul_comm d L
    simp only[Nat.add_mul,Nat.mul_add,Nat.one_mul]
    omega
   calc (L+(d+1))*L^(L+(d+1))*(L+1)^L=((L+(d+1))*L)*(L^(L+d)*(L+1)^L):=by rw[show L^(L+(d+1))=L^(L+d)*L from Nat.pow_succ _ _];ac_rfl
    _<=((L+1)*(L+d))*(L^(L+d)*(L+1)^L):=Nat.mul_le_mul_right _ r
    _=(L+1)*((L+d)*L^(L+d)*(L+1)^L):=by ac_rfl
    _<=(L+1)*(L^(L+1)*(L+1)^(L+d)):=Nat.mul_le_mul_left _ I
    _=L^(L+1)*(L+1)^(L+(d+1)):=by rw[show(L+1)^(L+(d+1))=(L+1)^(L+d)*(L+1) from Nat.pow_succ _ _];ac_rfl
 have down:∀ d z,z+d=L->z*L^z*(L+1)^L<=L^(L+1)*(L+1)^z:=by
  intro d
  induction d with
  |zero=>
   intro z hz
   obtain rfl:z=L:=by omega
   exact up 0
  |succ d I=>
   intro z hz
   have J:=I (z+1) (by omega)
   have r:(L+1)*z<=(z+1)*L:=by
    rw[Nat.add_mul,Nat.add_mul,Nat.one_mul,Nat.one_mul,Nat.mul_comm L z]
    omega
   have O:(L+1)*(z*L^z*(L+1)^L)<=(L+1)*(L^(L+1)*(L+1)^z):=by
    calc (L+1)*(z*L^z*(L+1)^L)=((L+1)*z)*(L^z*(L+1)^L):=by simp only[Nat.mul_assoc]
     _<=((z+1)*L)*(L^z*(L+1)^L):=Nat.mul_le_mul_right _ r
     _=(z+1)*L^(z+1)*(L+1)^L:=by rw[show L^(z+1)=L^z*L from Nat.pow_succ _ _];ac_rfl
     _<=L^(L+1)*(L+1)^(z+1):=J
     _=(L+1)*(L^(L+1)*(L+1)^z):=by rw[show(L+1)^(z+1)=(L+1)^z*(L+1) from Nat.pow_succ _ _];ac_rfl
   exact Nat.le_of_mul_le_mul_left O (Nat.succ_pos _)
 rcases Nat.le_total z L with h|h
 ·exact down (L-z) z (by omega)
 ·obtain⟨d,rfl⟩:∃ d,z=L+d:=⟨z-L,by omega⟩
  exact up d
theorem Bd.kc {L m:Nat} (h:m*(L+1)^L<=L^(L+1)) (z:Nat):max z m*L^z*(L+1)^L<=L^(L+1)*(L+1)^z:=by
 rcases Nat.le_total m z with e|e
 ·rw[Nat.max_eq_left e]
  exact Bd.Bf L z
 ·rw[Nat.max_eq_right e]
  calc m*L^z*(L+1)^L=(m*(L+1)^L)*L^z:=by ac_rfl
   _<=L^(L+1)*L^z:=Nat.mul_le_mul_right _ h
   _<=_:=Nat.mul_le_mul_left _ (Nat.pow_le_pow_left (Nat.le_succ L) z)
def Bd.ez (D:List Dc) (q:Nat->Bool):Nat->Nat
 |0=>0
 |k+1=>Bd.ez D q k+(match Bd.arity D k with
  |some p=>if q p=true then 1 else 0
  |none=>0)
def Bd.sum (D:List Dc) (q:Nat->Bool):Nat->Nat
 |0=>0
 |k+1=>Bd.sum D q k+(match Bd.arity D k with
  |some p=>if q p=true then Bd.size D k else 0
  |none=>0)
theorem Bd.uY {D:List Dc} {k p:Nat} (h:Bd.arity D k=some p):0<Bd.size D k:=by
 obtain⟨d,hd,_,_⟩:=Bd.fk h
 rw[Bd.size,hd]
 exact d.body.size_pos
def Bd.Prod (L n s Y:Nat):Prop:=Y*L^(s+3)*(L+1)^(L*n)<=L^((L+1)*n)*(L+1)^(s+3)
theorem Bd.Prod.one {L z:Nat} (h:16*(L+1)^L<=L^(L+1)):Bd.Prod L 1 z (max (z+3) 16):=by
 unfold Bd.Prod
 rw[Nat.mul_one,Nat.mul_one]
 exact Bd.kc h (z+3)
theorem Bd.Prod.more {L n s Y z:Nat} (h:Bd.Prod L n s Y) (U:4*(L+1)^L<=L^(L+1)):Bd.Prod L (n+1) (s+z) (Y*max z 4):=by
 unfold Bd.Prod at h ⊢
 have Q:=Bd.kc U z
 have r:L^(s+z+3)=L^(s+3)*L^z:=by rw[<-Nat.pow_add];congr 1;omega
 have I:(L+1)^(s+z+3)=(L+1)^(s+3)*(L+1)^z:=by rw[<-Nat.pow_add];congr 1;omega
 have J:(L+1)^(L*(n+1))=(L+1)^(L*n)*(L+1)^L:=by rw[<-Nat.pow_add,Nat.mul_succ]
 have O:L^((L+1)*(n+1))=L^((L+1)*n)*L^(L+1):=by rw[<-Nat.pow_add,Nat.mul_succ]
 rw[r,I,J,O]
 calc Y*max z 4*(L^(s+3)*L^z)*((L+1)^(L*n)*(L+1)^L)=(Y*L^(s+3)*(L+1)^(L*n))*(max z 4*L^z*(L+1)^L):=by ac_rfl
  _<=(L^((L+1)*n)*(L+1)^(s+3))*(L^(L+1)*(L+1)^z):=Nat.mul_le_mul h Q
  _=_:=by ac_rfl
theorem Bd.kj (D:List Dc) (i L:Nat) (X:∀ j p,Bd.arity D j=some p->p<=3) (h:16*(L+1)^L<=L^(L+1)):∀ k,
  (Bd.ez D (fun p=>decide (i<p)) k=0/\Bd.cQ D i k=(1,0))\/(Bd.ez D (fun p=>decide (i<p)) k=1/\(Bd.cQ D i k).2=1/\(Bd.cQ D i k).1<=4/\1<=Bd.sum D (fun p=>decide (i<p)) k)\/
  ∃ n s Y,Bd.ez D (fun p=>decide (i<p)) k=n+1/\1<=n/\(Bd.cQ D i k).2<=Y/\(Bd.cQ D i k).1<=Y/\s+1<=Bd.sum D (fun p=>decide (i<p)) k/\Bd.Prod L n s Y
 |0=> .inl ⟨rfl,rfl⟩
 |k+1=>by
  have U:=Bd.kj D i L X h k
  have h4:4*(L+1)^L<=L^(L+1):=Nat.le_trans (Nat.mul_le_mul_right _ (by decide)) h
  rw[Bd.ez,Bd.sum,Bd.cQ]
  cases ha:Bd.arity D k with
  |none=>simpa using U
  |some p=>
   simp only
   by_cases hi:i<p
   ·have hp:=X k p ha
    have hz:=Bd.uY ha
    obtain⟨z,I⟩:∃ z,Bd.size D k=z:=⟨_,rfl⟩
    rw[I] at hz
    simp only[hi,decide_true,if_true,I]
    rcases U with⟨r,J⟩|⟨r,J,O,Q⟩|⟨n,s,Y,r,J,O,Q,e5,Z⟩
    ·rw[r,J]
     exact .inr (.inl ⟨rfl,by simp,by simp only;omega,by omega⟩)
    ·rw[r,J]
     refine .inr (.inr ⟨1,z,max (z+3) 16,rfl,Nat.le_refl _,by omega,?_,by omega,Bd.Prod.one h⟩)
     have:(Bd.cQ D i k).1*(p+1)<=4*4:=Nat.mul_le_mul O (by omega)
     omega
    ·rw[r]
     refine .inr (.inr ⟨n+1,s+z,Y*max z 4,by omega,by omega,?_,?_,by omega,Z.more h4⟩)
     ·refine Nat.max_le.2 ⟨?_,?_⟩
      ·rw[Nat.mul_comm]
       exact Nat.mul_le_mul O (by omega)
      ·have V:(Bd.cQ D i k).1+(z-1)*(Bd.cQ D i k).2<=Y+(z-1)*Y:=Nat.add_le_add Q (Nat.mul_le_mul_left _ O)
       have h2:Y+(z-1)*Y=Y*z:=by
        rw[show Y*z=Y*(z-1+1) by rw[Nat.sub_add_cancel hz],Nat.mul_succ,Nat.mul_comm Y (z-1),Nat.add_comm]
       rw[h2] at V
       exact Nat.le_trans V (Nat.mul_le_mul_left _ (Nat.le_max_left _ _))
     ·exact Nat.mul_le_mul Q (by omega)
   ·simp only[hi,decide_false,if_false]
    simpa using U
end Go.Proofs.YtdbgiijdgedggaaGreatDoor
namespace Go.Proofs.YtdbgiijdgedggaaGreatDoor
open Go.RowKit
theorem Bd.Prod.upto {L n s Y T:Nat} (h:Bd.Prod L n s Y) (hs:s+3<=T):Y*L^T*(L+1)^(L*n)<=L^((L+1)*n)*(L+1)^T:=by
 obtain⟨d,rfl⟩:∃ d,T=s+3+d:=⟨T-(s+3),by omega⟩
 unfold Bd.Prod at h
 calc Y*L^(s+3+d)*(L+1)^(L*n)=(Y*L^(s+3)*(L+1)^(L*n))*L^d:=by rw[Hq];ac_rfl
  _<=(L^((L+1)*n)*(L+1)^(s+3))*(L+1)^d:=Ht h (Hl (Iz L) d)
  _=_:=by rw[Hq (L+1) (s+3) d];ac_rfl
theorem Bd.Prod.most {L n s Y:Nat} (B:Nat) (h:Bd.Prod L n s Y) (hs:s<=599) (hb:L^((L+1)*n)*(L+1)^602<(B+1)*L^602*(L+1)^(L*n)):Y<=B:=by
 have r:=h.upto (T:=602) (by omega)
 rcases GX B Y with e|e
 ·have I:(B+1)*L^602*(L+1)^(L*n)<=Y*L^602*(L+1)^(L*n):=FF _ (FF _ e)
  omega
 ·exact e
theorem Bd.BQ:16*(86+1)^86<=86^(86+1):=IB (by kernel_rfl)
theorem Bd.yQ:16*(121+1)^121<=121^(121+1):=IB (by kernel_rfl)
theorem Bd.zd:16*(301+1)^301<=301^(301+1):=IB (by kernel_rfl)
theorem Bd.za {s Y:Nat} (h:Bd.Prod 86 7 s Y) (hs:s<=599):Y<=34792782221696:=h.most _ hs (IB (by kernel_rfl))
theorem Bd.xI {s Y:Nat} (h:Bd.Prod 86 6 s Y) (hs:s<=599):Y<=1100000000000:=h.most _ hs (IB (by kernel_rfl))
theorem Bd.vc {s Y:Nat} (h:Bd.Prod 121 5 s Y) (hs:s<=599):Y<=25937424601:=h.most _ hs (IB (by kernel_rfl))
theorem Bd.vb {s Y:Nat} (h:Bd.Prod 301 2 s Y) (hs:s<=599):Y<=90601:=h.most _ hs (IB (by kernel_rfl))
theorem Bd.nT (D:List Dc) (i:Nat) (r:∀ j p,Bd.arity D j=some p->p<=3):∀ k,
  (Bd.cQ D i k).1=2^Bd.ez D (fun p=>decide (i<p)&&decide (p=1)) k*3^Bd.ez D (fun p=>decide (i<p)&&decide (p=2)) k*4^Bd.ez D (fun p=>decide (i<p)&&decide (p=3)) k
 |0=>rfl
 |k+1=>by
  have h:=Bd.nT D i r k
  rw[Bd.cQ,Bd.ez,Bd.ez,Bd.ez]
  cases ha:Bd.arity D k with
  |none=>simpa using h
  |some p=>
   simp only
   by_cases hi:i<p
   ·have hp:=r k p ha
    rw[Fx hi]
    simp only[hi,decide_true,Bool.true_and]
    have:p=1\/p=2\/p=3:=by omega
    rcases this with rfl|rfl|rfl
    ·simp[h,FH];ac_rfl
    ·simp[h,FH];ac_rfl
    ·simp[h,FH];ac_rfl
   ·rw[FQ hi]
    simp only[hi,decide_false,Bool.false_and]
    simpa using h
theorem Bd.qQ (D:List Dc) (q:Nat->Bool):∀ k,Bd.ez D q k=0->Bd.sum D q k=0
 |0,_=>rfl
 |k+1,h=>by
  rw[Bd.ez] at h
  rw[Bd.sum,Bd.qQ D q k (by omega)]
  cases ha:Bd.arity D k with
  |none=>rfl
  |some p=>
   rw[ha] at h
   simp only at h ⊢
   split
   ·rename_i e;rw[Fx e] at h;omega
   ·rfl
theorem Bd.nH (D:List Dc) (q r t:Nat->Bool) (h:∀ p,(if t p=true then 1 else 0)=(if q p=true then 1 else 0)+(if r p=true then 1 else 0)):∀ k,Bd.ez D t k=Bd.ez D q k+Bd.ez D r k
 |0=>rfl
 |k+1=>by
  rw[Bd.ez,Bd.ez,Bd.ez,Bd.nH D q r t h k]
  cases ha:Bd.arity D k with
  |none=>simp only;omega
  |some p=>simp only;have:=h p;omega
theorem Bd.mK (D:List Dc) (q r t:Nat->Bool) (h:∀ p,t p=(q p||r p)/\(q p&&r p)=false):∀ k,Bd.sum D t k=Bd.sum D q k+Bd.sum D r k
 |0=>rfl
 |k+1=>by
  rw[Bd.sum,Bd.sum,Bd.sum,Bd.mK D q r t h k]
  cases ha:Bd.arity D k with
  |none=>simp only;omega
  |some p=>
   simp only
   obtain⟨I,J⟩:=h p
   rw[I]
   cases L:q p <;> cases O:r p <;> simp[L,O] at J ⊢ <;> omega
def Bd.je (D:List Dc) (i:Nat):Nat->Nat
 |0=>0
 |k+1=>Bd.je D i k+(match Bd.arity D k with
  |some p=>if p<=i then 20000^p else 0
  |none=>0)
def Bd.gb (D:List Dc) (i:Nat):Nat->Nat
 |0=>0
 |k+1=>Bd.gb D i k+(match Bd.arity D k with
  |some p=>if p<=i then 20000^p*Bd.body D i (k+1) k else 0
  |none=>0)
theorem Bd.tV (D:List Dc) (i K:Nat) {j p:Nat} (I:j<K) (ha:Bd.arity D j=some p):(Bd.cQ D i K).1*Bd.body D i (j+1) j<=Bd.size D j*(Bd.cQ D i K).2:=by
 obtain⟨d,hd,_,_⟩:=Bd.fk ha
 have r:=Bd.jF D i j (Bd.cQ D i K).1 (Bd.cQ D i K).2 (fun j' n h=>Bd.sa D i K j' n (by omega)) d.body
 rw[Bd.lH hd,Bd.size,hd]
 show _<=d.body.size*_
 omega
theorem Bd.tM (D:List Dc) (i K:Nat):∀ k,k<=K->(Bd.cQ D i K).1*Bd.gb D i k<=20000^i*(Bd.sum D (fun p=>decide (p<=i)) k*(Bd.cQ D i K).2)
 |0,_=>by rw[Bd.gb,Bd.sum];simp
 |k+1,I=>by
  have r:=Bd.tM D i K k (by omega)
  rw[Bd.gb,Bd.sum,G4,Hj,G4]
  refine IA r ?_
  cases ha:Bd.arity D k with
  |none=>simp
  |some p=>
   simp only
   by_cases hp:p<=i
   ·simp only[hp,decide_true,Hy]
    have h:=Bd.tV D i K (show k<K by omega) ha
    calc (Bd.cQ D i K).1*(20000^p*Bd.body D i (k+1) k)=20000^p*((Bd.cQ D i K).1*Bd.body D i (k+1) k):=by ac_rfl
     _<=20000^i*(Bd.size D k*(Bd.cQ D i K).2):=Ht (Gy (by decide) hp) h
   ·simp[hp]
theorem Bd.jm (D:List Dc) (i:Nat):∀ k,Bd.je D i k<=Bd.ez D (fun p=>decide (p<=i)) k*20000^i
 |0=>by rw[Bd.je,Bd.ez];simp
 |k+1=>by
  have h:=Bd.jm D i k
  rw[Bd.je,Bd.ez,Hj]
  refine IA h ?_
  cases ha:Bd.arity D k with
  |none=>simp
  |some p=>
   simp only
   by_cases hp:p<=i
   ·simp only[hp,decide_true,Hy,Hk]
    exact Gy (by decide) hp
   ·simp[hp]
end Go.Proofs.YtdbgiijdgedggaaGreatDoor
namespace Go.Proofs.YtdbgiijdgedggaaGreatDoor
theorem Bd.four {L:Nat} (h:16*(L+1)^L<=L^(L+1)):4*(L+1)^L<=L^(L+1):=Fo (FF _ (by decide)) h
theorem Bd.Prod.CS {L n s Y z:Nat} (h:Bd.Prod L n s Y) (r:16*(L+1)^L<=L^(L+1)):Bd.Prod L (n+1) (s+z) (Y*max z 4):=h.more (Bd.four r)
theorem Bd.Prod.pad {L n s Y:Nat} (h:Bd.Prod L n s Y) (r:4*(L+1)^L<=L^(L+1)):∀ d,Bd.Prod L (n+d) s (Y*4^d)
 |0=>by simpa using h
 |d+1=>by
  have:=(Bd.Prod.pad h r d).more (z:=0) r
  rw[FH,<-FJ]
  exact this
theorem Bd.pq (D:List Dc) (i K:Nat):∀ k,k<=K->(Bd.cQ D i K).1*Bd.dQ D i k<=Bd.sum D (fun p=>decide (p<=i)) k*(Bd.cQ D i K).2
 |0,_=>by rw[Bd.dQ,Bd.sum];simp
 |k+1,r=>by
  have h:=Bd.pq D i K k (by omega)
  rw[Bd.dQ,Bd.sum,G4,Hj]
  refine IA h ?_
  cases ha:Bd.arity D k with
  |none=>simp
  |some p=>
   simp only
   by_cases hp:p<=i
   ·rw[FQ (by omega)]
    simp only[hp,decide_true,Hy]
    exact Bd.tV D i K (show k<K by omega) ha
   ·rw[Fx (by omega)]
    simp
def Bd.of (D:List Dc) (p k:Nat):Nat:=Bd.ez D (fun q=>decide (q=p)) k
theorem Bd.bd (D:List Dc) (I:∀ j p,Bd.arity D j=some p->p<=3) (q:Nat->Bool):∀ k,Bd.ez D q k=
  (if q 0=true then Bd.of D 0 k else 0)+(if q 1=true then Bd.of D 1 k else 0)+(if q 2=true then Bd.of D 2 k else 0)+(if q 3=true then Bd.of D 3 k else 0)
 |0=>by simp[Bd.ez,Bd.of]
 |k+1=>by
  have r:=Bd.bd D I q k
  unfold Bd.of at r ⊢
  rw[Bd.ez,Bd.ez,Bd.ez,Bd.ez,Bd.ez,r]
  cases ha:Bd.arity D k with
  |none=>simp
  |some p=>
   have hp:=I k p ha
   have:p=0\/p=1\/p=2\/p=3:=by omega
   clear r ha hp
   generalize Bd.ez D (fun q=>decide (q=0)) k=a0
   generalize Bd.ez D (fun q=>decide (q=1)) k=J
   generalize Bd.ez D (fun q=>decide (q=2)) k=a2
   generalize Bd.ez D (fun q=>decide (q=3)) k=a3
   rcases this with rfl|rfl|rfl|rfl
   ·cases h:q 0 <;> simp[h];omega
   ·cases h:q 1 <;> simp[h];omega
   ·cases h:q 2 <;> simp[h];omega
   ·cases h:q 3 <;> simp[h];omega
theorem Bd.DZ:∀ h,h<=5->∀ r,r<=5->h+r<=5->243<=3^h*4^r*4^(5-(h+r)):=by decide
theorem Bd.DM:∀ r,r<=2->∀ I,I<=8->∀ h,h<=8->3<=h->r+I+h=8->6912<=2^r*3^I*4^h:=by decide
theorem Bd.DF:∀ r,r<=2->∀ I,I<=8->∀ h,h<=8->3<=h->r+I+h<=7->1024<=2^r*3^I*4^h*4^(7-(r+I+h)):=by decide
theorem Bd.rS (D:List Dc) (i:Nat) (x:Sx) (X:x.size<=600) (K:Nat):
  (Bd.cQ D i K).1*(Bd.gb D i K+(Bd.makes D i K x+Bd.dQ D i K))<=(Bd.cQ D i K).2*(599+(20000^i+1)*Bd.sum D (fun p=>decide (p<=i)) K):=by
 have h:=Bd.tM D i K K (Fm _)
 have r:=Bd.wX D i K x
 have I:=Bd.pq D i K K (Fm _)
 obtain⟨c,Q,J⟩:∃ c Q,Bd.cQ D i K=(c,Q):=⟨_,_,rfl⟩
 rw[J] at h r I ⊢
 simp only at h r I ⊢
 generalize Bd.sum D (fun p=>decide (p<=i)) K=z at*
 have L:(x.size-1)*Q<=599*Q:=FF _ (by omega)
 calc c*(Bd.gb D i K+(Bd.makes D i K x+Bd.dQ D i K))=c*Bd.gb D i K+(c*Bd.makes D i K x+c*Bd.dQ D i K):=by rw[G4,G4]
  _<=20000^i*(z*Q)+(599*Q+z*Q):=IA h (IA (Fo r L) I)
  _=Q*(599+(20000^i+1)*z):=by
   rw[G4,Hj,Hk,G4]
   have O:20000^i*(z*Q)=Q*(20000^i*z):=by ac_rfl
   have U:599*Q=Q*599:=FI _ _
   have V:z*Q=Q*z:=FI _ _
   omega
theorem Bd.down {c T g d B:Nat} (I:g<=c*d) (h:c*T*d<=B) (O:B<g*3000000000000+g*100000000000):T<=3100000000000:=by
 have J:g*T<=c*d*T:=FF _ I
 have L:c*d*T=c*T*d:=by ac_rfl
 have r:g*T<g*3100000000000:=by omega
 exact Nat.le_of_lt (Nat.lt_of_mul_lt_mul_left r)
theorem Bd.room (D:List Dc) (x:Sx) (K:Nat) (J:∀ j p,Bd.arity D j=some p->p<=3) (h8:Bd.ez D (fun _=>true) K<=8) (hz:Bd.sum D (fun _=>true) K<=600) (hx:x.size<=600):
  ∃ i,i<=2/\Bd.je D i K+(Bd.gb D i K+(Bd.makes D i K x+Bd.dQ D i K))<=3200000000000:=by
 suffices h:∃ i,i<=2/\Bd.gb D i K+(Bd.makes D i K x+Bd.dQ D i K)<=3100000000000 by
  obtain⟨i,hi,h⟩:=h
  refine⟨i,hi,?_⟩
  have h1:=Bd.jm D i K
  have h2:Bd.ez D (fun p=>decide (p<=i)) K<=8:=by
   have:=Bd.nH D (fun p=>decide (p<=i)) (fun p=>decide (i<p)) (fun _=>true) (fun p=>by by_cases e:p<=i <;> simp[e] <;> omega) K
   omega
  have h4:Bd.ez D (fun p=>decide (p<=i)) K*20000^i<=8*20000^2:=Ht h2 (Gy (by decide) hi)
  omega
 have ad:=Bd.bd D J (fun _=>true) K
 have O:∀ i,Bd.sum D (fun _=>true) K=Bd.sum D (fun p=>decide (p<=i)) K+Bd.sum D (fun p=>decide (i<p)) K:=fun i=>
  Bd.mK D (fun p=>decide (p<=i)) (fun p=>decide (i<p)) (fun _=>true) (fun p=>by by_cases e:p<=i <;> simp[e] <;> omega) K
 simp only[Hy] at ad
 obtain⟨b0,ah⟩:∃ b,Bd.of D 0 K=b:=⟨_,rfl⟩
 obtain⟨b1,ao⟩:∃ b,Bd.of D 1 K=b:=⟨_,rfl⟩
 obtain⟨b2,X⟩:∃ b,Bd.of D 2 K=b:=⟨_,rfl⟩
 obtain⟨V,U⟩:∃ b,Bd.of D 3 K=b:=⟨_,rfl⟩
 rw[ah,ao,X,U] at ad
 by_cases hA:3<=b1
 ·refine⟨1,by decide,?_⟩
  have I:=Bd.rS D 1 x hx K
  have hS:=O 1
  have hP:=Bd.kj D 1 121 J Bd.yQ K
  have r:=Bd.nT D 1 J K
  have hc:=Bd.bd D J (fun p=>decide (1<p)) K
  rw[Bd.bd D J (fun p=>decide (1<p)&&decide (p=1)) K,Bd.bd D J (fun p=>decide (1<p)&&decide (p=2)) K,Bd.bd D J (fun p=>decide (1<p)&&decide (p=3)) K] at r
  simp[X,U] at r hc
  generalize Bd.sum D (fun p=>decide (p<=1)) K=L at*
  generalize Bd.sum D (fun p=>decide (1<p)) K=zN at*
  generalize Bd.gb D 1 K+(Bd.makes D 1 K x+Bd.dQ D 1 K)=A at*
  rcases hP with⟨_,Q⟩|⟨_,Q,_,_⟩|⟨n,s,Y,e1,Q,e3,_,e5,e6⟩
  ·rw[Q] at I
   simp at I
   omega
  ·rw[Q] at I
   have:1*A<=(Bd.cQ D 1 K).1*A:=FF _ (by rw[r];exact Nat.mul_pos (Nat.pow_pos (by decide)) (Nat.pow_pos (by decide)))
   omega
  ·have h4:=Bd.four Bd.yQ
   have p1:=(e6.more (z:=L) h4).pad h4 (4-n)
   rw[show n+1+(4-n)=5 by omega] at p1
   have Z:=Bd.vc p1 (by omega)
   refine Bd.down (c:=(Bd.cQ D 1 K).1) (g:=243) (d:=4^(4-n)) (B:=20151*25937424601) ?_ ?_ (by decide)
   ·rw[r,show 4-n=5-(b2+V) by omega]
    exact Bd.DZ b2 (by omega) V (by omega) (by omega)
   ·have q1:599+(20000^1+1)*L<=20151*max L 4:=by omega
    calc (Bd.cQ D 1 K).1*A*4^(4-n)<=Y*(20151*max L 4)*4^(4-n):=FF _ (Fo I (Ht e3 q1))
     _=20151*(Y*max L 4*4^(4-n)):=by ac_rfl
     _<=_:=G5 _ Z
 by_cases hB:V<=2
 ·refine⟨2,by decide,?_⟩
  have I:=Bd.rS D 2 x hx K
  have hS:=O 2
  have hP:=Bd.kj D 2 301 J Bd.zd K
  have r:=Bd.nT D 2 J K
  have hc:=Bd.bd D J (fun p=>decide (2<p)) K
  rw[Bd.bd D J (fun p=>decide (2<p)&&decide (p=1)) K,Bd.bd D J (fun p=>decide (2<p)&&decide (p=2)) K,Bd.bd D J (fun p=>decide (2<p)&&decide (p=3)) K] at r
  simp[U] at r hc
  generalize Bd.sum D (fun p=>decide (p<=2)) K=L at*
  generalize Bd.sum D (fun p=>decide (2<p)) K=zN at*
  generalize Bd.gb D 2 K+(Bd.makes D 2 K x+Bd.dQ D 2 K)=A at*
  rcases hP with⟨_,Q⟩|⟨_,Q,_,_⟩|⟨n,s,Y,e1,Q,e3,_,e5,e6⟩
  ·rw[Q] at I
   simp at I
   omega
  ·rw[Q] at I
   have:1*A<=(Bd.cQ D 2 K).1*A:=FF _ (by rw[r];exact Nat.pow_pos (by decide))
   omega
  ·obtain rfl:n=1:=by omega
   obtain rfl:V=2:=by omega
   have Z:=Bd.vb (e6.CS (z:=L) Bd.zd) (by omega)
   refine Bd.down (c:=(Bd.cQ D 2 K).1) (g:=16) (d:=1) (B:=400000151*90601) ?_ ?_ (by decide)
   ·rw[r];decide
   ·have q1:599+(20000^2+1)*L<=400000151*max L 4:=by omega
    rw[Hp]
    calc (Bd.cQ D 2 K).1*A<=Y*(400000151*max L 4):=Fo I (Ht e3 q1)
     _=400000151*(Y*max L 4):=by ac_rfl
     _<=_:=G5 _ Z
 ·refine⟨0,by decide,?_⟩
  have I:=Bd.rS D 0 x hx K
  have hS:=O 0
  have hP:=Bd.kj D 0 86 J Bd.BQ K
  have r:=Bd.nT D 0 J K
  have hc:=Bd.bd D J (fun p=>decide (0<p)) K
  have hF:=Bd.bd D J (fun p=>decide (p<=0)) K
  have av:=Bd.qQ D (fun p=>decide (p<=0)) K
  rw[Bd.bd D J (fun p=>decide (0<p)&&decide (p=1)) K,Bd.bd D J (fun p=>decide (0<p)&&decide (p=2)) K,Bd.bd D J (fun p=>decide (0<p)&&decide (p=3)) K] at r
  generalize Bd.ez D (fun p=>decide (p<=0)) K=cF at*
  generalize Bd.ez D (fun p=>decide (0<p)) K=cN at*
  simp[ah,ao,X,U] at r hc hF
  generalize Bd.sum D (fun p=>decide (p<=0)) K=L at*
  generalize Bd.sum D (fun p=>decide (0<p)) K=zN at*
  generalize Bd.gb D 0 K+(Bd.makes D 0 K x+Bd.dQ D 0 K)=A at*
  rcases hP with⟨e1,_⟩|⟨e1,_⟩|⟨n,s,Y,e1,Q,e3,_,e5,e6⟩
  ·omega
  ·omega
  ·have h4:=Bd.four Bd.BQ
   by_cases h7:n=7
   ·subst h7
    have a1:L=0:=av (by omega)
    subst a1
    have Z:=Bd.za e6 (by omega)
    refine Bd.down (c:=(Bd.cQ D 0 K).1) (g:=6912) (d:=1) (B:=599*34792782221696) ?_ ?_ (by decide)
    ·rw[r,Hp]
     exact Bd.DM b1 (by omega) b2 (by omega) V (by omega) (by omega) (by omega)
    ·rw[Hp]
     calc (Bd.cQ D 0 K).1*A<=Y*599:=Fo I (Ht e3 (by omega))
      _=599*Y:=FI _ _
      _<=_:=G5 _ Z
   ·have p1:=e6.pad h4 (6-n)
    rw[show n+(6-n)=6 by omega] at p1
    have Z:=Bd.xI p1 (by omega)
    refine Bd.down (c:=(Bd.cQ D 0 K).1) (g:=1024) (d:=4^(6-n)) (B:=1799*1100000000000) ?_ ?_ (by decide)
    ·rw[r,show 6-n=7-(b1+b2+V) by omega]
     exact Bd.DF b1 (by omega) b2 (by omega) V (by omega) (by omega) (by omega)
    ·have q1:599+(20000^0+1)*L<=1799:=by omega
     calc (Bd.cQ D 0 K).1*A*4^(6-n)<=Y*1799*4^(6-n):=FF _ (Fo I (Ht e3 q1))
      _=1799*(Y*4^(6-n)):=by ac_rfl
      _<=_:=G5 _ Z
theorem Bd.pS:∀ (n:Nat) (l:List Nat),l.Nodup->(∀ x∈l,x<n)->l.length<=n
 |0,l,_,h=>by
  cases l with
  |nil=>exact Fm _
  |cons x l=>exact absurd (h x Gc) (Gv _)
 |n+1,l,hd,h=>by
  have r:=Bd.pS n (l.erase n) (hd.erase n) fun x I=>by
   have:=hd.mem_erase_iff.1 I
   have:=h x this.2
   omega
  rw[List.length_erase] at r
  split at r <;> omega
def Bd.code:List Int->Nat
 |[]=>0
 |a::l=>a.toNat+20000*Bd.code l
theorem Bd.sM:∀ l:List Int,(∀ a∈l,0<=a/\a<20000)->Bd.code l<20000^l.length
 |[],_=>by decide
 |a::l,h=>by
  have r:=Bd.sM l fun b hb=>h b (Gd _ hb)
  have I:=h a Gc
  rw[Bd.code,FG,FH]
  omega
theorem Bd.qP:∀ l m:List Int,l.length=m.length->(∀ a∈l,0<=a/\a<20000)->(∀ a∈m,0<=a/\a<20000)->Bd.code l=Bd.code m->l=m
 |[],[],_,_,_,_=>rfl
 |[],_::_,h,_,_,_=>by cases h
 |_::_,[],h,_,_,_=>by cases h
 |a::l,b::m,h,I,J,e=>by
  rw[Bd.code,Bd.code] at e
  have ha:=I a Gc
  have hb:=J b Gc
  have L:a=b:=by omega
  have O:Bd.code l=Bd.code m:=by omega
  rw[L,Bd.qP l m (by simpa using h) (fun x r=>I x (Gd _ r)) (fun x r=>J x (Gd _ r)) O]
structure Bd.ck (D:List Dc) (K:Nat) (m:List (Nat×List Int×Int)):Prop where
 fn:∀ q∈m,q.1<K/\Bd.arity D q.1=some q.2.1.length
 num:∀ q∈m,∀ a∈q.2.1,0<=a/\a<20000
 once:(m.map fun q=>(q.1,q.2.1)).Nodup
theorem Bd.ck.nil (D:List Dc) (K:Nat):Bd.ck D K []:=⟨fun _ h=>(FD h).elim,fun _ h=>(FD h).elim,List.nodup_nil⟩
theorem Bd.ck.add {D:List Dc} {K:Nat} {m:List (Nat×List Int×Int)} (h:Bd.ck D K m) {j:Nat} {A:List Int} {id:Int} (L:j<K) (ha:Bd.arity D j=some A.length) (hA:∀ a∈A,0<=a/\a<20000)
  (hn:∀ q∈m,¬(q.1=j/\q.2.1=A)):Bd.ck D K (m++[(j,A,id)]):=by
 refine⟨fun q r=>?_,fun q r=>?_,?_⟩
 ·rcases F7.1 r with r|r
  ·exact h.fn q r
  ·obtain rfl:=F0.1 r;exact⟨L,ha⟩
 ·rcases F7.1 r with r|r
  ·exact h.num q r
  ·obtain rfl:=F0.1 r;exact hA
 ·rw[Hf,List.nodup_append]
  refine⟨h.once,by simp,fun a ha b hb e=>?_⟩
  obtain⟨q,r,rfl⟩:=Hh.1 ha
  rw[GK,GL,F0] at hb
  rw[hb] at e
  injection e with I J
  exact hn q r ⟨I,J⟩
def Bd.over (i:Nat) (g:Nat->Nat):List (Nat×List Int×Int)->Nat
 |[]=>0
 |q::m=>(if i<q.2.1.length then 0 else g q.1)+Bd.over i g m
def Bd.most (D:List Dc) (i:Nat) (g:Nat->Nat):Nat->Nat
 |0=>0
 |k+1=>Bd.most D i g k+(match Bd.arity D k with
  |some p=>if p<=i then 20000^p*g k else 0
  |none=>0)
theorem Bd.kM (i:Nat) (g:Nat->Nat) (k:Nat):∀ m:List (Nat×List Int×Int),Bd.over i g m=Bd.over i g (m.filter fun q=>decide (q.1≠k))+Bd.over i g (m.filter fun q=>decide (q.1=k))
 |[]=>rfl
 |q::m=>by
  rw[Bd.over,Bd.kM i g k m]
  by_cases e:q.1=k
  ·rw[IC (by simp[e]),ID (by simp[e]),Bd.over];omega
  ·rw[ID (by simp[e]),IC (by simp[e]),Bd.over];omega
theorem Bd.mT (i:Nat) (g:Nat->Nat) (k p:Nat):∀ m:List (Nat×List Int×Int),(∀ q∈m,q.1=k/\q.2.1.length=p)->Bd.over i g m=if p<=i then m.length*g k else 0
 |[],_=>by simp[Bd.over]
 |q::m,h=>by
  obtain⟨I,J⟩:=h q Gc
  rw[Bd.over,Bd.mT i g k p m fun r L=>h r (Gd _ L),I,J]
  by_cases e:p<=i
  ·rw[FQ (by omega),Fx e,Fx e,FG,Hj];omega
  ·rw[Fx (by omega),FQ e,FQ e]
theorem Bd.ck.filter {D:List Dc} {K:Nat} {m:List (Nat×List Int×Int)} (h:Bd.ck D K m) (f:Nat×List Int×Int->Bool):Bd.ck D K (m.filter f):=
 ⟨fun q r=>h.fn q (Io.1 r).1,fun q r=>h.num q (Io.1 r).1,h.once.sublist (List.filter_sublist.map _)⟩
theorem Bd.ck.over {D:List Dc} (i:Nat) (g:Nat->Nat):∀ (K:Nat) (m:List (Nat×List Int×Int)),Bd.ck D K m->Bd.over i g m<=Bd.most D i g K
 |0,m,h=>by
  cases m with
  |nil=>exact Fm _
  |cons q m=>exact absurd (h.fn q Gc).1 (Gv _)
 |k+1,m,h=>by
  rw[Bd.kM i g k m,Bd.most]
  have hA:=h.filter fun q=>decide (q.1≠k)
  have I:=h.filter fun q=>decide (q.1=k)
  refine IA (Bd.ck.over i g k _ ⟨fun q r=>⟨?_,(hA.fn q r).2⟩,hA.num,hA.once⟩) ?_
  ·have L:=(hA.fn q r).1
   have U:q.1≠k:=by simpa using (Io.1 r).2
   omega
  ·generalize hm:m.filter (fun q=>decide (q.1=k))=m' at I
   have J:∀ q∈m',q.1=k:=fun q r=>by rw[<-hm] at r;simpa using (Io.1 r).2
   cases ha:Bd.arity D k with
   |none=>
    cases m' with
    |nil=>exact Fm _
    |cons q m'=>
     have:=(I.fn q Gc).2
     rw[J q Gc,ha] at this
     cases this
   |some p=>
    simp only
    have hl:∀ q∈m',q.1=k/\q.2.1.length=p:=fun q r=>by
     have:=(I.fn q r).2
     rw[J q r,ha] at this
     exact⟨J q r,by injection this with e;exact e.symm⟩
    rw[Bd.mT i g k p m' hl]
    split
    ·refine FF _ ?_
     have hn:(m'.map fun q=>Bd.code q.2.1).Nodup:=by
      have L:=I.once
      rw[List.nodup_iff_pairwise_ne,List.pairwise_map] at L ⊢
      refine L.imp_of_mem fun {a b} ha hb O e=>O ?_
      rw[J a ha,J b hb,Bd.qP a.2.1 b.2.1 (by rw[(hl a ha).2,(hl b hb).2]) (I.num a ha) (I.num b hb) e]
     have:=Bd.pS (20000^p) _ hn fun x Q=>by
      obtain⟨q,r,rfl⟩:=Hh.1 Q
      rw[<-(hl q r).2]
      exact Bd.sM _ (I.num q r)
     simpa using this
    ·exact Fm _
theorem Bd.jL (D:List Dc) (i:Nat):∀ K,Bd.most D i (fun _=>1) K=Bd.je D i K
 |0=>rfl
 |k+1=>by
  rw[Bd.most,Bd.je,Bd.jL D i k]
  cases Bd.arity D k with
  |none=>rfl
  |some p=>simp
theorem Bd.mr (D:List Dc) (i:Nat):∀ K,Bd.most D i (fun j=>Bd.body D i (j+1) j) K=Bd.gb D i K
 |0=>rfl
 |k+1=>by
  rw[Bd.most,Bd.gb,Bd.mr D i k] <;> cases Bd.arity D k <;> rfl
theorem Bd.nw (D:List Dc) (i:Nat):∀ m,Bd.over i (fun j=>Bd.body D i (j+1) j) m=Bd.paid D i m
 |[]=>rfl
 |q::m=>by rw[Bd.over,Bd.paid,Bd.nw D i m]
theorem Bd.lN (i:Nat):∀ m:List (Nat×List Int×Int),m.length=Bd.kept i m+Bd.over i (fun _=>1) m
 |[]=>rfl
 |q::m=>by
  rw[FG,Bd.lN i m,Bd.over]
  unfold Bd.kept
  by_cases e:i<q.2.1.length
  ·rw[ID (by simpa using e),FG,Fx e];omega
  ·rw[IC (by simpa using e),FQ e];omega
theorem Bd.ck.room {D:List Dc} {K i S:Nat} {m:List (Nat×List Int×Int)} {k rest more:Nat} (h:Bd.ck D K m) (hf:Bd.Fits D i S m more k rest):m.length<=Bd.je D i K+(Bd.gb D i K+S):=by
 have r:=Bd.ck.over i (fun _=>1) K m h
 have I:=Bd.ck.over i (fun j=>Bd.body D i (j+1) j) K m h
 rw[Bd.jL] at r
 rw[Bd.mr,Bd.nw] at I
 unfold Bd.Fits at hf
 have:=Bd.lN i m
 omega
end Go.Proofs.YtdbgiijdgedggaaGreatDoor
namespace Go.Proofs.YtdbgiijdgedggaaGreatDoor
theorem Lx.pP (p:UInt8->Bool):∀ l:List UInt8,(l.dropWhile p).length<=l.length
 |[]=>Fm _
 |c::l=>by
  rw[List.dropWhile_cons]
  split
  ·exact Iy (Lx.pP p l)
  ·exact Fm _
theorem Lx.zX (c:UInt8) (t:List UInt8) (h:(Lx.one (c::t)).2.2.1=0):(Lx.one (c::t)).2.2.2.length<=t.length:=by
 have hd:=Lx.pP Lx.name t
 have Q:=Lx.oG c t
 unfold Lx.one at h ⊢
 dsimp only at h ⊢
 split <;> rename_i U
 ·exact Fm _
 rw[FQ U] at h
 split <;> rename_i V
 ·exact Fm _
 rw[FQ V] at h
 split <;> rename_i O
 ·rw[Fx O] at h
  split <;> rename_i r
  ·rw[Fx r] at h
   split <;> rename_i I
   ·exact Q
   ·rw[FQ I] at h
    split <;> rename_i J
    ·rw[Fx J] at h;cases h
    ·exact Q
  ·rw[FQ r] at h
   split at h <;> cases h
 rw[FQ O] at h
 split <;> rename_i r
 ·rw[Fx r] at h
  split <;> rename_i I
  ·rw[Fx I] at h;cases h
  ·exact hd
 rw[FQ r] at h
 split <;> rename_i I
 ·exact hd
 rw[FQ I] at h
 split <;> rename_i J
 ·rw[Fx J] at h
  split <;> rename_i L
  ·rw[Fx L] at h;cases h
  ·exact hd
 rw[FQ J] at h
 split <;> rename_i L
 ·rw[Fx L] at h
  split <;> rename_i X
  ·exact hd
  ·rw[FQ X] at h;cases h
 rw[FQ L] at h
 cases h
section
variable {k : Nat} {l t : List UInt8} {c : UInt8}
theorem Lx.lex_nil (k:Nat) (h:Lx.skip false l=[]):Lx.lex k l=([],0,[]):=by
 unfold Lx.lex
 rw[h]
theorem Lx.ob (k:Nat) (h:Lx.skip false l=c::t) (r:Lx.good c=false):Lx.lex k l=([],50,c::t):=by
 unfold Lx.lex
 rw[h]
 simp[r]
theorem Lx.wR (h:Lx.skip false l=c::t) (r:Lx.good c=true):Lx.lex 0 l=([],2,c::t):=by
 unfold Lx.lex
 rw[h]
 simp[r]
theorem Lx.oU (k:Nat) (h:Lx.skip false l=c::t) (r:Lx.good c=true) (he:(Lx.one (c::t)).2.2.1≠0):Lx.lex (k+1) l=([],(Lx.one (c::t)).2.2.1,(Lx.one (c::t)).2.2.2):=by
 rw[Lx.lex,h]
 simp[r,he]
theorem Lx.rV (k:Nat) (h:Lx.skip false l=c::t) (r:Lx.good c=true) (he:(Lx.one (c::t)).2.2.1=0):
  Lx.lex (k+1) l=(((Lx.one (c::t)).1,(Lx.one (c::t)).2.1,(c::t).length)::(Lx.lex k (Lx.one (c::t)).2.2.2).1,(Lx.lex k (Lx.one (c::t)).2.2.2).2):=by
 rw[Lx.lex,h]
 simp[r,he]
end
theorem Lx.gu:∀ (n k k':Nat) (l:List UInt8),l.length<=n->n<=k->n<=k'->Lx.lex k l=Lx.lex k' l
 |n,k,k',l,hn,J,I=>by
  cases h:Lx.skip false l with
  |nil=>rw[Lx.lex_nil k h,Lx.lex_nil k' h]
  |cons c t=>
   have hlen:=Lx.px l false
   rw[h,FG] at hlen
   cases r:Lx.good c with
   |false=>rw[Lx.ob k h r,Lx.ob k' h r]
   |true=>
    match n,k,k' with
    |0,_,_=>omega
    |n+1,k+1,k'+1=>
     by_cases he:(Lx.one (c::t)).2.2.1=0
     ·have L:=Lx.zX c t he
      rw[Lx.rV k h r he,Lx.rV k' h r he,Lx.gu n k k' (Lx.one (c::t)).2.2.2 (by omega) (by omega) (by omega)]
     ·rw[Lx.oU k h r he,Lx.oU k' h r he]
end Go.Proofs.YtdbgiijdgedggaaGreatDoor
