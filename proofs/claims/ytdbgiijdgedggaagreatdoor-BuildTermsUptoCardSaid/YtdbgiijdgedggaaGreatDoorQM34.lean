import Derived.Test.YtdbgiijdgedggaaGreatDoorQM33
import Derived.Test.YtdbgiijdgedggaaGreatDoorRows
import Derived.Deep.Slices
import Derived.Deep.Fields
import Derived.ChangeSame
import Derived.WideShapes
set_option linter.unusedSimpArgs false
set_option linter.unusedVariables false
set_option maxRecDepth 100000
set_option maxHeartbeats 25600000
namespace Go.Proofs.YtdbgiijdgedggaaGreatDoor
def Sx.atom (t:aG):Sx:=⟨false,t.1,t.2.1,t.2.2,t.2.2,[]⟩
def Sx.node (a:Int) (L:List Sx):Sx:=⟨true,0,ByteArray.empty,0,a,L⟩
mutual
def Sx.deep:Sx->Nat
 |⟨list,_,_,_,_,L⟩=>if list then Sx.bf L+1 else 0
def Sx.bf:List Sx->Nat
 |[]=>0
 |x::l=>max (Sx.deep x) (Sx.bf l)
end
theorem Sx.uN {x:Sx} (h:x.list=true):x.deep=Sx.bf x.L+1:=by
 cases x
 subst h
 rw[Sx.deep,if_pos rfl]
theorem Sx.vf {x:Sx} (h:x.list=false):x.deep=0:=by
 cases x
 subst h
 rw[Sx.deep,if_neg (by decide)]
def cJ:Nat->Nat->List aG->Option (Nat×Nat)
 |_,_,[]=>none
 |n,most,t::l=>
  let n':=if t.1=1 then n+1 else if t.1=2 then n-1 else n
  if n'=0 then some (1,max most n') else(cJ n' (max most n') l).map fun x=>(x.1+1,x.2)
inductive Reads:List aG->List Sx->Prop
 |nil:Reads [] []
 |atom (t:aG) (l:List aG) (L:List Sx):t.1≠1->t.1≠2->Reads l L->Reads (t::l) (Sx.atom t::L)
 |list (o c:aG) (m l:List aG) (M L:List Sx):o.1=1->c.1=2->Reads m M->Reads l L->Reads (o::(m++c::l)) (Sx.node o.2.2 M::L)
theorem fm {n most:Nat} {t:aG} (l:List aG) (h:t.1=1):cJ n most (t::l)=(cJ (n+1) (max most (n+1)) l).map fun x=>(x.1+1,x.2):=by
 rw[cJ]
 simp only[h,if_true]
 rw[if_neg (by omega)]
theorem mS {most:Nat} {t:aG} (l:List aG) (h:t.1=2):cJ 1 most (t::l)=some (1,most):=by
 rw[cJ]
 simp[h]
theorem iV {n most:Nat} {t:aG} (l:List aG) (h:t.1=2) (hm:n+1<=most):cJ (n+2) most (t::l)=(cJ (n+1) most l).map fun x=>(x.1+1,x.2):=by
 rw[cJ]
 have e:(if t.1=1 then n+2+1 else if t.1=2 then n+2-1 else n+2)=n+1:=by rw[if_neg (by omega),if_pos h];omega
 simp only[e]
 rw[if_neg (by omega),Nat.max_eq_left hm]
theorem jV {n most:Nat} {t:aG} (l:List aG) (h:t.1≠1) (r:t.1≠2) (hm:n+1<=most):cJ (n+1) most (t::l)=(cJ (n+1) most l).map fun x=>(x.1+1,x.2):=by
 rw[cJ]
 simp only[h,r,if_false]
 rw[if_neg (by omega),Nat.max_eq_left hm]
theorem dz (o:Option (Nat×Nat)) (a b:Nat):(o.map fun x=>(x.1+a,x.2)).map (fun x=>(x.1+b,x.2))=o.map fun x=>(x.1+(a+b),x.2):=by
 cases o
 ·rfl
 ·simp[Nat.add_assoc]
theorem Reads.pass {m:List aG} {M:List Sx} (h:Reads m M):∀ (n most:Nat) (r:List aG),n+1<=most->cJ (n+1) most (m++r)=(cJ (n+1) (max most (n+1+Sx.bf M)) r).map fun x=>(x.1+m.length,x.2):=by
 induction h with
 |nil=>
  intro n most r hm
  rw[Sx.bf,Nat.add_zero,Nat.max_eq_left hm]
  cases h:cJ (n+1) most r <;> simp[h]
 |atom t l L I J _ O=>
  intro n most r hm
  rw[List.cons_append,jV _ I J hm,O n most r hm,dz,Sx.bf,Sx.vf (x:=Sx.atom t) rfl,List.length_cons,Nat.zero_max]
 |list o c m l M L I J _ _ i1 i2=>
  intro n most r hm
  rw[List.cons_append,List.append_assoc,List.cons_append,fm _ I,i1 (n+1) _ _ (by omega),iV _ J (by omega),i2 n _ r (by omega),dz,dz,dz]
  rw[Sx.bf,Sx.uN (x:=Sx.node o.2.2 M) rfl]
  show Option.map _ (cJ (n+1) (max (max (max most (n+1+1)) (n+1+1+Sx.bf M)) (n+1+Sx.bf L)) r)=Option.map _ (cJ (n+1) (max most (n+1+max (Sx.bf M+1) (Sx.bf L))) r)
  rw[show max (max (max most (n+1+1)) (n+1+1+Sx.bf M)) (n+1+Sx.bf L)=max most (n+1+max (Sx.bf M+1) (Sx.bf L)) by omega]
  congr 1
  funext x
  rw[List.length_cons,List.length_append,List.length_cons]
  congr 1
  omega
theorem Reads.closing {m:List aG} {M:List Sx} (h:Reads m M) {o c:aG} (I:o.1=1) (hc:c.1=2) (r:List aG):cJ 0 0 (o::(m++c::r))=some (m.length+2,Sx.bf M+1):=by
 rw[fm _ I,h.pass 0 _ _ (by omega),mS _ hc]
 simp
 omega
theorem ve:∀ (k:Nat) (l:List aG) (n most:Nat),l.length<=k->n+1<=most->cJ (n+1) most l≠none->∃ m M c r,l=m++c::r/\c.1=2/\Reads m M:=by
 intro k
 induction k with
 |zero=>
  intro l n most hl _ h
  obtain rfl:l=[]:=List.eq_nil_of_length_eq_zero (by omega)
  exact absurd rfl h
 |succ k V=>
  intro l n most hl hm h
  cases l with
  |nil=>exact absurd rfl h
  |cons t l=>
   rw[List.length_cons] at hl
   by_cases O:t.1=2
   ·exact⟨[],[],t,l,rfl,O,.nil⟩
   ·by_cases I:t.1=1
    ·rw[fm _ I] at h
     have L:cJ (n+1+1) (max most (n+1+1)) l≠none:=fun e=>h (by rw[e];rfl)
     obtain⟨m,M,c,r,rfl,hc,J⟩:=V l (n+1) _ (by omega) (by omega) L
     rw[J.pass _ _ _ (by omega),iV _ hc (by omega)] at L
     rw[List.length_append,List.length_cons] at hl
     obtain⟨m',X,Z,r',rfl,Q,U⟩:=V r n _ (by omega) (show n+1<=max (max most (n+1+1)) (n+1+1+Sx.bf M) by omega) (fun e=>L (by rw[e];rfl))
     exact⟨t::(m++c::m'),_,Z,r',by simp,Q,.list t c m m' M X I hc J U⟩
    ·rw[jV _ I O hm] at h
     obtain⟨m,M,c,r,rfl,hc,J⟩:=V l n most (by omega) hm (fun e=>h (by rw[e];rfl))
     exact⟨t::m,_,c,r,rfl,hc,.atom t m M I O J⟩
theorem rO {o:aG} {l:List aG} {s d:Nat} (J:o.1=1) (h:cJ 0 0 (o::l)=some (s,d)):∃ m M c r,l=m++c::r/\c.1=2/\Reads m M/\s=m.length+2/\d=Sx.bf M+1:=by
 have I:=h
 rw[fm _ J] at I
 obtain⟨m,M,c,r,rfl,hc,L⟩:=ve l.length l 0 1 (Nat.le_refl _) (by omega) (fun e=>by rw[show max 0 (0+1)=1 from rfl,e] at I;cases I)
 rw[L.closing J hc r] at h
 injection h with h
 injection h with O Q
 exact⟨m,M,c,r,rfl,hc,L,O.symm,Q.symm⟩
theorem Reads.split {m m':List aG} {M O:List Sx} (h:Reads m M) (V:Reads m' O) {c I:aG} {l l':List aG} (hc:c.1=2) (L:I.1=2) (e:m++c::l=m'++I::l'):m=m'/\c=I/\l=l':=by
 have r:=h.closing (o:=(1,ByteArray.empty,0)) rfl hc l
 have X:=V.closing (o:=(1,ByteArray.empty,0)) rfl L l'
 rw[e,X] at r
 injection r with r
 injection r with r _
 obtain⟨Q,J⟩:=List.append_inj e (by omega)
 injection J with J U
 exact⟨Q,J,U⟩
theorem Reads.inv {t:aG} {l:List aG} {M:List Sx} (h:Reads (t::l) M):(t.1≠1/\t.1≠2/\∃ L,M=Sx.atom t::L/\Reads l L)\/(t.1=1/\∃ c m r l' L,l=m++c::l'/\c.1=2/\Reads m r/\M=Sx.node t.2.2 r::L/\Reads l' L):=by
 cases h with
 |atom _ _ L I J O=>exact .inl ⟨I,J,L,rfl,O⟩
 |list _ c m l' r L I J O Q=>exact .inr ⟨I,c,m,r,l',L,rfl,J,O,rfl,Q⟩
theorem Reads.uniq {m:List aG} {M:List Sx} (h:Reads m M):∀ r,Reads m r->M=r:=by
 induction h with
 |nil=>intro r I;cases I;rfl
 |atom t l L Q h2 _ ih=>
  intro r I
  rcases I.inv with⟨_,_,O,rfl,V⟩|⟨U,_⟩
  ·rw[ih O V]
  ·exact absurd U Q
 |list o c m l M L Q h2 U _ i1 i2=>
  intro r I
  rcases I.inv with⟨V,_⟩|⟨_,c',m',N,l',O,e,X,J,rfl,Z⟩
  ·exact absurd Q V
  ·obtain⟨rfl,rfl,rfl⟩:=U.split J h2 X e
   rw[i1 N J,i2 O Z]
inductive aN (z:Int):List aG->List bZ->Prop
 |nil:aN z [] []
 |close (t:aG) (l:List aG) (I:List bZ):t.1=2->aN z l I->aN z (t::l) (⟨Sx.zero,60,t.2.2⟩::I)
 |atom (t:aG) (l:List aG) (I:List bZ):t.1≠1->t.1≠2->aN z l I->aN z (t::l) (⟨Sx.atom t,0,t.2.2⟩::I)
 |ends (t:aG) (l:List aG):t.1=1->cJ 0 0 (t::l)=none->aN z (t::l) [⟨Sx.zero,51,z⟩]
 |deep (o c:aG) (m l:List aG) (M:List Sx) (I:List bZ):o.1=1->c.1=2->Reads m M->64<Sx.bf M+1->aN z l I->aN z (o::(m++c::l)) (⟨Sx.zero,2,o.2.2⟩::I)
 |list (o c:aG) (m l:List aG) (M:List Sx) (I:List bZ):o.1=1->c.1=2->Reads m M->¬64<Sx.bf M+1->aN z l I->aN z (o::(m++c::l)) (⟨Sx.node o.2.2 M,0,o.2.2⟩::I)
theorem aN.inv {z:Int} {t:aG} {l:List aG} {I:List bZ} (h:aN z (t::l) I):
  (t.1=2/\∃ J,I=⟨Sx.zero,60,t.2.2⟩::J/\aN z l J)\/(t.1≠1/\t.1≠2/\∃ J,I=⟨Sx.atom t,0,t.2.2⟩::J/\aN z l J)\/(t.1=1/\cJ 0 0 (t::l)=none/\I=[⟨Sx.zero,51,z⟩])\/
  (t.1=1/\∃ c m l' M J,l=m++c::l'/\c.1=2/\Reads m M/\aN z l' J/\I=(if 64<Sx.bf M+1 then⟨Sx.zero,2,t.2.2⟩ else⟨Sx.node t.2.2 M,0,t.2.2⟩)::J):=by
 cases h with
 |close _ _ J r L=>exact .inl ⟨r,J,rfl,L⟩
 |atom _ _ J r L O=>exact .inr (.inl ⟨r,L,J,rfl,O⟩)
 |ends _ _ r L=>exact .inr (.inr (.inl ⟨r,L,rfl⟩))
 |deep _ c m l' M J r L O Q U=>exact .inr (.inr (.inr ⟨r,c,m,l',M,J,rfl,L,O,U,by rw[if_pos Q]⟩))
 |list _ c m l' M J r L O Q U=>exact .inr (.inr (.inr ⟨r,c,m,l',M,J,rfl,L,O,U,by rw[if_neg Q]⟩))
theorem aN.uniq {z:Int}:∀ (k:Nat) (l:List aG) (I J:List bZ),l.length<=k->aN z l I->aN z l J->I=J:=by
 intro k
 induction k with
 |zero=>
  intro l I J hl h L
  obtain rfl:l=[]:=List.eq_nil_of_length_eq_zero (by omega)
  cases h
  cases L
  rfl
 |succ k ih=>
  intro l I J hl h L
  cases l with
  |nil=>
   cases h
   cases L
   rfl
  |cons t l=>
   rw[List.length_cons] at hl
   rcases h.inv with⟨r,U,rfl,Q⟩|⟨r,Q,U,rfl,Z⟩|⟨r,Q,rfl⟩|⟨r,c,m,l',M,U,rfl,hc,V,Z,rfl⟩
   ·rcases L.inv with⟨_,O,rfl,g2⟩|⟨g1,g2,_⟩|⟨g1,_⟩|⟨g1,_⟩
    ·rw[ih l U O (by omega) Q g2]
    ·exact absurd r g2
    ·exact absurd (g1.symm.trans r) (by decide)
    ·exact absurd (g1.symm.trans r) (by decide)
   ·rcases L.inv with⟨g1,_⟩|⟨_,_,O,rfl,g3⟩|⟨g1,_⟩|⟨g1,_⟩
    ·exact absurd g1 Q
    ·rw[ih l U O (by omega) Z g3]
    ·exact absurd g1 r
    ·exact absurd g1 r
   ·rcases L.inv with⟨g1,_⟩|⟨g1,_⟩|⟨_,_,rfl⟩|⟨_,c,m,l',M,O,rfl,hc,V,_⟩
    ·exact absurd (r.symm.trans g1) (by decide)
    ·exact absurd r g1
    ·rfl
    ·rw[V.closing r hc l'] at Q
     cases Q
   ·rcases L.inv with⟨g1,_⟩|⟨g1,_⟩|⟨_,g2,_⟩|⟨_,c',m',ah,M',O,e,ad,X,g3,rfl⟩
    ·exact absurd (r.symm.trans g1) (by decide)
    ·exact absurd r g1
    ·rw[V.closing r hc l'] at g2
     cases g2
    ·obtain⟨rfl,rfl,rfl⟩:=V.split X hc ad e
     rw[V.uniq M' X]
     rw[List.length_append,List.length_cons] at hl
     rw[ih l' U O (by omega) Z g3]
end Go.Proofs.YtdbgiijdgedggaaGreatDoor
namespace Go.Proofs.YtdbgiijdgedggaaGreatDoor
section
variable {all : Nat} {H : Nat -> Nat} {t : aG} {l : List aG} {i used : Nat}
end
end Go.Proofs.YtdbgiijdgedggaaGreatDoor
namespace Go.Proofs.YtdbgiijdgedggaaGreatDoor
mutual
def Sx.wide:Sx->Nat
 |⟨_,_,T,_,_,L⟩=>max T.size (Sx.gH L)
def Sx.gH:List Sx->Nat
 |[]=>0
 |x::l=>max (Sx.wide x) (Sx.gH l)
end
theorem Sx.oD (x:Sx):x.wide=max x.T.size (Sx.gH x.L):=by cases x;rw[Sx.wide]
theorem Sx.wD {l:List Sx} {x:Sx} (h:x∈l):x.wide<=Sx.gH l:=by
 induction l with
 |nil=>cases h
 |cons y l r=>
  rw[Sx.gH]
  rcases List.mem_cons.1 h with rfl|h
  ·omega
  ·have:=r h
   omega
end Go.Proofs.YtdbgiijdgedggaaGreatDoor
namespace Go.Proofs.YtdbgiijdgedggaaGreatDoor
open Go.RowKit Go.ChangeShapes Go.WideShapes Go.Deep
theorem sP {H:Type} {d:DataW H} {l:List (DataW H)} (h:d∈l):Rows.uptoBulk d<=Rows.uptoBulkAll l:=by
 induction l with
 |nil=>cases h
 |cons x r I=>
  simp only[Rows.uptoBulkAll]
  cases FE.1 h with
  |inl e=>subst e;omega
  |inr e=>have:=I e;omega
theorem tP {H:Type} {enc:TypeId×Value->H} {W:World}:∀ (N fuel:Nat) (cs:List Value) (y:DataW H×List MemPlace),fuel<=N->DataW.trod enc Tryz.prog W 0 (fun _=>true) true fuel 27 cs=some y->
  ∃ x A c,cs=gm x A c/\aJ W iM x A c/\x.size<=Rows.uptoBulk y.1/\x.wide<=Rows.uptoBulk y.1:=by
 intro N
 induction N with
 |zero=>
  intro fuel cs y hN h
  obtain⟨_,_,e,_⟩:=DataW.trod_struct Tryz.underlying27 h
  omega
 |succ N ih=>
  intro fuel cs y hN h
  obtain⟨xs,n,bP,hy,hlen,bC,hf⟩:=DataW.trod_struct Tryz.underlying27 h
  rw[show Tryz.prog.cellsOf 27=6 by kernel_rfl] at hlen
  match xs,bC,cs,hlen with
  |[y0,y1,y2,y3],_,[v0,v1,v2,v3,v4,v5],_=>
   have e0:DataW.trod enc Tryz.prog W 0 (fun _=>true) true n 4 [v0]=some y0:=hf 0 _ rfl
   have e1:DataW.trod enc Tryz.prog W 0 (fun _=>true) true n 24 [v1,v2,v3]=some y1:=hf 1 _ rfl
   have e2:DataW.trod enc Tryz.prog W 0 (fun _=>true) true n 3 [v4]=some y2:=hf 2 _ rfl
   have e3:DataW.trod enc Tryz.prog W 0 (fun _=>true) true n 25 [v5]=some y3:=hf 3 _ rfl
   obtain⟨b0,Q,bn⟩:=DataW.trod_bool Tryz.underlying4 e0
   obtain⟨z4,ad,bo,_⟩:=DataW.trod_int Tryz.underlying3 e2
   obtain⟨ts,k,_,bl,_,bB,I⟩:=DataW.trod_struct Tryz.underlying24 e1
   match ts,bB with
   |[t0,t1,t2],_=>
    have f0:DataW.trod enc Tryz.prog W 0 (fun _=>true) true k 3 [v1]=some t0:=I 0 _ rfl
    have f1:DataW.trod enc Tryz.prog W 0 (fun _=>true) true k 9 [v2]=some t1:=I 1 _ rfl
    have f2:DataW.trod enc Tryz.prog W 0 (fun _=>true) true k 3 [v3]=some t2:=I 2 _ rfl
    obtain⟨z1,X,a7,_⟩:=DataW.trod_int Tryz.underlying3 f0
    obtain⟨T,hT,ba,_⟩:=DataW.trod_string Tryz.underlying9 f1
    obtain⟨z3,Z,bb,_⟩:=DataW.trod_int Tryz.underlying3 f2
    injection Q with Q
    injection ad with ad
    injection X with X
    injection hT with hT
    injection Z with Z
    subst Q ad X hT Z
    clear e0 e1 e2 f0 f1 f2 hf I
    have bE:T.size=T.data.toList.length:=by rw[Fv];rfl
    rcases DataW.trod_slice Tryz.underlying25 e3 with⟨hcs,h3⟩|⟨a,len,cap,elems,rest,n2,b1,hcs,h3,_,hl,hm,bL,hi,_,_⟩
    ·injection hcs with hcs
     subst hcs
     refine⟨⟨b0,z1,T,z3,z4,[]⟩,none,0,rfl,⟨⟨Fm _,Fz _⟩,.nil _⟩,?_,?_⟩
     ·rw[hy,Sx.size_eq]
      simp only[Sx.sizes,Rows.uptoBulk]
      omega
     ·rw[hy,Sx.oD]
      simp only[Sx.gH,Rows.uptoBulk,Rows.uptoBulkAll,GK,GL,bl,a7,ba,bb,bn,bo,h3]
      omega
    ·injection hcs with hcs
     subst hcs
     have each:∀ i,i<len->∃ q cs',elems[i]?=some q/\W.cells? 0 (a.add (i*6)) 6=some cs'/\∃ x A c,cs'=gm x A c/\aJ W iM x A c/\x.size<=Rows.uptoBulk q.1/\x.wide<=Rows.uptoBulk q.1:=by
      intro i bp
      have U:=hi i bp
      rw[show Tryz.prog.cellsOf 27=6 by kernel_rfl] at U
      obtain⟨q,hq⟩:∃ q,elems[i]?=some q:=⟨_,Ge (by omega)⟩
      rw[hq] at U
      obtain⟨cs',h1,h2⟩:=Option.bind_eq_some_iff.1 U
      exact⟨q,cs',hq,h1,ih n2 cs' q (by omega) h2⟩
     have row:∃ L:List Sx,L.length=len/\au W iM (some a) L/\Sx.sizes L<=Rows.uptoBulkAll (elems.map (·.1))/\Sx.gH L<=Rows.uptoBulkAll (elems.map (·.1)):=by
      cases len with
      |zero=>exact⟨[],rfl,.nil _,by simp[Sx.sizes],by simp[Sx.gH]⟩
      |succ len=>
       obtain⟨_,bD,_,av,x0,A0,c0,rfl,_⟩:=each 0 (by omega)
       obtain⟨_,_,r⟩:=World.cells?_some av
       have J:=r 0 (by omega)
       obtain⟨b,off,spot⟩:=a
       have V:spot=none:=by simpa [Addr.add] using World.cell?_spot J
       subst V
       clear r J av
       have go:∀ m i,i+m=len+1->∃ L:List Sx,L.length=m/\au W iM (some ⟨b,off+i*6,none⟩) L/\Sx.sizes L<=Rows.uptoBulkAll ((elems.drop i).map (·.1))/\Sx.gH L<=Rows.uptoBulkAll ((elems.drop i).map (·.1)):=by
        intro m
        induction m with
        |zero=>intro i _;exact⟨[],rfl,.nil _,by simp[Sx.sizes],by simp[Sx.gH]⟩
        |succ m im=>
         intro i bT
         obtain⟨L,hL,O,hs,hw⟩:=im (i+1) (by omega)
         obtain⟨q,cs',hq,hc,x,A,c,rfl,ao,b2,b3⟩:=each i (by omega)
         obtain⟨bz,bx⟩:=Fg.1 hq
         have a1:elems.drop i=q::elems.drop (i+1):=by rw[<-bx];exact FC bz
         obtain⟨_,_,hcell⟩:=World.cells?_some hc
         have g0:=hcell 0 (by omega)
         have g1:=hcell 1 (by omega)
         have g2:=hcell 2 (by omega)
         have g3:=hcell 3 (by omega)
         have g4:=hcell 4 (by omega)
         have g5:=hcell 5 (by omega)
         rw[addr_add,addr_add] at g0 g1 g2 g3 g4 g5
         simp only[Ho] at g0
         have hb:b<W.heap.size:=by
          have:=IE W _ g0
          simpa using this
         refine⟨x::L,by rw[FG,hL],.cons b (off+i*6) x L A c ⟨hb,g0,g1,g2,g3,g4,g5⟩ trivial ao.le ao.tree ?_,?_,?_⟩
         ·rw[show off+i*6+6=off+(i+1)*6 by omega]
          exact O
         ·rw[a1,Sx.sizes,GK,Rows.uptoBulkAll]
          omega
         ·rw[a1,Sx.gH,GK,Rows.uptoBulkAll]
          omega
       obtain⟨L,h1,h2,h3,h4⟩:=go (len+1) 0 (by omega)
       refine⟨L,h1,?_,by simpa using h3,by simpa using h4⟩
       rw[Hx,Ho] at h2
       exact h2
     obtain⟨L,ah,O,hs,hw⟩:=row
     refine⟨⟨b0,z1,T,z3,z4,L⟩,some a,cap,by rw[gm,<-ah],⟨⟨by rw[ah];exact hl,hm⟩,O⟩,?_,?_⟩
     ·rw[hy,Sx.size_eq]
      simp only[Rows.uptoBulk,Rows.uptoBulkAll,GK,GL,h3]
      omega
     ·rw[hy,Sx.oD]
      simp only[Rows.uptoBulk,Rows.uptoBulkAll,GK,GL,bl,a7,ba,bb,bn,bo,h3]
      omega
theorem vo {H:Type} {enc:TypeId×Value->H} {W:World} {base:Nat} {v:Value} {d:DataW H} {p:List MemPlace} (hv:Value.okWide Tryz.prog W .any base 27 v) (h:DataW.Trod enc Tryz.prog W 0 (fun _=>true) true 27 v d p):
  ∃ x A c,v=aX x A c/\aJ W iM x A c/\x.size<=Rows.uptoBulk d/\x.wide<=Rows.uptoBulk d:=by
 obtain⟨cs,rfl,_⟩:=okWide_struct Tryz.underlying27 hv
 obtain⟨fuel,hf⟩:=h
 obtain⟨x,A,c,e,I,J,L⟩:=tP fuel fuel _ _ (Fm _) hf
 refine⟨x,A,c,?_,I,J,L⟩
 have r:cs.toList=gm x A c:=e
 rw[show cs=(gm x A c).toArray from by rw[<-r]]
theorem nj (T:ByteArray):T.size=T.data.toList.length:=by rw[Fv];rfl
theorem p8 {H:Type} {enc:TypeId×Value->H} {W:World} {fuel:Nat} {cs:List Value} {y:DataW H×List MemPlace} (h:DataW.trod enc Tryz.prog W 0 (fun _=>true) true fuel 111 cs=some y):
  ∃ p:ByteArray×Int,cs=[.string p.1,.int .i64 p.2]/\p.1.size<=Rows.uptoBulk y.1:=by
 obtain⟨xs,k,_,hy,hlen,r,hf⟩:=DataW.trod_struct Tryz.underlying111 h
 rw[show Tryz.prog.cellsOf 111=2 by kernel_rfl] at hlen
 match xs,r,cs,hlen with
 |[O,Q],_,[v0,v1],_=>
  have J:DataW.trod enc Tryz.prog W 0 (fun _=>true) true k 9 [v0]=some O:=hf 0 _ rfl
  have L:DataW.trod enc Tryz.prog W 0 (fun _=>true) true k 3 [v1]=some Q:=hf 1 _ rfl
  obtain⟨s,hs,I,_⟩:=DataW.trod_string Tryz.underlying9 J
  obtain⟨z,hz,_⟩:=DataW.trod_int Tryz.underlying3 L
  injection hs with hs
  injection hz with hz
  subst hs hz
  refine⟨(s,z),rfl,?_⟩
  have:=nj s
  rw[hy]
  simp only[Rows.uptoBulk,Rows.uptoBulkAll,GK,GL,I]
  omega
theorem qS {H:Type} {enc:TypeId×Value->H} {W:World} {fuel:Nat} {v:Value} {y:DataW H×List MemPlace} (h:DataW.trod enc Tryz.prog W 0 (fun _=>true) true fuel 54 [v]=some y):
  ∃ A c l,v=.slice A l.length c/\nU W (fun _=>True) A l/\∀ p∈l,p.1.size<=Rows.uptoBulk y.1:=by
 rcases DataW.trod_slice Tryz.underlying54 h with⟨hcs,_⟩|⟨a,len,cap,elems,rest,n2,ah,hcs,h3,_,hl,hm,ad,hi,_,_⟩
 ·injection hcs with hcs
  subst hcs
  exact⟨none,0,[],rfl,⟨fun hn=>absurd hn (by decide)⟩,fun _ hp=>(FD hp).elim⟩
 ·injection hcs with hcs
  subst hcs
  have each:∀ i,i<len->∃ p:ByteArray×Int,W.cell? (a.add (i*2))=some (.string p.1)/\W.cell? ((a.add (i*2)).add 1)=some (.int .i64 p.2)/\p.1.size<=Rows.uptoBulk y.1:=fun i U=>by
   have r:=hi i U
   rw[show Tryz.prog.cellsOf 111=2 by kernel_rfl] at r
   obtain⟨q,J⟩:∃ q,elems[i]?=some q:=⟨_,Ge (by omega)⟩
   rw[J] at r
   obtain⟨cs',h1,h2⟩:=Option.bind_eq_some_iff.1 r
   obtain⟨p,rfl,hp⟩:=p8 h2
   obtain⟨_,_,hcell⟩:=World.cells?_some h1
   have g0:=hcell 0 (by omega)
   have g1:=hcell 1 (by omega)
   refine⟨p,by simpa [Addr.add] using g0,by simpa using g1,Fo hp ?_⟩
   rw[h3]
   simp only[Rows.uptoBulk]
   have:=sP (Ir (f:=(·.1)) (FP J))
   omega
  haveI:Inhabited (ByteArray×Int):=⟨(ByteArray.empty,0)⟩
  obtain⟨q,J⟩:=choose_lt each
  refine⟨some a,cap,(List.range len).map q,by simp,⟨fun hn=>?_⟩,fun p hp=>?_⟩
  ·have V:0<len:=by simpa using hn
   have L:=(J 0 V).1
   obtain⟨b,off,spot⟩:=a
   have I:spot=none:=by simpa [Addr.add] using World.cell?_spot L
   subst I
   have hb:b<W.heap.size:=by
    have:=IE W _ L
    simpa [Addr.add] using this
   refine⟨b,off,rfl,trivial,hb,fun i o ho=>?_⟩
   obtain⟨O,rfl⟩:=nD ho
   obtain⟨X,Z,_⟩:=J i O
   rw[addr_add] at X
   rw[addr_add,addr_add] at Z
   exact⟨X,Z⟩
  ·obtain⟨i,Q,rfl⟩:=Hh.1 hp
   exact(J i (Gu.1 Q)).2.2
structure zm (B:Nat) (d:Dc):Prop where
 name:d.name.size<=B
 par:∀ p∈d.par,p.1.size<=B
 size:d.body.size<=B
 wide:d.body.wide<=B
theorem rh {H:Type} {enc:TypeId×Value->H} {W:World} {fuel:Nat} {cs:List Value} {y:DataW H×List MemPlace} (h:DataW.trod enc Tryz.prog W 0 (fun _=>true) true fuel 56 cs=some y):
  ∃ (P:iZ) (d:Dc),cs=fN P d/\sj W (fun _=>True) P d/\zm (Rows.uptoBulk y.1) d:=by
 obtain⟨xs,k,_,hy,hlen,J,hf⟩:=DataW.trod_struct Tryz.underlying56 h
 rw[show Tryz.prog.cellsOf 56=10 by kernel_rfl] at hlen
 match xs,J,cs,hlen with
 |[O,Q,U,V,X],_,[v0,v1,v2,v3,v4,v5,v6,v7,v8,v9],_=>
  have e0:DataW.trod enc Tryz.prog W 0 (fun _=>true) true k 9 [v0]=some O:=hf 0 _ rfl
  have e1:DataW.trod enc Tryz.prog W 0 (fun _=>true) true k 3 [v1]=some Q:=hf 1 _ rfl
  have e2:DataW.trod enc Tryz.prog W 0 (fun _=>true) true k 4 [v2]=some U:=hf 2 _ rfl
  have e3:DataW.trod enc Tryz.prog W 0 (fun _=>true) true k 54 [v3]=some V:=hf 3 _ rfl
  have e4:DataW.trod enc Tryz.prog W 0 (fun _=>true) true k 27 [v4,v5,v6,v7,v8,v9]=some X:=hf 4 _ rfl
  obtain⟨s,hs,L,_⟩:=DataW.trod_string Tryz.underlying9 e0
  obtain⟨z,hz,_⟩:=DataW.trod_int Tryz.underlying3 e1
  obtain⟨b,hb,_⟩:=DataW.trod_bool Tryz.underlying4 e2
  obtain⟨A,c,l,hA,hl,I⟩:=qS e3
  obtain⟨x,B,d,r,hT,ao,av⟩:=tP k k _ _ (Fm _) e4
  injection hs with hs
  injection hz with hz
  injection hb with hb
  subst hs hz hb hA
  injection r with b0 r
  injection r with Z r
  injection r with b2 r
  injection r with b3 r
  injection r with b4 r
  injection r with b5 _
  subst b0 Z b2 b3 b4 b5
  have ah:Rows.uptoBulk y.1=Rows.uptoBulk O.1+(Rows.uptoBulk Q.1+(Rows.uptoBulk U.1+(Rows.uptoBulk V.1+(Rows.uptoBulk X.1+0))))+1:=by
   rw[hy]
   simp only[Rows.uptoBulk,Rows.uptoBulkAll,GK,GL]
  have a1:=nj s
  have ad:Rows.uptoBulk O.1=s.data.toList.length+1:=by rw[L];rfl
  exact⟨⟨A,c,B,d⟩,⟨s,z,b,l,x⟩,rfl,⟨hl,⟨hT.le,hT.tree.mono fun _ _ _ _=>trivial⟩⟩,⟨by simp only;omega,fun p hp=>by have:=I p hp;omega,by simp only;omega,by simp only;omega⟩⟩
theorem sH {H:Type} {enc:TypeId×Value->H} {W:World} {fuel:Nat} {v:Value} {y:DataW H×List MemPlace} (h:DataW.trod enc Tryz.prog W 0 (fun _=>true) true fuel 22 [v]=some y):
  ∃ A n c L,v=.slice A n c/\rX W (fun _=>True) A n c L/\n<=c/\c<=maxLen/\n<=Rows.uptoBulk y.1/\∀ q∈L,zm (Rows.uptoBulk y.1) q.2:=by
 rcases DataW.trod_slice Tryz.underlying22 h with⟨hcs,_⟩|⟨a,len,cap,elems,rest,n2,ah,hcs,Z,_,hl,hm,ad,hi,_,_⟩
 ·injection hcs with hcs
  subst hcs
  exact⟨none,0,0,[],rfl,⟨rfl,fun _=>⟨rfl,rfl⟩,fun hn=>absurd hn (by decide)⟩,Fm _,Fz _,Fz _,fun _ hp=>(FD hp).elim⟩
 ·injection hcs with hcs
  subst hcs
  have each:∀ i,i<len->∃ q:iZ×Dc,(∀ j u,(fN q.1 q.2)[j]?=some u->W.cell? ((a.add (i*10)).add j)=some u)/\sj W (fun _=>True) q.1 q.2/\zm (Rows.uptoBulk y.1) q.2:=fun i X=>by
   have r:=hi i X
   rw[show Tryz.prog.cellsOf 56=10 by kernel_rfl] at r
   obtain⟨q,I⟩:∃ q,elems[i]?=some q:=⟨_,Ge (by omega)⟩
   rw[I] at r
   obtain⟨cs',h1,h2⟩:=Option.bind_eq_some_iff.1 r
   obtain⟨P,d,rfl,hd,hb⟩:=rh h2
   obtain⟨_,_,hcell⟩:=World.cells?_some h1
   have hle:Rows.uptoBulk q.1<=Rows.uptoBulk y.1:=by
    rw[Z]
    simp only[Rows.uptoBulk]
    have:=sP (Ir (f:=(·.1)) (FP I))
    omega
   refine⟨(P,d),fun j u hu=>?_,hd,⟨Fo hb.name hle,fun p hp=>Fo (hb.par p hp) hle,Fo hb.size hle,Fo hb.wide hle⟩⟩
   have hj:j<10:=(Fg.1 hu).1
   rw[hcell j hj]
   exact hu
  haveI:Inhabited (iZ×Dc):=⟨(⟨none,0,none,0⟩,⟨ByteArray.empty,0,false,[],Sx.zero⟩)⟩
  obtain⟨q,I⟩:=choose_lt each
  refine⟨some a,len,cap,(List.range len).map q,rfl,⟨by simp,(fun e=>by cases e),fun hn=>?_⟩,hl,hm,?_,fun p hp=>?_⟩
  ·have O:=(I 0 hn).1 0 _ rfl
   obtain⟨b,off,spot⟩:=a
   have J:spot=none:=by simpa [Addr.add] using World.cell?_spot O
   subst J
   have hb:b<W.heap.size:=by
    have:=IE W _ O
    simpa [Addr.add] using this
   refine⟨b,off,rfl,trivial,hb,fun i o ho=>?_⟩
   obtain⟨Q,rfl⟩:=nD ho
   refine⟨fun j u hu=>?_,(I i Q).2.1⟩
   have:=(I i Q).1 j u hu
   rw[addr_add,addr_add] at this
   exact this
  ·have V:∀ l:List (DataW H),l.length<=Rows.uptoBulkAll l:=fun l=>by
    induction l with
    |nil=>exact Fm _
    |cons d l ih=>
     have:1<=Rows.uptoBulk d:=by
      cases d with
      |lit x=>cases x <;> simp[Rows.uptoBulk]
      |_=>simp[Rows.uptoBulk]
     rw[Rows.uptoBulkAll,FG]
     omega
   have:=V (elems.map (·.1))
   rw[Fi] at this
   rw[Z]
   simp only[Rows.uptoBulk]
   omega
  ·obtain⟨i,U,rfl⟩:=Hh.1 hp
   exact(I i (Gu.1 U)).2.2
end Go.Proofs.YtdbgiijdgedggaaGreatDoor
namespace Go.Proofs.YtdbgiijdgedggaaGreatDoor
open Go.RowKit
def Bd.sizes (D:List Dc):Nat:=(D.map (·.body.size)).sum
def Bd.l9 (D:List Dc):Nat:=(D.filter (·.cL)).length
structure Bd.uJ (D:List Dc) (x:Sx):Prop where
 n:D.length<=60
 size:x.size<=600
 dep:Sx.dep 65 x<=64
 par:∀ d∈D,d.par.length<=3
 EX:∀ d∈D,Sx.dep 65 d.body<=64
 sizes:Bd.sizes D<=600
 l9:Bd.l9 D<=8
def tG (D:List Dc) (x:Sx) (e:Ending):Prop:=∃ b,e=.returned (.bool b)/\(b=true->Bd.uJ D x)
theorem Bd.fS {D:List Dc} {i:Nat} {d:Dc} (h:D[i]?=some d):Bd.sizes (D.take (i+1))=Bd.sizes (D.take i)+d.body.size:=by
 unfold Bd.sizes
 rw[take_one h,Hf,List.sum_append]
 simp
theorem Bd.nf {D:List Dc} {i:Nat} {d:Dc} (h:D[i]?=some d):Bd.l9 (D.take (i+1))=Bd.l9 (D.take i)+if d.cL=true then 1 else 0:=by
 unfold Bd.l9
 rw[take_one h,List.filter_append,Gb]
 cases hm:d.cL <;> simp[hm]
theorem CO (w:World) (A:Option Addr) (n c:Nat) (L:List (iZ×Dc)) (x:Sx) (xA:Option Addr) (xc:Nat) {G:Nat->Prop} (h:rX w G A n c L) (hx:aJ w iM x xA xc) (hn:n<=1000000000) (cP:x.size<=1000000000) (hL:∀ q∈L,q.2.body.size<=1000000000):
  Calls Tryz.prog 12 #[.slice A n c,aX x xA xc] w fun e w'=>tG (L.map (·.2)) x e/\Below w.heap.size w w':=by
 obtain⟨W0,bp⟩:∃ W0,w.alloc (dr x xA xc)=W0:=⟨_,rfl⟩
 have bb:Below w.heap.size w W0:=by rw[<-bp];exact(Gp _ w).alloc (Fm _) _
 have cz:mh W0 w.heap.size 0 x xA xc:=by rw[<-bp];exact eN w x xA xc
 have ad:=Gn (Bu x.size x xA xc W0 (Fm _) cP (hx.kept bb))
 have Z:=Gn fun W (hW:Below W0.heap.size W0 W)=>wE x xA xc W ((hx.kept bb).kept hW)
 have V:Hid (∀ W,Below W0.heap.size W0 W->mh W w.heap.size 0 x xA xc/\Below w.heap.size w W):=fun W hW=>⟨cz.below hW,bb.trans (hW.mono bb.size)⟩
 have HC:Hid (∀ i,i<n->∃ b off P d,A=some ⟨b,off,none⟩/\(L.map (·.2))[i]?=some d/\aJ w iM d.body P.B P.d/\d.body.size<=1000000000/\∀ W,Below w.heap.size w W->b<W.heap.size/\∀ j u,(fN P d)[j]?=some u->W.cell? ⟨b,off+i*10+j,none⟩=some u):=fun i hi=>by
  obtain⟨b,off,P,d,e,_,c7,hD,cE,hc⟩:=h.get hi
  exact⟨b,off,P,d,e,hD,⟨cE.body.le,cE.body.tree.mono fun _ _ _ _=>trivial⟩,hL _ (FP c7),fun W hW=>hc W (ae.af hW)⟩
 have I:Hid ((L.map (·.2)).length=n):=by show _=_;rw[Fi,h.len]
 obtain⟨D,hD⟩:∃ D,L.map (·.2)=D:=⟨_,rfl⟩
 rw[hD] at HC I ⊢
 obtain⟨X,hX⟩:∃ X,x.size=X:=⟨_,rfl⟩
 obtain⟨dx,b1⟩:∃ dx,Sx.dep 65 x=dx:=⟨_,rfl⟩
 have HX:=Gn (Ig hX b1)
 rw[hX] at ad
 rw[b1] at Z
 obtain⟨_,a0,a1,a2,a3,a4,a5⟩:=cz
 simp only[FA] at a0 a1 a2 a3 a4 a5
 obtain⟨xn,bz⟩:∃ xn,x.L.length=xn:=⟨_,rfl⟩
 unfold aX at ad Z ⊢
 rw[bz] at ad Z a5 ⊢
 have bC:w.alloc (.cells #[.bool x.list,.int .i64 x.k,.string x.T,.int .i64 x.ta,.int .i64 x.at_,.slice xA xn xc] 27)=W0:=by rw[<-bp,<-bz]
 have bP:=Gn bz
 clear h hx cP hL hD hX b1 bp bz bb
 by_cases cv:60<n
 ·have d1:decide ((60:Int)<(n:Int))=true:=FW (by omega)
  have O:=Gn (V.out W0 (Gp _ _)).2
  clear ad Z HC I HX cv
  go_enter Tryz.func12,Tryz.ntmps12
  go_wp2
  go_ret
  exact⟨⟨false,rfl,fun e=>by cases e⟩,O.out⟩
 have d1:decide ((60:Int)<(n:Int))=false:=Gq (by omega)
 have HN:Hid (n<=60):=by show n<=60;omega
 clear cv hn
 go_enter Tryz.func12,Tryz.ntmps12
 go_wp2_with fail
 refine ad.out.mono ?_
 rintro e w2 ⟨⟨z,rfl,z1,z2,z3⟩,b2⟩
 by_cases hz:600<z
 ·have d2:decide ((600:Int)<(z:Int))=true:=FW (by omega)
  have O:=Gn (V.out w2 b2).2
  obtain⟨_,c0,c1,c2,c3,c4,c5⟩:=(V.out w2 b2).1
  simp only[FA] at c0 c1 c2 c3 c4 c5
  rw[bP.out] at c5
  clear ad Z HC I HX z1 z2 z3 b2 hz V a0 a1 a2 a3 a4 a5 bC
  go_wp2
  go_ret
  exact⟨⟨false,rfl,fun e=>by cases e⟩,O.out⟩
 have d2:decide ((600:Int)<(z:Int))=false:=Gq (by omega)
 have HZ:Hid (X<=600):=by show X<=600;omega
 obtain⟨_,c0,c1,c2,c3,c4,c5⟩:=(V.out w2 b2).1
 simp only[FA] at c0 c1 c2 c3 c4 c5
 rw[bP.out] at c5
 have ch:=Gn (Z.out w2 b2)
 have bL:=Gn b2
 clear ad Z z1 z2 z3 b2 hz a0 a1 a2 a3 a4 a5 bC
 go_wp2_with fail
 refine ch.out.mono ?_
 rintro e w3 ⟨rfl,b3⟩
 have cc:=Gn (V.out w3 (bL.out.trans (b3.mono bL.out.size))).2
 clear ch b3 c0 c1 c2 c3 c4 c5 bL V bP
 by_cases cx:64<dx
 ·have d3:decide ((64:Int)<(dx:Int))=true:=FW (by omega)
  clear HC I HX cx
  go_wp2
  go_ret
  exact⟨⟨false,rfl,fun e=>by cases e⟩,cc.out⟩
 have d3:decide ((64:Int)<(dx:Int))=false:=Gq (by omega)
 have cY:Hid (dx<=64):=by show dx<=64;omega
 clear cx
 go_wp2
 go_loopw [5,6,7] (fun zv fv iv wr=>∃ i z f:Nat,i<=n/\z<=600/\f<=8/\iv=.int .i64 (i:Nat)/\zv=.int .i64 (z:Nat)/\fv=.int .i64 (f:Nat)/\Hid (Below w.heap.size w wr/\z=Bd.sizes (D.take i)/\f=Bd.l9 (D.take i)/\∀ (j:Nat) d,j<i->D[j]?=some d->d.par.length<=3/\Sx.dep 65 d.body<=64)) (fun _ _ iv _=>n-(intOf iv).toNat)
 case atStart=>exact⟨0,0,0,Fz _,Fz _,Fz _,rfl,rfl,rfl,cc.out,rfl,rfl,fun _ _ h=>absurd h (Gv _)⟩
 case round=>
  obtain⟨i,z,f,hi,hz,hf,rfl,rfl,rfl,HI⟩:=hrel
  by_cases dS:i<n
  ·obtain⟨b,off,P,d,rfl,hd,hT,hs,hc⟩:=HC.out i dS
   obtain⟨cy,c8⟩:=hc wr HI.out.1
   have U:Hid (∀ W,Below wr.heap.size wr W->Below w.heap.size w W/\b<W.heap.size/\W.cell? ⟨b,off+i*10+2,none⟩=some (.bool d.cL)/\W.cell? ⟨b,off+i*10+3,none⟩=some (.slice P.A d.par.length P.c)/\W.cell? ⟨b,off+i*10+4,none⟩=some (.bool d.body.list)/\W.cell? ⟨b,off+i*10+5,none⟩=some (.int .i64 d.body.k)/\W.cell? ⟨b,off+i*10+6,none⟩=some (.string d.body.T)/\W.cell? ⟨b,off+i*10+7,none⟩=some (.int .i64 d.body.ta)/\W.cell? ⟨b,off+i*10+8,none⟩=some (.int .i64 d.body.at_)/\W.cell? ⟨b,off+i*10+9,none⟩=some (.slice P.B d.body.L.length P.d)):=fun W hW=>by
    have hw:=HI.out.1.trans (hW.mono HI.out.1.size)
    obtain⟨q1,q2⟩:=hc W hw
    exact⟨hw,q1,q2 2 _ rfl,q2 3 _ rfl,q2 4 _ rfl,q2 5 _ rfl,q2 6 _ rfl,q2 7 _ rfl,q2 8 _ rfl,q2 9 _ rfl⟩
   have ba:=Gn (Bu d.body.size d.body P.B P.d wr (Fm _) hs (hT.kept HI.out.1))
   have a7:=Gn fun W (hW:Below wr.heap.size wr W)=>wE d.body P.B P.d W (hT.kept (U.out W hW).1)
   obtain⟨sd,bx⟩:∃ sd,d.body.size=sd:=⟨_,rfl⟩
   obtain⟨dd,bT⟩:∃ dd,Sx.dep 65 d.body=dd:=⟨_,rfl⟩
   obtain⟨pn,b7⟩:∃ pn,d.par.length=pn:=⟨_,rfl⟩
   obtain⟨cL,bn⟩:∃ cL,d.cL=cL:=⟨_,rfl⟩
   obtain⟨xl,cb⟩:∃ xl,d.body.list=xl:=⟨_,rfl⟩
   obtain⟨xk,ca⟩:∃ xk,d.body.k=xk:=⟨_,rfl⟩
   obtain⟨xT,b8⟩:∃ xT,d.body.T=xT:=⟨_,rfl⟩
   obtain⟨cX,bo⟩:∃ cX,d.body.ta=cX:=⟨_,rfl⟩
   obtain⟨xa,b9⟩:∃ xa,d.body.at_=xa:=⟨_,rfl⟩
   obtain⟨ln,b6⟩:∃ ln,d.body.L.length=ln:=⟨_,rfl⟩
   have r:Hid (pn<=3->dd<=64->∀ (W:World) (z' f':Nat),Below w.heap.size w W->z'=z+sd->f'=f+(if cL=true then 1 else 0)->Below w.heap.size w W/\z'=Bd.sizes (D.take (i+1))/\f'=Bd.l9 (D.take (i+1))/\∀ (j:Nat) d,j<i+1->D[j]?=some d->d.par.length<=3/\Sx.dep 65 d.body<=64):=fun p1 p2 W z' f' hW e1 e2=>by
    obtain⟨_,g1,g2,g3⟩:=HI.out
    refine⟨hW,by rw[Bd.fS hd,<-g1,bx,e1],by rw[Bd.nf hd,<-g2,bn,e2],fun j d' hj bl=>?_⟩
    rcases GX j i with e|e
    ·exact g3 j d' e bl
    ·obtain rfl:j=i:=by omega
     rw[hd] at bl
     injection bl with bl
     rw[<-bl,b7,bT]
     exact⟨p1,p2⟩
   unfold aX at ba a7
   rw[cb,ca,b8,bo,b9,b6] at ba a7
   rw[bx] at ba
   rw[bT] at a7
   rw[bn,b7,cb,ca,b8,bo,b9,b6] at U
   obtain⟨_,_,k2,k3,k4,k5,k6,k7,k8,k9⟩:=U.out wr (Gp _ _)
   have cN:(i:Int)<(n:Int):=by omega
   have ev:(0:Int)<=(i:Int):=by omega
   rw[bx] at hs
   clear hd hT hc c8 bx bT b7 bn cb ca b8 bo b9 b6 HI HC
   go_wp2_with fail
   refine ba.out.mono ?_
   rintro e w4 ⟨⟨v,rfl,v1,v2,v3⟩,b4⟩
   obtain⟨q0,q1,q2,q3,q4,q5,q6,q7,q8,q9⟩:=U.out w4 b4
   have cf:=Gn b4
   have J:=Gn (a7.out w4 b4)
   have HV:Hid (v<=600->v=sd):=fun e=>by omega
   have eD:v<=2000000000:=by
    by_cases e:v<=5000
    ·omega
    ·omega
   clear ba a7 b4 v1 v2 v3 hs k2 k3 k4 k5 k6 k7 k8 k9 cy
   obtain⟨zz,cR⟩:∃ zz,z+v=zz:=⟨_,rfl⟩
   have ea:(z:Int)+(v:Int)=(zz:Int):=by omega
   have eO:IntKind.i64.wrap ((z:Int)+(v:Int))=(zz:Int):=by rw[ea];exact GR _ (by omega)
   obtain⟨ff,cF⟩:∃ ff,f+1=ff:=⟨_,rfl⟩
   have dO:(f:Int)+1=(ff:Int):=by omega
   have er:IntKind.i64.wrap ((f:Int)+1)=(ff:Int):=by rw[dO];exact GR _ (by omega)
   have eA:IntKind.i64.wrap ((i:Int)+1)=(i:Int)+1:=GR _ (by have:=HN.out;omega)
   have ah:=Gn (Ig cR cF)
   have bB:=(U.out w4 cf.out).1
   have ao:=Gn bB
   clear cR cF bB
   by_cases p1:3<pn
   ·have e1:decide ((3:Int)<(pn:Int))=true:=FW (by omega)
    clear J r p1 HV ah U
    cases cL
    all_goals
     go_wp2
     go_ret
     exact⟨⟨false,rfl,fun e=>by cases e⟩,ao.out⟩
   have e1:decide ((3:Int)<(pn:Int))=false:=Gq (by omega)
   have cj:Hid (pn<=3):=by show pn<=3;omega
   have av:Hid (∀ w5,Below w4.heap.size w4 w5->Below w.heap.size w w5):=fun w5 Q=>ao.out.trans (Q.mono ao.out.size)
   clear p1 U cf
   by_cases p2:64<dd
   ·have e2:decide ((64:Int)<(dd:Int))=true:=FW (by omega)
    clear r p2 HV ah
    cases cL
    all_goals
     go_wp2_with fail
     refine J.out.mono ?_
     rintro e w5 ⟨rfl,Q⟩
     have O:=Gn (av.out w5 Q)
     clear J Q
     go_wp2
     go_ret
     exact⟨⟨false,rfl,fun e=>by cases e⟩,O.out⟩
   have e2:decide ((64:Int)<(dd:Int))=false:=Gq (by omega)
   have cl:Hid (dd<=64):=by show dd<=64;omega
   clear p2
   by_cases p3:600<zz
   ·have e3:decide ((600:Int)<(zz:Int))=true:=FW (by omega)
    clear r p3 HV ah
    cases cL
    all_goals
     go_wp2_with fail
     refine J.out.mono ?_
     rintro e w5 ⟨rfl,Q⟩
     have O:=Gn (av.out w5 Q)
     clear J Q
     go_wp2
     go_ret
     exact⟨⟨false,rfl,fun e=>by cases e⟩,O.out⟩
   have e3:decide ((600:Int)<(zz:Int))=false:=Gq (by omega)
   have bE:zz<=600:=by omega
   have cq:Hid (zz=z+sd):=by
    have h1:=ah.out.1
    have h2:=HV.out (by omega)
    show zz=z+sd
    omega
   have en:ff<=9:=by have:=ah.out.2;omega
   have c6:Hid (ff=f+1):=ah.out.2.symm
   clear p3 HV ah
   cases cL with
   |false=>
    have e4:decide ((8:Int)<(f:Int))=false:=Gq (by omega)
    go_wp2_with fail
    refine J.out.mono ?_
    rintro e w5 ⟨rfl,Q⟩
    have O:=Gn (r.out cj.out cl.out w5 zz f (av.out w5 Q) cq.out (by simp))
    clear J Q r
    go_wp2
    go_roundw
    case rel=>exact⟨i+1,zz,f,by omega,bE,hf,by go_num,rfl,rfl,O.out⟩
    case measure=>simp[intOf];omega
   |true=>
    by_cases p4:8<ff
    ·have e4:decide ((8:Int)<(ff:Int))=true:=FW (by omega)
     clear r p4
     go_wp2_with fail
     refine J.out.mono ?_
     rintro e w5 ⟨rfl,Q⟩
     have O:=Gn (av.out w5 Q)
     clear J Q
     go_wp2
     go_ret
     exact⟨⟨false,rfl,fun e=>by cases e⟩,O.out⟩
    ·have e4:decide ((8:Int)<(ff:Int))=false:=Gq (by omega)
     have dN:ff<=8:=by omega
     go_wp2_with fail
     refine J.out.mono ?_
     rintro e w5 ⟨rfl,Q⟩
     have O:=Gn (r.out cj.out cl.out w5 zz ff (av.out w5 Q) cq.out (by have:=c6.out;simp;omega))
     clear J Q r
     go_wp2
     go_roundw
     case rel=>exact⟨i+1,zz,ff,by omega,bE,dN,by go_num,rfl,rfl,O.out⟩
     case measure=>simp[intOf];omega
  ·obtain rfl:i=n:=by omega
   have cN:¬(i:Int)<(i:Int):=by omega
   have O:Hid (Bd.uJ D x/\Below w.heap.size w wr):=by
    obtain⟨g0,g1,g2,g3⟩:=HI.out
    have ht:D.take i=D:=Gr (by rw[I.out];exact Fm _)
    rw[ht] at g1 g2
    have bD:∀ d∈D,d.par.length<=3/\Sx.dep 65 d.body<=64:=fun d hd=>by
     obtain⟨j,hj,e⟩:=GV hd
     exact g3 j d (by rw[<-I.out];exact hj) (by rw[Ge hj,e])
    exact⟨⟨by rw[I.out];exact HN.out,by rw[HX.out.1];exact HZ.out,by rw[HX.out.2];exact cY.out,fun d hd=>(bD d hd).1,fun d hd=>(bD d hd).2,by omega,by omega⟩,g0⟩
   clear HI HC I HX
   go_wp2
   go_ret
   exact⟨⟨true,rfl,fun _=>O.out.1⟩,O.out.2⟩
end Go.Proofs.YtdbgiijdgedggaaGreatDoor
