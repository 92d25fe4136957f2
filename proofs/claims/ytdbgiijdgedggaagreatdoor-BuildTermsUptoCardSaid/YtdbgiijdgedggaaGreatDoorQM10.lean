import Derived.Test.YtdbgiijdgedggaaGreatDoorQM09
set_option linter.unusedSimpArgs false
set_option linter.unusedVariables false
set_option maxRecDepth 100000
set_option maxHeartbeats 25600000
namespace Go.Proofs.YtdbgiijdgedggaaGreatDoor
def Lt.aA (h:List Int):Int×List (Int×Int):=if h.all Lt.pt then(if(Lt.runs h).length<=65536 then(0,Lt.runs h) else(2,[])) else(1,[])
structure Dc where
 name:ByteArray
 sort:Int
 cL:Bool
 par:List (ByteArray×Int)
 body:Sx
abbrev Sc:=List (ByteArray×Int)
abbrev bN:=List Nd×Int×Int
def Bd.bg:List (List UInt8):=[[110,111,116],[97,110,100],[111,114],[61,62],[120,111,114],[61],[100,105,115,116,105,110,99,116],[105,116,101],[],[43],[45],[42],[60,61],[60],[62,61],[62],[115,116,114,46,43,43],[115,116,114,46,108,101,110],[115,116,114,46,97,116],[115,116,114,46,115,117,98,115,116,114],[115,116,114,46,112,114,101,102,105,120,111,102],[115,116,114,46,115,117,102,102,105,120,111,102],[115,116,114,46,99,111,110,116,97,105,110,115],[115,116,114,46,105,110,100,101,120,111,102],[115,116,114,46,114,101,112,108,97,99,101]]
def Bd.cg:List (List UInt8):=[[116,114,117,101],[102,97,108,115,101],[108,101,116],[102,111,114,97,108,108],[101,120,105,115,116,115],[109,97,116,99,104],[112,97,114],[33],[95],[97,115],[100,105,118],[109,111,100],[97,98,115]]
def Bd.op (s:List UInt8) (n:Nat):Int:=
 if s=[45]/\n=1 then 14 else if s=[] then 0 else match Bd.bg.findIdx? (fun t=>t == s) with
  |some i=>6+(i:Int)
  |none=>0
def Bd.reserved (s:List UInt8):Bool:=Bd.cg.contains s||decide (s.take 4=[115,116,114,46])||decide (s.take 3=[114,101,46])||decide (Bd.op s 2≠0)
def Bd.bound:Sc->ByteArray->Option Int
 |[],_=>none
 |x::l,s=>match Bd.bound l s with
  |some i=>some i
  |none=>if x.1=s then some x.2 else none
def Bd.decl (D:List Dc) (s:ByteArray):Nat->Option Nat
 |0=>none
 |k+1=>if D[k]?.map (·.name)=some s then some k else Bd.decl D s k
def Bd.aC (N:List Nd) (p:Int):Int:=(N[p.toNat]?.map (·.sort)).getD 0
def Bd.each (f:List Nd->Sx->bN):List Nd->List Sx->List Nd×List Int×Int
 |N,[]=>(N,[],0)
 |N,x::l=>match f N x with
  |(N',id,e)=>if e=0 then match Bd.each f N' l with
    |(h,ids,r)=>if r=0 then(h,id::ids,0) else(h,[],r)
   else(N',[],e)
def Bd.fV (D:List Dc) (f:Sc->List Nd->Sx->bN) (j:Nat) (A:List Int) (N:List Nd):bN:=
 match D[j]? with
 |none=>(N,0,1)
 |some d=>if A.length≠d.par.length then(N,0,1) else if(List.zip A d.par).any (fun q=>decide (Bd.aC N q.1≠q.2.2))=true then(N,0,90)
  else f (List.zip (d.par.map (·.1)) A) N d.body
noncomputable def Bd.jA (D:List Dc) (k:Nat) (call:Nat->List Int->List Nd->bN) (sc:Sc) (N:List Nd) (s:ByteArray):bN:=
 if s.data.toList=[116,114,117,101]\/s.data.toList=[102,97,108,115,101] then Tm.bool N (decide (s.data.toList=[116,114,117,101]))
 else if Bd.reserved s.data.toList=true then(N,0,101)
 else match Bd.bound sc s with
  |some id=>(N,id,0)
  |none=>match Bd.decl D s k with
   |none=>(N,0,100)
   |some j=>match D[j]? with
    |none=>(N,0,100)
    |some d=>if d.cL=true then(if d.par=[] then call j [] N else(N,0,1)) else Tm.const N d.name d.sort
def Bd.bI (x:Sx):Option (ByteArray×Sx):=
 match x.L with
 |[n,t]=>if x.list=true/\n.list=false/\n.k=3 then some (n.T,t) else none
 |_=>none
def Bd.binds:List Sx->Option (List (ByteArray×Sx))
 |[]=>some []
 |x::l=>match Bd.bI x,Bd.binds l with
  |some b,some m=>some (b::m)
  |_,_=>none
def Bd.twice:List ByteArray->Bool
 |[]=>false
 |s::l=>l.contains s||Bd.twice l
def Bd.dP (f:Sc->List Nd->Sx->bN) (sc:Sc) (N:List Nd) (r:List Sx):bN:=
 match r with
 |[b,t]=>if b.list=false then(N,0,1) else match Bd.binds b.L with
  |none=>(N,0,1)
  |some m=>if(m.any fun q=>Bd.reserved q.1.data.toList)=true then(N,0,101) else if Bd.twice (m.map (·.1))=true then(N,0,4)
   else match Bd.each (f sc) N (m.map (·.2)) with
    |(N',ids,e)=>if e=0 then f (sc++List.zip (m.map (·.1)) ids) N' t else(N',0,e)
 |_=>(N,0,1)
noncomputable def Bd.gD (D:List Dc) (k:Nat) (call:Nat->List Int->List Nd->bN) (f:Sc->List Nd->Sx->bN) (sc:Sc) (N:List Nd) (l:List Sx):bN:=
 match l with
 |[]=>(N,0,1)
 |h::r=>
  if h.list=true\/h.k≠3 then(N,0,101)
  else if h.T.data.toList=[108,101,116] then Bd.dP f sc N r
  else if Bd.op h.T.data.toList r.length≠0 then match Bd.each (f sc) N r with
   |(N',ids,e)=>if e=0 then Tm.app N' (Bd.op h.T.data.toList r.length) ids else(N',0,e)
  else if Bd.reserved h.T.data.toList=true then(N,0,101)
  else if(Bd.bound sc h.T).isSome=true then(N,0,100)
  else match Bd.decl D h.T k with
   |none=>(N,0,100)
   |some j=>if(D[j]?.map (·.cL)).getD false=true then match Bd.each (f sc) N r with
     |(N',ids,e)=>if e=0 then call j ids N' else(N',0,e)
    else(N,0,100)
noncomputable def Bd.kf (D:List Dc) (k:Nat) (call:Nat->List Int->List Nd->bN) (sc:Sc) (N:List Nd) (kind:Int) (s:ByteArray):bN:=
 if kind=4 then(if j8 s.data.toList=true then Tm.num N (T.dv s.data.toList) else(N,0,101))
 else if kind=6 then Tm.str N (Lt.aA (Lt.ir s.data.toList)).2
 else if kind=3 then Bd.jA D k call sc N s else(N,0,101)
noncomputable def Bd.step (D:List Dc) (k:Nat) (call:Nat->List Int->List Nd->bN) (f:Sc->List Nd->Sx->bN) (sc:Sc) (N:List Nd) (x:Sx):bN:=
 if x.list=true then Bd.gD D k call f sc N x.L else Bd.kf D k call sc N x.k x.T
noncomputable def Bd.BO (D:List Dc) (k:Nat) (call:Nat->List Int->List Nd->bN):Nat->Sc->List Nd->Sx->bN
 |0,_,N,_=>(N,0,0)
 |n+1,sc,N,x=>Bd.step D k call (Bd.BO D k call n) sc N x
noncomputable def Bd.call (D:List Dc):Nat->Nat->List Int->List Nd->bN
 |0,_,_,N=>(N,0,1)
 |k+1,j,A,N=>if j=k then Bd.fV D (fun sc N x=>Bd.BO D k (Bd.call D k) x.size sc N x) k A N else Bd.call D k j A N
noncomputable def Bd.tm (D:List Dc) (k:Nat) (sc:Sc) (N:List Nd) (x:Sx):bN:=Bd.BO D k (Bd.call D k) x.size sc N x
noncomputable def Bd.fn (D:List Dc) (j:Nat) (A:List Int) (N:List Nd):bN:=Bd.fV D (Bd.tm D j) j A N
theorem Bd.tj (D:List Dc):∀ (k j:Nat) (A:List Int) (N:List Nd),j<k->Bd.call D k j A N=Bd.fn D j A N
 |0,_,_,_,h=>absurd h (Gv _)
 |k+1,j,A,N,h=>by
  rw[Bd.call]
  split
  ·rename_i e
   subst e
   rfl
  ·exact Bd.tj D k j A N (by omega)
theorem Bd.bK {D:List Dc} {s:ByteArray}:∀ {k j:Nat},Bd.decl D s k=some j->j<k/\∃ d,D[j]?=some d/\d.name=s
 |0,j,h=>by cases h
 |k+1,j,h=>by
  rw[Bd.decl] at h
  split at h
  ·rename_i e
   cases h
   refine⟨Nat.lt_succ_self _,?_⟩
   cases hd:D[k]? with
   |none=>rw[hd] at e;cases e
   |some d=>rw[hd] at e;exact⟨d,rfl,by simpa using e⟩
  ·have:=Bd.bK h
   exact⟨by omega,this.2⟩
theorem Bd.iO {f g:List Nd->Sx->bN}:∀ (l:List Sx) (N:List Nd),(∀ y∈l,∀ N,f N y=g N y)->Bd.each f N l=Bd.each g N l
 |[],_,_=>rfl
 |x::l,N,h=>by
  rw[Bd.each,Bd.each,h x Gc]
  obtain⟨N',id,e⟩:=g N x
  show(if e=0 then _ else _)=(if e=0 then _ else _)
  rw[Bd.iO l N' fun y hy=>h y (Gd _ hy)]
theorem Bd.np {x:Sx} {q:ByteArray×Sx} (h:Bd.bI x=some q):q.2∈x.L:=by
 obtain⟨b,k,T,ta,a,L⟩:=x
 unfold Bd.bI at h
 simp only at h
 split at h
 ·split at h
  ·cases h;simp
  ·cases h
 ·cases h
theorem Bd.nu:∀ {l:List Sx} {m:List (ByteArray×Sx)},Bd.binds l=some m->∀ t∈m.map (·.2),∃ x∈l,t∈x.L
 |[],m,h,t,ht=>by cases h;cases ht
 |x::l,m,h,t,ht=>by
  rw[Bd.binds] at h
  cases r:Bd.bI x with
  |none=>rw[r] at h;cases h
  |some b=>
   cases I:Bd.binds l with
   |none=>rw[r,I] at h;cases h
   |some m'=>
    rw[r,I] at h
    cases h
    rcases FE.1 ht with e|e
    ·exact⟨x,Gc,e▸Bd.np r⟩
    ·obtain⟨y,hy,J⟩:=Bd.nu I t e
     exact⟨y,Gd _ hy,J⟩
theorem Bd.jd {x h b t:Sx} {m:List (ByteArray×Sx)} (I:x.L=[h,b,t]) (hb:Bd.binds b.L=some m):t.size<x.size/\∀ y∈m.map (·.2),y.size<x.size:=by
 have J:b.size<x.size:=Sx.cV (by rw[I];simp)
 refine⟨Sx.cV (by rw[I];simp),fun y hy=>?_⟩
 obtain⟨z,hz,r⟩:=Bd.nu hb y hy
 have:=Sx.cV r
 have:=Sx.cV hz
 omega
theorem Bd.kY {D:List Dc} {k:Nat} {call I:Nat->List Int->List Nd->bN} {f g:Sc->List Nd->Sx->bN} {sc:Sc} {N:List Nd} {x:Sx}
  (hc:∀ j A N,j<k->call j A N=I j A N) (hf:∀ sc N y,y.size<x.size->f sc N y=g sc N y):Bd.step D k call f sc N x=Bd.step D k I g sc N x:=by
 unfold Bd.step
 split
 ·rename_i hl
  unfold Bd.gD
  cases J:x.L with
  |nil=>rfl
  |cons h r=>
   simp only
   have U:∀ N,Bd.each (f sc) N r=Bd.each (g sc) N r:=fun N=>Bd.iO r N fun y hy N=>hf sc N y (Sx.cV (by rw[J];exact Gd _ hy))
   rw[U]
   split
   ·rfl
   ·split
    ·unfold Bd.dP
     split
     ·rename_i b t
      split
      ·rfl
      ·cases hb:Bd.binds b.L with
       |none=>rfl
       |some m=>
        simp only
        obtain⟨O,Q⟩:=Bd.jd J hb
        rw[Bd.iO (m.map (·.2)) N fun y hy N=>hf sc N y (Q y hy)]
        split
        ·rfl
        ·split
         ·rfl
         ·split
          ·exact hf _ _ _ O
          ·rfl
     ·rfl
    ·split
     ·rfl
     ·split
      ·rfl
      ·split
       ·rfl
       ·cases hd:Bd.decl D h.T k with
        |none=>rfl
        |some j=>
         simp only
         split
         ·split
          ·exact hc _ _ _ (Bd.bK hd).1
          ·rfl
         ·rfl
 ·unfold Bd.kf
  split
  ·rfl
  ·split
   ·rfl
   ·split
    ·unfold Bd.jA
     split
     ·rfl
     ·split
      ·rfl
      ·split
       ·rfl
       ·split
        ·rfl
        ·rename_i j hd
         split
         ·rfl
         ·split
          ·split
           ·exact hc _ _ _ (Bd.bK hd).1
           ·rfl
          ·rfl
    ·rfl
theorem Bd.qL {D:List Dc} {k:Nat} {call:Nat->List Int->List Nd->bN}:∀ (n m:Nat) (sc:Sc) (N:List Nd) (x:Sx),x.size<=n->x.size<=m->Bd.BO D k call n sc N x=Bd.BO D k call m sc N x
 |0,_,_,_,x,h,_=>absurd x.size_pos (by omega)
 |_,0,_,_,x,_,h=>absurd x.size_pos (by omega)
 |n+1,m+1,sc,N,x,r,I=>by
  rw[Bd.BO,Bd.BO]
  exact Bd.kY (fun _ _ _ _=>rfl) fun sc N y hy=>Bd.qL n m sc N y (by omega) (by omega)
theorem Bd.iB (D:List Dc) (k:Nat) (sc:Sc) (N:List Nd) (x:Sx):Bd.tm D k sc N x=Bd.step D k (Bd.fn D) (Bd.tm D k) sc N x:=by
 have hp:=x.size_pos
 obtain⟨n,hn⟩:∃ n,x.size=n+1:=⟨x.size-1,by omega⟩
 rw[Bd.tm,hn,Bd.BO]
 exact Bd.kY (fun j A N h=>Bd.tj D k j A N h) fun sc N y hy=>by rw[Bd.tm];exact Bd.qL n y.size sc N y (by omega) (Fm _)
theorem Bd.induct {P:Nat->Sx->Prop} (h:∀ k x,(∀ j y,j<k->P j y)->(∀ y,y.size<x.size->P k y)->P k x):∀ k x,P k x:=by
 have main:∀ k,∀ n x,x.size<n->P k x:=by
  intro k
  induction k using Nat.strongRecOn with
  |_ k r=>
   intro n
   induction n with
   |zero=>intro x J;exact absurd J (Gv _)
   |succ n I=>exact fun x J=>h k x (fun j y L=>r j L (y.size+1) y (Nat.lt_succ_self _)) fun y hy=>I y (by omega)
 exact fun k x=>main k (x.size+1) x (Nat.lt_succ_self _)
abbrev qX (α:Type):=List Nd->List Nd×α×Int
def Bd.St {α:Type} (o:qX α) (N:List Nd):Prop:=
 Tm.Inv (o N).1/\N<+:(o N).1/\((o N).2.2=0->∀ M,Tm.Inv M->(o N).1<+:M->o M=(M,(o N).2.1,0))/\((o N).2.2≠0->o (o N).1=o N)
def Bd.andThen {α β:Type} (o:qX α) (g:α->qX β) (z:β):qX β:=fun N=>match o N with
 |(N',a,e)=>if e=0 then g a N' else(N',z,e)
theorem Bd.andThen_ok {α β:Type} {o:qX α} {g:α->qX β} {z:β} {N N':List Nd} {a:α} (h:o N=(N',a,0)):Bd.andThen o g z N=g a N':=by
 unfold Bd.andThen;rw[h];rfl
theorem Bd.dJ {α β:Type} {o:qX α} {g:α->qX β} {z:β} {N N':List Nd} {a:α} {e:Int} (h:o N=(N',a,e)) (he:e≠0):Bd.andThen o g z N=(N',z,e):=by
 unfold Bd.andThen;rw[h];exact FQ he
theorem Bd.St.andThen {α β:Type} {o:qX α} {g:α->qX β} {z:β} {N:List Nd} (h:Bd.St o N) (Z:∀ N' a,o N=(N',a,0)->Bd.St (g a) N'):Bd.St (Bd.andThen o g z) N:=by
 obtain⟨Q,O,U,V⟩:=h
 cases L:o N with
 |mk N' r=>
  obtain⟨a,e⟩:=r
  rw[L] at Q O U V
  by_cases he:e=0
  ·subst he
   obtain⟨g1,g2,g3,g4⟩:=Z N' a L
   unfold Bd.St
   rw[Bd.andThen_ok L]
   have I:∀ M,Tm.Inv M->(g a N').1<+:M->o M=(M,a,0):=fun M J hp=>U rfl M J (g2.trans hp)
   refine⟨g1,O.trans g2,fun he M J hp=>?_,fun he=>?_⟩
   ·rw[Bd.andThen_ok (I M J hp)]
    exact g3 he M J hp
   ·rw[Bd.andThen_ok (I _ g1 (Ik _))]
    exact g4 he
  ·unfold Bd.St
   rw[Bd.dJ L he]
   refine⟨Q,O,fun X=>absurd X he,fun _=>?_⟩
   have:=V he
   exact Bd.dJ this he
theorem Bd.St.pure {α:Type} (a:α) {N:List Nd} (h:Tm.Inv N):Bd.St (fun N=>(N,a,0)) N:=
 ⟨h,Ik _,fun _ _ _ _=>rfl,fun e=>absurd rfl e⟩
theorem Bd.St.err {α:Type} (a:α) (e:Int) (he:e≠0) {N:List Nd} (h:Tm.Inv N):Bd.St (fun N=>(N,a,e)) N:=
 ⟨h,Ik _,fun r=>absurd r he,fun _=>rfl⟩
theorem Bd.St.congr {α:Type} {o p:qX α} {N:List Nd} (h:Bd.St p N) (he:∀ M,N<+:M->o M=p M):Bd.St o N:=by
 have r:=he N (Ik _)
 unfold Bd.St
 rw[r]
 exact⟨h.1,h.2.1,fun e M I hp=>by rw[he M (h.2.1.trans hp)];exact h.2.2.1 e M I hp,fun e=>by rw[he _ h.2.1];exact h.2.2.2 e⟩
theorem Bd.St.add (x:Nd) {N:List Nd} (J:Tm.Inv (Tm.add N x).1):Bd.St (fun N=>Tm.add N x) N:=by
 obtain⟨m,hm⟩:=Tm.oM N x
 refine⟨J,⟨m,hm.symm⟩,fun e M L hp=>?_,fun e=>?_⟩
 ·obtain⟨q,rfl⟩:=hp
  rcases Tm.et N x with⟨I,h⟩|⟨_,_,h⟩|⟨I,_,h⟩
  ·simp only[h]
   rw[Tm.add,Fx (Tm.eH.2 (F9 _ I)),Tm.oH _ I]
  ·simp only[h] at e
   exact absurd e (by decide)
  ·simp only[h]
   have r:x∈N++[x]:=by simp
   rw[Tm.add,Fx (Tm.eH.2 (F9 _ r)),Tm.oH _ r,Tm.nX I]
 ·exact(Tm.nC N x).1
theorem Tm.tz {l m:List Nd} (hl:Tm.Inv l) {op:Int} {a:List Int} (h:(Tm.app l op a).2.2=0):∃ w more own,Tm.asks op=some (w,more,own)/\Tm.app l op a=Tm.add l (Tm.node op own l a)/\Tm.app (l++m) op a=Tm.add (l++m) (Tm.node op own l a):=by
 rcases Tm.fe l op a with⟨e,he,Q⟩|⟨w,more,own,Q,U,V,X,Z,h6⟩
 ·rw[Q] at h;exact absurd h he
 ·have r:=Tm.bV V
  have I:a.map (Tm.a6 (l++m))=a.map (Tm.a6 l):=List.map_congr_left fun p hp=>by
   have:=r p hp
   unfold Tm.a6
   rw[Tm.jg this.2 this.1]
  have J:Tm.free (l++m) a=Tm.free l a:=by
   unfold Tm.free
   congr 1
   refine List.filter_congr fun p hp=>?_
   rw[Tm.nF hl (r p hp).1 (r p hp).2]
  have O:Tm.ct (l++m) a=true:=Gt.2 fun p hp=>FW (by have:=r p hp;simp;omega)
  have L:Tm.node op own (l++m) a=Tm.node op own l a:=by unfold Tm.node;rw[I]
  refine⟨w,more,own,Q,h6,?_⟩
  unfold Tm.app
  rw[Q]
  simp only
  rw[FQ U,FQ (by rw[O];decide),I,FQ (by rw[X];decide),J,FQ Z,L]
theorem Bd.St.app (op:Int) (a:List Int) {N:List Nd} (L:Tm.Inv N):Bd.St (fun N=>Tm.app N op a) N:=by
 have h:=Tm.zS L op a
 by_cases he:(Tm.app N op a).2.2=0
 ·obtain⟨w,more,own,J,U,_⟩:=Tm.tz (m:=[]) L he
  rw[U] at h
  refine Bd.St.congr (Bd.St.add (Tm.node op own N a) h) fun M hp=>?_
  obtain⟨m,rfl⟩:=hp
  obtain⟨w',Q,own',r,V,O⟩:=Tm.tz (m:=m) L he
  rw[J] at r
  cases r
  exact O
 ·have I:N<+:(Tm.app N op a).1:=by
   rcases Tm.fe N op a with⟨e,_,J⟩|⟨w,more,own,J,U,Z,h4,h5,X⟩
   ·rw[J];exact Ik _
   ·rw[X]
    obtain⟨m,hm⟩:=Tm.oM N (Tm.node op own N a)
    exact⟨m,hm.symm⟩
  exact⟨h,I,fun e=>absurd e he,fun _=>(Tm.vO L op a).1⟩
theorem Bd.St.const (s:ByteArray) (sort:Int) {N:List Nd} (r:Tm.Inv N):Bd.St (fun N=>Tm.const N s sort) N:=by
 by_cases h:sort<1\/3<sort\/16384<s.size
 ·exact(Bd.St.err 0 1 (by decide) r).congr fun M _=>by rw[Tm.const,Fx h]
 ·refine(Bd.St.add ⟨1,sort,[],s,0,[]⟩ ?_).congr fun M _=>by rw[Tm.const,FQ h]
  exact Tm.jf r ⟨by simp only;omega,by simp only;omega⟩ (fun p hp=>(FD hp).elim) (fun e=>by simp at e)
theorem Bd.St.bool (b:Bool) {N:List Nd} (h:Tm.Inv N):Bd.St (fun N=>Tm.bool N b) N:=
 Bd.St.add _ (Tm.jf h ⟨by simp only;decide,by simp only;decide⟩ (fun p hp=>(FD hp).elim) (fun e=>by simp only at e;split at e <;> cases e))
theorem Bd.St.num (z:Int) {N:List Nd} (r:Tm.Inv N):Bd.St (fun N=>Tm.num N z) N:=by
 by_cases h:z<0
 ·exact(Bd.St.err 0 1 (by decide) r).congr fun M _=>by rw[Tm.num,Fx h]
 ·refine(Bd.St.add _ ?_).congr fun M _=>by rw[Tm.num,FQ h]
  exact Tm.jf r ⟨by simp only;decide,by simp only;decide⟩ (fun p hp=>(FD hp).elim) (fun e=>by simp at e)
theorem Bd.St.str (t:List (Int×Int)) {N:List Nd} (r:Tm.Inv N):Bd.St (fun N=>Tm.str N t) N:=by
 by_cases h:Tx.ox t=true
 ·refine(Bd.St.add _ ?_).congr fun M _=>by rw[Tm.str,Fx h]
  exact Tm.jf r ⟨by simp only;decide,by simp only;decide⟩ (fun p hp=>(FD hp).elim) (fun e=>by simp at e)
 ·exact(Bd.St.err 0 1 (by decide) r).congr fun M _=>by rw[Tm.str,FQ h]
def Bd.Ok (r:bN):Prop:=(r.2.2=0->0<=r.2.1/\r.2.1<r.1.length)/\(r.2.2≠0->r.2.1=0)
theorem Bd.Ok.add (N:List Nd) (x:Nd):Bd.Ok (Tm.add N x):=by
 rcases Tm.et N x with⟨r,h⟩|⟨_,_,h⟩|⟨r,_,h⟩
 ·rw[h]
  have:=(Tm.oz r).2
  exact⟨fun _=>⟨by simp only;omega,by simp only;omega⟩,fun e=>absurd rfl e⟩
 ·rw[h];exact⟨fun e=>absurd e (by show ¬(2:Int)=0;decide),fun _=>rfl⟩
 ·rw[h];exact⟨fun _=>⟨by simp only;omega,by simp;omega⟩,fun e=>absurd rfl e⟩
theorem Bd.Ok.err (N:List Nd) {e:Int} (he:e≠0):Bd.Ok (N,0,e):=⟨fun h=>absurd h he,fun _=>rfl⟩
theorem Bd.Ok.app (N:List Nd) (op:Int) (a:List Int):Bd.Ok (Tm.app N op a):=by
 rcases Tm.fe N op a with⟨e,he,h⟩|⟨w,more,own,h,I,J,L,O,r⟩
 ·rw[h];exact .err N he
 ·rw[r];exact .add _ _
theorem Bd.Ok.const (N:List Nd) (s:ByteArray) (sort:Int):Bd.Ok (Tm.const N s sort):=by
 unfold Tm.const;split
 ·exact .err N (by decide)
 ·exact .add _ _
theorem Bd.Ok.num (N:List Nd) (z:Int):Bd.Ok (Tm.num N z):=by
 unfold Tm.num;split
 ·exact .err N (by decide)
 ·exact .add _ _
theorem Bd.Ok.str (N:List Nd) (t:List (Int×Int)):Bd.Ok (Tm.str N t):=by
 unfold Tm.str;split
 ·exact .add _ _
 ·exact .err N (by decide)
def Bd.In (N:List Nd) (l:List Int):Prop:=∀ p∈l,0<=p/\p<N.length
theorem Bd.In.ext {N M:List Nd} {l:List Int} (h:Bd.In N l) (hp:N<+:M):Bd.In M l:=fun p hm=>by
 have:=h p hm
 have:=hp.length_le
 omega
theorem Bd.nN (f:List Nd->Sx->bN) (x:Sx) (l:List Sx) (N:List Nd):
 Bd.each f N (x::l)=Bd.andThen (fun N=>f N x) (fun id=>Bd.andThen (fun N=>Bd.each f N l) (fun ids N=>(N,id::ids,0)) []) [] N:=rfl
theorem Bd.eK {f:List Nd->Sx->bN}:∀ (l:List Sx) (N:List Nd),Tm.Inv N->(∀ y∈l,∀ M,Tm.Inv M->N<+:M->Bd.St (fun N=>f N y) M/\Bd.Ok (f M y))->
  Bd.St (fun N=>Bd.each f N l) N/\((Bd.each f N l).2.2=0->Bd.In (Bd.each f N l).1 (Bd.each f N l).2.1/\(Bd.each f N l).2.1.length=l.length)/\((Bd.each f N l).2.2≠0->(Bd.each f N l).2.1=[])
 |[],N,U,_=>⟨Bd.St.pure [] U,fun _=>⟨fun p hp=>(FD hp).elim,rfl⟩,fun e=>absurd rfl e⟩
 |x::l,N,U,h=>by
  obtain⟨hs,hk⟩:=h x Gc N U (Ik _)
  have I:∀ N' id,f N x=(N',id,0)->_:=fun N' id e=>
   Bd.eK (f:=f) l N' (by have:=hs.1;simp only[e] at this;exact this) fun y hy M hM hp=>
    h y (Gd _ hy) M hM (by have:=hs.2.1;simp only[e] at this;exact this.trans hp)
  refine⟨?_,?_⟩
  ·refine Bd.St.congr (Bd.St.andThen hs fun N' id e=>Bd.St.andThen (I N' id e).1 fun O ids Z=>Bd.St.pure _ ?_) fun M _=>Bd.nN f x l M
   have:=(I N' id e).1.1
   simp only[Z] at this
   exact this
  ·rw[Bd.nN]
   cases L:f N x with
   |mk N' r=>
    obtain⟨id,e⟩:=r
    by_cases he:e=0
    ·subst he
     obtain⟨r1,V,r3⟩:=I N' id L
     rw[Bd.andThen_ok (o:=fun N=>f N x) L]
     cases J:Bd.each f N' l with
     |mk O r=>
      obtain⟨ids,e⟩:=r
      rw[J] at V r3
      by_cases he:e=0
      ·subst he
       rw[Bd.andThen_ok (o:=fun N=>Bd.each f N l) J]
       refine⟨fun _=>⟨fun p hp=>?_,by simp[(V rfl).2]⟩,fun e=>absurd rfl e⟩
       rcases FE.1 hp with rfl|hp
       ·have X:=hk.1 (by rw[L])
        have h2:=r1.2.1.length_le
        rw[L] at X
        simp only[J] at h2
        simp only at X ⊢
        omega
       ·exact(V rfl).1 p hp
      ·rw[Bd.dJ (o:=fun N=>Bd.each f N l) J he]
       exact⟨fun Q=>absurd Q he,fun _=>rfl⟩
    ·rw[Bd.dJ (o:=fun N=>f N x) L he]
     exact⟨fun Q=>absurd Q he,fun _=>rfl⟩
theorem Bd.kT:∀ {sc:Sc} {s:ByteArray} {i:Int},Bd.bound sc s=some i->i∈sc.map (·.2)
 |[],_,_,h=>by cases h
 |x::l,s,i,h=>by
  rw[Bd.bound] at h
  cases hb:Bd.bound l s with
  |some j=>rw[hb] at h;cases h;exact Gd _ (Bd.kT hb)
  |none=>
   rw[hb] at h
   simp only at h
   split at h
   ·cases h;simp
   ·cases h
theorem Bd.jU {N:List Nd} {l:List ByteArray} {A:List Int} (h:Bd.In N A):Bd.In N ((List.zip l A).map (·.2)):=fun p hp=>by
 obtain⟨q,r,rfl⟩:=Hh.1 hp
 exact h _ (List.of_mem_zip r).2
theorem Bd.kU {N M:List Nd} (hp:N<+:M) {p:Int} (h:0<=p/\p<N.length):Bd.aC M p=Bd.aC N p:=by
 obtain⟨m,rfl⟩:=hp
 unfold Bd.aC
 rw[Tm.jg h.2 h.1]
theorem Bd.mL {N M:List Nd} (hp:N<+:M) {A:List Int} (h:Bd.In N A) (P:List (ByteArray×Int)):
  (List.zip A P).any (fun q=>decide (Bd.aC M q.1≠q.2.2))=(List.zip A P).any (fun q=>decide (Bd.aC N q.1≠q.2.2)):=by
 rw[Ia,Il,Il]
 constructor
 ·rintro⟨q,r,I⟩
  exact⟨q,r,by rw[<-Bd.kU hp (h _ (List.of_mem_zip r).1)];exact I⟩
 ·rintro⟨q,r,I⟩
  exact⟨q,r,by rw[Bd.kU hp (h _ (List.of_mem_zip r).1)];exact I⟩
def Bd.Good (D:List Dc) (k:Nat) (x:Sx):Prop:=
 ∀ (sc:Sc) (N:List Nd),Tm.Inv N->Bd.In N (sc.map (·.2))->Bd.St (fun N=>Bd.tm D k sc N x) N/\Bd.Ok (Bd.tm D k sc N x)
theorem Bd.uf {D:List Dc} {j:Nat} (J:∀ y,Bd.Good D j y) (A:List Int) (N:List Nd) (r:Tm.Inv N) (hA:Bd.In N A):Bd.St (fun N=>Bd.fn D j A N) N/\Bd.Ok (Bd.fn D j A N):=by
 unfold Bd.fn Bd.fV
 cases hd:D[j]? with
 |none=>exact⟨Bd.St.err 0 1 (by decide) r,.err N (by decide)⟩
 |some d=>
  simp only
  by_cases I:A.length≠d.par.length
  ·simp only[Fx I]
   exact⟨Bd.St.err 0 1 (by decide) r,.err N (by decide)⟩
  ·simp only[FQ I]
   by_cases h:(List.zip A d.par).any (fun q=>decide (Bd.aC N q.1≠q.2.2))=true
   ·rw[Fx h]
    refine⟨(Bd.St.err (0:Int) 90 (by decide) r).congr fun M hp=>?_,.err N (by decide)⟩
    rw[Bd.mL hp hA,Fx h]
   ·rw[FQ h]
    obtain⟨g1,g2⟩:=J d.body (List.zip (d.par.map (·.1)) A) N r (Bd.jU hA)
    refine⟨g1.congr fun M hp=>?_,g2⟩
    rw[Bd.mL hp hA,FQ h]
theorem Bd.In.append {N:List Nd} {a b:List Int} (h:Bd.In N a) (k:Bd.In N b):Bd.In N (a++b):=fun p hp=>(F7.1 hp).elim (h p) (k p)
theorem Bd.oc (f:Sc->List Nd->Sx->bN) (sc:Sc) (N:List Nd) (b t:Sx) {m:List (ByteArray×Sx)} (hb:b.list=true) (hm:Bd.binds b.L=some m)
  (h:(m.any fun q=>Bd.reserved q.1.data.toList)=false) (r:Bd.twice (m.map (·.1))=false):
  Bd.dP f sc N [b,t]=Bd.andThen (fun N=>Bd.each (f sc) N (m.map (·.2))) (fun ids N=>f (sc++List.zip (m.map (·.1)) ids) N t) 0 N:=by
 unfold Bd.dP
 simp only[hb,hm,h,r]
 rfl
theorem Bd.gi {α:Type} {o:qX α} {g:α->qX Int} {N:List Nd} (h:∀ N' a,o N=(N',a,0)->Bd.Ok (g a N')):Bd.Ok (Bd.andThen o g 0 N):=by
 cases I:o N with
 |mk N' r=>
  obtain⟨a,e⟩:=r
  by_cases he:e=0
  ·subst he
   rw[Bd.andThen_ok I]
   exact h N' a I
  ·rw[Bd.dJ I he]
   exact .err N' he
theorem Bd.good (D:List Dc):∀ k x,Bd.Good D k x:=by
 refine Bd.induct fun k x hk hx=>?_
 intro sc N X Z
 have ad:∀ j,j<k->∀ A M,Tm.Inv M->Bd.In M A->Bd.St (fun N=>Bd.fn D j A N) M/\Bd.Ok (Bd.fn D j A M):=fun j hj A M hM hA=>Bd.uf (fun y=>hk j y hj) A M hM hA
 suffices h:Bd.St (fun N=>Bd.step D k (Bd.fn D) (Bd.tm D k) sc N x) N/\Bd.Ok (Bd.step D k (Bd.fn D) (Bd.tm D k) sc N x) from
  ⟨h.1.congr fun M _=>Bd.iB D k sc M x,by rw[Bd.iB];exact h.2⟩
 have I:∀ e:Int,e≠0->Bd.St (fun N=>(N,(0:Int),e)) N/\Bd.Ok (N,0,e):=fun e he=>⟨Bd.St.err 0 e he X,.err N he⟩
 have hE:∀ l:List Sx,(∀ y∈l,y.size<x.size)->Bd.St (fun N=>Bd.each (Bd.tm D k sc) N l) N/\_:=fun l hl=>
  Bd.eK (f:=Bd.tm D k sc) l N X fun y hy M hM hp=>hx y (hl y hy) sc M hM (Z.ext hp)
 unfold Bd.step
 by_cases hl:x.list=true
 ·simp only[Fx hl]
  unfold Bd.gD
  cases hL:x.L with
  |nil=>exact I 1 (by decide)
  |cons h r=>
   simp only
   have hr:=hE r fun y hy=>Sx.cV (by rw[hL];exact Gd _ hy)
   by_cases h1:h.list=true\/h.k≠3
   ·simp only[Fx h1];exact I 101 (by decide)
   simp only[FQ h1]
   by_cases U:h.T.data.toList=[108,101,116]
   ·simp only[Fx U]
    by_cases O:∃ b t,r=[b,t]/\b.list=true
    ·obtain⟨b,t,rfl,hb⟩:=O
     cases hm:Bd.binds b.L with
     |none=>
      have e:∀ M,Bd.dP (Bd.tm D k) sc M [b,t]=(M,0,1):=fun M=>by unfold Bd.dP;simp only[hb,hm];rfl
      simp only[e];exact I 1 (by decide)
     |some m=>
      by_cases Q:(m.any fun q=>Bd.reserved q.1.data.toList)=true
      ·have e:∀ M,Bd.dP (Bd.tm D k) sc M [b,t]=(M,0,101):=fun M=>by unfold Bd.dP;simp only[hb,hm,Q];rfl
       simp only[e];exact I 101 (by decide)
      by_cases V:Bd.twice (m.map (·.1))=true
      ·have e:∀ M,Bd.dP (Bd.tm D k) sc M [b,t]=(M,0,4):=fun M=>by unfold Bd.dP;simp only[hb,hm,GU.2 Q,V];rfl
       simp only[e];exact I 4 (by decide)
      have e:=fun M=>Bd.oc (Bd.tm D k) sc M b t hb hm (GU.2 Q) (GU.2 V)
      simp only[e]
      obtain⟨s1,s2⟩:=Bd.jd hL hm
      obtain⟨q1,q2,q3⟩:=hE (m.map (·.2)) s2
      have J:∀ N' ids,Bd.each (Bd.tm D k sc) N (m.map (·.2))=(N',ids,0)->Bd.St (fun N=>Bd.tm D k (sc++List.zip (m.map (·.1)) ids) N t) N'/\Bd.Ok (Bd.tm D k (sc++List.zip (m.map (·.1)) ids) N' t):=fun N' ids e=>by
       have i1:=q1.1
       have i2:=q1.2.1
       have i3:=(q2 (by rw[e])).1
       simp only[e] at i1 i2 i3
       refine hx t s1 _ N' i1 ?_
       rw[Hf]
       exact(Z.ext i2).append (Bd.jU i3)
      exact⟨Bd.St.andThen q1 fun N' ids e=>(J N' ids e).1,Bd.gi fun N' ids e=>(J N' ids e).2⟩
    ·have e:∀ M,Bd.dP (Bd.tm D k) sc M r=(M,0,1):=fun M=>by
      unfold Bd.dP
      split
      ·rename_i b t
       rw[Fx (GU.2 fun hb=>O ⟨b,t,rfl,hb⟩)]
      ·rfl
     simp only[e];exact I 1 (by decide)
   simp only[FQ U]
   by_cases Q:Bd.op h.T.data.toList r.length≠0
   ·simp only[Fx Q]
    exact⟨Bd.St.andThen (g:=fun ids N=>Tm.app N (Bd.op h.T.data.toList r.length) ids) (z:=0) hr.1 fun N' ids e=>Bd.St.app _ ids (by have:=hr.1.1;simp only[e] at this;exact this),
     Bd.gi (o:=fun N=>Bd.each (Bd.tm D k sc) N r) (g:=fun ids N=>Tm.app N (Bd.op h.T.data.toList r.length) ids) fun N' ids _=> .app _ _ _⟩
   simp only[FQ Q]
   by_cases V:Bd.reserved h.T.data.toList=true
   ·simp only[Fx V];exact I 101 (by decide)
   simp only[FQ V]
   by_cases h5:(Bd.bound sc h.T).isSome=true
   ·simp only[Fx h5];exact I 100 (by decide)
   simp only[FQ h5]
   cases hd:Bd.decl D h.T k with
   |none=>exact I 100 (by decide)
   |some j=>
    simp only
    by_cases h6:(D[j]?.map (·.cL)).getD false=true
    ·simp only[Fx h6]
     have J:∀ N' ids,Bd.each (Bd.tm D k sc) N r=(N',ids,0)->_:=fun N' ids e=>
      ad j (Bd.bK hd).1 ids N' (by have:=hr.1.1;simp only[e] at this;exact this) (by have:=(hr.2.1 (by rw[e])).1;simp only[e] at this;exact this)
     exact⟨Bd.St.andThen (g:=fun ids N=>Bd.fn D j ids N) (z:=0) hr.1 fun N' ids e=>(J N' ids e).1,
      Bd.gi (o:=fun N=>Bd.each (Bd.tm D k sc) N r) (g:=fun ids N=>Bd.fn D j ids N) fun N' ids e=>(J N' ids e).2⟩
    ·simp only[FQ h6];exact I 100 (by decide)
 ·simp only[FQ hl]
  unfold Bd.kf
  by_cases h1:x.k=4
  ·simp only[Fx h1]
   by_cases U:j8 x.T.data.toList=true
   ·simp only[Fx U];exact⟨Bd.St.num _ X,.num _ _⟩
   ·simp only[FQ U];exact I 101 (by decide)
  simp only[FQ h1]
  by_cases U:x.k=6
  ·simp only[Fx U];exact⟨Bd.St.str _ X,.str _ _⟩
  simp only[FQ U]
  by_cases Q:x.k=3
  ·simp only[Fx Q]
   unfold Bd.jA
   by_cases V:x.T.data.toList=[116,114,117,101]\/x.T.data.toList=[102,97,108,115,101]
   ·simp only[Fx V];exact⟨Bd.St.bool _ X,.add _ _⟩
   simp only[FQ V]
   by_cases h5:Bd.reserved x.T.data.toList=true
   ·simp only[Fx h5];exact I 101 (by decide)
   simp only[FQ h5]
   cases hb:Bd.bound sc x.T with
   |some id=>exact⟨Bd.St.pure id X,fun _=>Z id (Bd.kT hb),fun e=>absurd rfl e⟩
   |none=>
    simp only
    cases hd:Bd.decl D x.T k with
    |none=>exact I 100 (by decide)
    |some j=>
     simp only
     cases hj:D[j]? with
     |none=>exact I 100 (by decide)
     |some d=>
      simp only
      by_cases h6:d.cL=true
      ·simp only[Fx h6]
       by_cases h7:d.par=[]
       ·simp only[Fx h7]
        exact ad j (Bd.bK hd).1 [] N X fun p hp=>(FD hp).elim
       ·simp only[FQ h7];exact I 1 (by decide)
      ·simp only[FQ h6];exact⟨Bd.St.const _ _ X,.const _ _ _⟩
  ·simp only[FQ Q];exact I 101 (by decide)
def Bd.ew (D:List Dc) (N:List Nd) (m:List (Nat×List Int×Int)):Prop:=∀ q∈m,Bd.In N q.2.1/\Bd.fn D q.1 q.2.1 N=(N,q.2.2,0)
theorem Bd.ew.nil (D:List Dc) (N:List Nd):Bd.ew D N []:=fun _ h=>(FD h).elim
theorem Bd.yH (D:List Dc) (j:Nat) (A:List Int) (N:List Nd) (h:Tm.Inv N) (hA:Bd.In N A):Bd.St (fun N=>Bd.fn D j A N) N/\Bd.Ok (Bd.fn D j A N):=
 Bd.uf (fun y=>Bd.good D j y) A N h hA
theorem Bd.ew.ext {D:List Dc} {N M:List Nd} {m:List (Nat×List Int×Int)} (h:Bd.ew D N m) (L:Tm.Inv N) (J:Tm.Inv M) (hp:N<+:M):Bd.ew D M m:=fun q O=>by
 obtain⟨r,I⟩:=h q O
 refine⟨r.ext hp,?_⟩
 have:=(Bd.yH D q.1 q.2.1 N L r).1.2.2.1
 simp only[I] at this
 exact this trivial M J hp
theorem Bd.ew.add {D:List Dc} {N N':List Nd} {m:List (Nat×List Int×Int)} {j:Nat} {A:List Int} {id:Int} (h:Bd.ew D N' m) (I:Tm.Inv N) (hA:Bd.In N A) (hf:Bd.fn D j A N=(N',id,0)):Bd.ew D N' (m++[(j,A,id)]):=fun q r=>by
 rcases F7.1 r with r|r
 ·exact h q r
 ·obtain rfl:=F0.1 r
  obtain⟨⟨g1,g2,g3,_⟩,_⟩:=Bd.yH D j A N I hA
  simp only[hf] at g1 g2 g3
  exact⟨hA.ext g2,g3 trivial N' g1 (Ik _)⟩
theorem Bd.ew.hit {D:List Dc} {N:List Nd} {m:List (Nat×List Int×Int)} (h:Bd.ew D N m) {j:Nat} {A:List Int} {id:Int} (r:(j,A,id)∈m):Bd.fn D j A N=(N,id,0):=(h _ r).2
inductive Kt
 |none
 |op (o:Int)
 |fn (j:Nat)
 |bind (names:List ByteArray) (t:Sx)
 |first
 |cD (j:Nat) (A:List Int)
structure iH where
 bh:Sc
 body:Bool
 ahead:Nat
structure Fr where
 parts:List Sx
 ids:List Int
 th:Kt
 sc:Nat
 dp:Nat
structure Ms where
 N:List Nd
 made:List (Nat×List Int×Int)
 sc:List iH
 fr:List Fr
inductive vl
 |nothing
 |term (id:Int)
 |decl (j:Nat)
def Mk.find (D:List Dc) (s:ByteArray):List iH->vl
 |[]=> .nothing
 |x::l=>match Bd.bound x.bh s with
  |some i=> .term i
  |none=>if x.body=true then(match Bd.decl D s x.ahead with
   |some j=> .decl j
   |none=> .nothing) else Mk.find D s l
def Mk.says (D:List Dc) (sc:List iH) (s:ByteArray):vl:=Mk.find D s sc.reverse
def Mk.hit (m:List (Nat×List Int×Int)) (j:Nat) (A:List Int):Option Int:=(m.find? fun q=>decide (q.1=j/\q.2.1=A)).map (·.2.2)
def Mk.put (m:List (Nat×List Int×Int)) (j:Nat) (A:List Int) (id:Int):List (Nat×List Int×Int):=(j,A,id)::m.filter fun q=> !decide (q.1=j/\q.2.1=A)
def Mk.Ag (l:List Fr) (id:Int):List Fr:=match l.getLast? with
 |none=>l
 |some f=>l.dropLast++[{ f with ids:=f.ids++[id] }]
def Mk.give (s:Ms) (id e:Int):Ms×Int:=if e=0 then({ s with fr:=Mk.Ag s.fr id },0) else(s,e)
def Mk.aO (s:Ms) (r:bN):Ms×Int:=Mk.give { s with N:=r.1 } r.2.1 r.2.2
def Mk.deep (l:List Fr):Nat:=(l.getLast?.map (·.dp)).getD 0
def Mk.nest (s:Ms) (parts:List Sx) (th:Kt):Ms:={ s with fr:=s.fr++[⟨parts,[],th,s.sc.length,Mk.deep s.fr+1⟩] }
def Mk.body (s:Ms) (x:Sx) (bh:Sc) (ahead:Nat) (th:Kt):Ms:={ s with sc:=s.sc++[⟨bh,true,ahead⟩],fr:=s.fr++[⟨[x],[],th,s.sc.length+1,0⟩] }
def Mk.call (D:List Dc) (s:Ms) (j:Nat) (A:List Int):Ms×Int:=match D[j]? with
 |none=>(s,1)
 |some d=>if A.length≠d.par.length then(s,1) else match Mk.hit s.made j A with
  |some id=>Mk.give s id 0
  |none=>if(List.zip A d.par).any (fun q=>decide (Bd.aC s.N q.1≠q.2.2))=true then(s,90)
   else(Mk.body s d.body (List.zip (d.par.map (·.1)) A) j (.cD j A),0)
noncomputable def Mk.name (D:List Dc) (s:Ms) (t:ByteArray):Ms×Int:=
 if t.data.toList=[116,114,117,101]\/t.data.toList=[102,97,108,115,101] then Mk.aO s (Tm.bool s.N (decide (t.data.toList=[116,114,117,101])))
 else if Bd.reserved t.data.toList=true then(s,101)
 else match Mk.says D s.sc t with
  | .nothing=>(s,100)
  | .term id=>Mk.give s id 0
  | .decl j=>match D[j]? with
   |none=>(s,100)
   |some d=>if d.cL=true then Mk.call D s j [] else Mk.aO s (Tm.const s.N d.name d.sort)
def Mk.il (s:Ms) (r:List Sx):Ms×Int:=
 match r with
 |[b,t]=>if b.list=false then(s,1) else match Bd.binds b.L with
  |none=>(s,1)
  |some m=>if(m.any fun q=>Bd.reserved q.1.data.toList)=true then(s,101) else if Bd.twice (m.map (·.1))=true then(s,4)
   else(Mk.nest s (m.map (·.2)) (.bind (m.map (·.1)) t),0)
 |_=>(s,1)
def Mk.list (D:List Dc) (s:Ms) (l:List Sx):Ms×Int:=
 match l with
 |[]=>(s,1)
 |h::r=>
  if h.list=true\/h.k≠3 then(s,101)
  else if h.T.data.toList=[108,101,116] then Mk.il s r
  else if Bd.op h.T.data.toList r.length≠0 then(Mk.nest s r (.op (Bd.op h.T.data.toList r.length)),0)
  else if Bd.reserved h.T.data.toList=true then(s,101)
  else match Mk.says D s.sc h.T with
   | .decl j=>if(D[j]?.map (·.cL)).getD false=true then(Mk.nest s r (.fn j),0) else(s,100)
   |_=>(s,100)
noncomputable def Mk.atom (D:List Dc) (s:Ms) (kind:Int) (t:ByteArray):Ms×Int:=
 if kind=4 then(if j8 t.data.toList=true then Mk.aO s (Tm.num s.N (T.dv t.data.toList)) else(s,101))
 else if kind=6 then Mk.aO s (Tm.str s.N (Lt.aA (Lt.ir t.data.toList)).2)
 else if kind=3 then Mk.name D s t else(s,101)
noncomputable def Mk.part (D:List Dc) (s:Ms) (x:Sx):Ms×Int:=if x.list=true then Mk.list D s x.L else Mk.atom D s x.k x.T
noncomputable def Mk.ends (D:List Dc) (s:Ms) (th:Kt) (ids:List Int):Ms×Int:=
 match th with
 | .none=>(s,0)
 | .op o=>Mk.aO s (Tm.app s.N o ids)
 | .fn j=>Mk.call D s j ids
 | .bind names t=>(Mk.nest { s with sc:=s.sc++[⟨List.zip names ids,false,0⟩] } [t] .first,0)
 | .first=>Mk.give s (ids.headD 0) 0
 | .cD j A=>Mk.give { s with made:=Mk.put s.made j A (ids.headD 0) } (ids.headD 0) 0
noncomputable def Mk.step (D:List Dc) (s:Ms):Ms×Int:=match s.fr.getLast? with
 |none=>(s,0)
 |some f=>match f.parts[f.ids.length]? with
  |some x=>Mk.part D { s with sc:=s.sc.take f.sc } x
  |none=>Mk.ends D { s with sc:=s.sc.take f.sc,fr:=s.fr.dropLast } f.th f.ids
theorem Mk.jH (bs:List Fr) (f:Fr) (id:Int):Mk.Ag (bs++[f]) id=bs++[{ f with ids:=f.ids++[id] }]:=by
 unfold Mk.Ag
 rw[GM,List.dropLast_concat]
theorem Mk.mH (bs:List Fr) (f:Fr):Mk.deep (bs++[f])=f.dp:=by unfold Mk.deep;rw[GM];rfl
theorem Mk.jJ {D:List Dc} {s:Ms} {bs:List Fr} {f:Fr} {x:Sx} (hf:s.fr=bs++[f]) (h:f.parts[f.ids.length]?=some x):Mk.step D s=Mk.part D { s with sc:=s.sc.take f.sc } x:=by
 unfold Mk.step
 rw[hf,GM]
 simp only[h]
theorem Mk.ia {D:List Dc} {s:Ms} {bs:List Fr} {f:Fr} (hf:s.fr=bs++[f]) (h:f.parts.length<=f.ids.length):Mk.step D s=Mk.ends D { s with sc:=s.sc.take f.sc,fr:=bs } f.th f.ids:=by
 unfold Mk.step
 rw[hf,GM,List.dropLast_concat]
 simp only[GB h]
theorem Bd.jO (l m:Sc) (s:ByteArray):Bd.bound (l++m) s=match Bd.bound m s with
  |some i=>some i
  |none=>Bd.bound l s:=by
 induction l with
 |nil=>rw[FY];cases Bd.bound m s <;> rfl
 |cons x l h=>
  rw[FZ,Bd.bound,h,Bd.bound]
  cases Bd.bound m s <;> rfl
def Mk.Al:List iH->Nat->Sc->Prop
 |[],_,_=>False
 |x::l,k,sc=>if x.body=true then k=x.ahead/\sc=x.bh else ∃ h,Mk.Al l k h/\sc=h++x.bh
theorem Mk.qw (D:List Dc) (s:ByteArray):∀ (l:List iH) (k:Nat) (sc:Sc),Mk.Al l k sc->Mk.find D s l=match Bd.bound sc s with
  |some i=> .term i
  |none=>match Bd.decl D s k with
   |some j=> .decl j
   |none=> .nothing
 |[],_,_,h=>h.elim
 |x::l,k,sc,h=>by
  rw[Mk.find]
  rw[Mk.Al] at h
  split at h
  ·rename_i hb
   obtain⟨rfl,rfl⟩:=h
   rw[Fx hb]
  ·rename_i hb
   obtain⟨r,I,rfl⟩:=h
   rw[FQ hb,Mk.qw D s l k r I,Bd.jO]
   cases Bd.bound x.bh s <;> rfl
theorem Mk.nR {m:List (Nat×List Int×Int)} {j:Nat} {A:List Int} {id:Int} (h:Mk.hit m j A=some id):(j,A,id)∈m:=by
 unfold Mk.hit at h
 obtain⟨q,I,J⟩:=FT.1 h
 have r:=List.find?_some I
 simp only[Hu] at r
 have L:=List.mem_of_find?_eq_some I
 obtain⟨a,b,c⟩:=q
 simp only at J r
 rw[<-J,<-r.1,<-r.2]
 exact L
end Go.Proofs.YtdbgiijdgedggaaGreatDoor
