import Derived.Test.YtdbgiijdgedggaaGreatDoorQM10
set_option linter.unusedSimpArgs false
set_option linter.unusedVariables false
set_option maxRecDepth 100000
set_option maxHeartbeats 25600000
namespace Go.Proofs.YtdbgiijdgedggaaGreatDoor
def Mk.Live (s:Ms):Prop:=s.fr.head?.map (·.ids)=some []
structure Mk.Fits (s:Ms):Prop where
 fr:s.fr.length<=4800
 sc:s.sc.length<=4800
 dp:∀ f∈s.fr,f.dp<=4800
 le:∀ f,s.fr.getLast?=some f->f.sc<=s.sc.length
inductive Mk.Run (D:List Dc):Nat->Ms->Ms->Prop
 |zero (s:Ms):Mk.Run D 0 s s
 |succ {n:Nat} {s s1 s2:Ms}:Mk.Live s->Mk.Fits s->Mk.step D s=(s1,0)->Mk.Run D n s1 s2->Mk.Run D (n+1) s s2
theorem Mk.Run.trans {D:List Dc} {n m:Nat} {s s1 s2:Ms} (h:Mk.Run D n s s1) (k:Mk.Run D m s1 s2):Mk.Run D (n+m) s s2:=by
 induction h with
 |zero s=>rw[FA];exact k
 |@succ n s s1 O r I J _ L=>rw[Nat.add_right_comm];exact .succ r I J (L k)
def Mk.Ends (D:List Dc) (s:Ms) (bs:List Fr) (f:Fr) (T:List iH) (N':List Nd) (ids:List Int) (e:Int):Prop:=
 (e=0->∃ n s',Mk.Run D n s s'/\s'.N=N'/\s'.fr=bs++[{ f with ids:=f.ids++ids }]/\s'.sc.take f.sc=T/\f.sc<=s'.sc.length/\s'.sc.length<=4800/\Bd.ew D N' s'.made)/\
 (e≠0->∃ n s' h,Mk.Run D n s s'/\Mk.Live s'/\Mk.Fits s'/\Mk.step D s'=(h,e)/\h.N=N')
theorem Mk.Ends.run {D:List Dc} {s s1:Ms} {bs:List Fr} {f:Fr} {T:List iH} {N':List Nd} {ids:List Int} {e:Int} {n:Nat} (h:Mk.Run D n s s1) (k:Mk.Ends D s1 bs f T N' ids e):Mk.Ends D s bs f T N' ids e:=by
 refine⟨fun he=>?_,fun he=>?_⟩
 ·obtain⟨m,s',r,I⟩:=k.1 he
  exact⟨_,s',h.trans r,I⟩
 ·obtain⟨m,s',J,r,I⟩:=k.2 he
  exact⟨_,s',J,h.trans r,I⟩
theorem Mk.Ends.fail {D:List Dc} {s r:Ms} {bs:List Fr} {f:Fr} {T:List iH} {N':List Nd} {ids:List Int} {e:Int} (hl:Mk.Live s) (hf:Mk.Fits s) (h:Mk.step D s=(r,e)) (he:e≠0) (J:r.N=N'):Mk.Ends D s bs f T N' ids e:=
 ⟨fun I=>absurd I he,fun _=>⟨0,s,r,.zero s,hl,hf,h,J⟩⟩
theorem Mk.Ends.give {D:List Dc} {s s1:Ms} {bs:List Fr} {f:Fr} {T:List iH} {id e:Int} (hl:Mk.Live s) (hf:Mk.Fits s) (h:Mk.step D s=Mk.give s1 id e) (r:s1.fr=bs++[f]) (hT:s1.sc.take f.sc=T) (hle:f.sc<=s1.sc.length) (hb:s1.sc.length<=4800) (hm:Bd.ew D s1.N s1.made):
  Mk.Ends D s bs f T s1.N [id] e:=by
 by_cases he:e=0
 ·subst he
  refine⟨fun _=>⟨1,_,.succ hl hf (h.trans (Fx rfl)) (.zero _),rfl,?_,hT,hle,hb,hm⟩,fun he=>absurd rfl he⟩
  show Mk.Ag s1.fr id=_
  rw[r,Mk.jH]
 ·exact .fail hl hf (h.trans (FQ he)) he rfl
theorem Mk.Ends.aO {D:List Dc} {s s1:Ms} {bs:List Fr} {f:Fr} {T:List iH} {o:qX Int} (hl:Mk.Live s) (hf:Mk.Fits s) (h:Mk.step D s=Mk.aO s1 (o s1.N)) (r:s1.fr=bs++[f]) (hT:s1.sc.take f.sc=T) (hle:f.sc<=s1.sc.length) (hb:s1.sc.length<=4800) (hm:Bd.ew D s1.N s1.made) (J:Tm.Inv s1.N) (I:Bd.St o s1.N):
  Mk.Ends D s bs f T (o s1.N).1 [(o s1.N).2.1] (o s1.N).2.2:=
 Mk.Ends.give (s1:={ s1 with N:=(o s1.N).1 }) hl hf h r hT hle hb (hm.ext J I.1 I.2.1)
def Mk.room (D:List Dc):Nat->Nat
 |0=>0
 |k+1=>Mk.room D k+(D[k]?.map (·.body.size)).getD 0+1
theorem Mk.ue {D:List Dc} {j:Nat} {d:Dc} (hd:D[j]?=some d):∀ {k:Nat},j<k->Mk.room D j+d.body.size+1<=Mk.room D k
 |0,h=>absurd h (Gv _)
 |k+1,h=>by
  rw[Mk.room]
  rcases GX j k with e|e
  ·have:=Mk.ue hd e
   omega
  ·obtain rfl:j=k:=by omega
   rw[hd]
   exact Fm _
structure Mk.Ap (D:List Dc) (s:Ms) (bs:List Fr) (f:Fr) (k:Nat) (sc:Sc):Prop where
 fr:s.fr=bs++[f]
 le:f.sc<=s.sc.length
 big:s.sc.length<=4800
 see:Mk.Al (s.sc.take f.sc).reverse k sc
 cD:Bd.ew D s.N s.made
 inv:Tm.Inv s.N
 jP:Bd.In s.N (sc.map (·.2))
 live:(bs++[f]).head?.map (·.ids)=some []
 ET:f.sc<=bs.length+1
 EK:f.dp<=bs.length
 EE:∀ g∈bs,g.dp<=4800
 few:bs.length<=4700
theorem Mk.Ap.fits {D:List Dc} {s:Ms} {bs:List Fr} {f:Fr} {k:Nat} {sc:Sc} (h:Mk.Ap D s bs f k sc):Mk.Fits s:=by
 have:=h.few
 have I:=h.EK
 refine⟨by rw[h.fr,Gb];simp only[FG,He];omega,h.big,fun g r=>?_,fun g r=>?_⟩
 ·rw[h.fr] at r
  rcases F7.1 r with r|r
  ·exact h.EE g r
  ·rw[F0.1 r];omega
 ·rw[h.fr,GM] at r
  rw[<-Fk r]
  exact h.le
theorem Mk.Ap.isLive {D:List Dc} {s:Ms} {bs:List Fr} {f:Fr} {k:Nat} {sc:Sc} (h:Mk.Ap D s bs f k sc):Mk.Live s:=by unfold Mk.Live;rw[h.fr];exact h.live
theorem Mk.gp {bs:List Fr} (h:bs≠[]) (a b:List Fr):(bs++a).head?=(bs++b).head?:=by
 cases bs with
 |nil=>exact absurd rfl h
 |cons x l=>rfl
def Mk.DQ (D:List Dc) (k:Nat) (x:Sx):Prop:=∀ (s:Ms) (bs:List Fr) (f:Fr) (sc:Sc),Mk.Ap D s bs f k sc->f.parts[f.ids.length]?=some x->bs.length+x.size+Mk.room D k<=4700->
 Mk.Ends D s bs f (s.sc.take f.sc) (Bd.tm D k sc s.N x).1 [(Bd.tm D k sc s.N x).2.1] (Bd.tm D k sc s.N x).2.2
theorem Mk.each (D:List Dc) (k:Nat) (sc:Sc) (T:List iH) (bs:List Fr) (I:bs≠[]):∀ (l:List Sx) (s:Ms) (f:Fr),Mk.Ap D s bs f k sc->s.sc.take f.sc=T->f.parts.drop f.ids.length=l->
  (∀ y∈l,Mk.DQ D k y/\bs.length+y.size+Mk.room D k<=4700)->Mk.Ends D s bs f T (Bd.each (Bd.tm D k sc) s.N l).1 (Bd.each (Bd.tm D k sc) s.N l).2.1 (Bd.each (Bd.tm D k sc) s.N l).2.2
 |[],s,f,hp,hT,_,_=>⟨fun _=>⟨0,s,.zero s,rfl,by rw[hp.fr];show bs++[f]=bs++[{ f with ids:=f.ids++[] }];rw[GH],hT,hp.le,hp.big,hp.cD⟩,fun e=>absurd rfl e⟩
 |x::l,s,f,hp,hT,hd,hy=>by
  have hx:f.parts[f.ids.length]?=some x:=by
   have:=G1 (·[0]?) hd
   simpa using this
  have h:=(hy x Gc).1 s bs f sc hp hx (hy x Gc).2
  rw[hT] at h
  obtain⟨⟨g1,g2,_,_⟩,g5⟩:=Bd.good D k x sc s.N hp.inv hp.jP
  simp only at g1 g2
  rw[Bd.each]
  cases ho:Bd.tm D k sc s.N x with
  |mk N' r=>
   obtain⟨id,e⟩:=r
   rw[ho] at h g1 g2
   simp only at h g1 g2 ⊢
   by_cases he:e=0
   ·subst he
    rw[Fx rfl]
    obtain⟨n,s',X,rfl,q3,Z,q5,q6,q7⟩:=h.1 rfl
    have Q:Mk.Ap D s' bs { f with ids:=f.ids++[id] } k sc:=⟨q3,q5,q6,by show Mk.Al (s'.sc.take f.sc).reverse k sc;rw[Z,<-hT];exact hp.see,q7,g1,hp.jP.ext g2,by rw[Mk.gp I _ [f]];exact hp.live,hp.ET,hp.EK,hp.EE,hp.few⟩
    have J:=Mk.each D k sc T bs I l s' _ Q Z (by
     show f.parts.drop (f.ids++[id]).length=l
     rw[Gb,Im,<-GF,hd]
     rfl) fun y hm=>hy y (Gd _ hm)
    cases O:Bd.each (Bd.tm D k sc) s'.N l with
    |mk ad r=>
     obtain⟨ids,e⟩:=r
     rw[O] at J
     simp only at J ⊢
     by_cases he:e=0
     ·subst he
      rw[Fx rfl]
      refine⟨fun _=>?_,fun e=>absurd rfl e⟩
      obtain⟨m,s2,U,V,p3,p4⟩:=J.1 rfl
      exact⟨_,s2,X.trans U,V,by rw[p3];simp,p4⟩
     ·rw[FQ he]
      refine⟨fun L=>absurd L he,fun _=>?_⟩
      obtain⟨m,s2,s3,U,V⟩:=J.2 he
      exact⟨_,s2,s3,X.trans U,V⟩
   ·rw[FQ he]
    exact⟨fun L=>absurd L he,fun _=>h.2 he⟩
theorem Mk.nested {D:List Dc} {k:Nat} {sc:Sc} {s0 s1:Ms} {bs:List Fr} {f:Fr} {T T':List iH} {r:List Sx} {th:Kt} {X:List Nd} {U Z:Int} (hl:Mk.Live s0) (hf:Mk.Fits s0) (ao:Mk.step D s0=(Mk.nest s1 r th,0)) (ah:s1.fr=bs++[f]) (L:s1.sc=T')
  (bb:T'.length<=bs.length+2) (ba:Mk.Al T'.reverse k sc) (hm:Bd.ew D s1.N s1.made) (hI:Tm.Inv s1.N) (a1:Bd.In s1.N (sc.map (·.2))) (J:(bs++[f]).head?.map (·.ids)=some []) (bl:f.dp<=bs.length) (O:∀ g∈bs,g.dp<=4800) (av:bs.length+1<=4700)
  (hy:∀ y∈r,Mk.DQ D k y/\bs.length+1+y.size+Mk.room D k<=4700)
  (hK:∀ V s4,s4.N=(Bd.each (Bd.tm D k sc) s1.N r).1->s4.fr=bs++[f]->s4.sc=T'->Bd.ew D s4.N s4.made->(Bd.each (Bd.tm D k sc) s1.N r).2.2=0->Mk.Live V->Mk.Fits V->Mk.step D V=Mk.ends D s4 th (Bd.each (Bd.tm D k sc) s1.N r).2.1->Mk.Ends D V bs f T X [U] Z)
  (hE:(Bd.each (Bd.tm D k sc) s1.N r).2.2≠0->X=(Bd.each (Bd.tm D k sc) s1.N r).1/\Z=(Bd.each (Bd.tm D k sc) s1.N r).2.2):Mk.Ends D s0 bs f T X [U] Z:=by
 have Q:Mk.Run D 1 s0 (Mk.nest s1 r th):=.succ hl hf ao (.zero _)
 have ad:Mk.deep s1.fr=f.dp:=by rw[ah,Mk.mH]
 have hlen:(bs++[f]).length=bs.length+1:=by simp
 have hp:Mk.Ap D (Mk.nest s1 r th) (bs++[f]) ⟨r,[],th,T'.length,f.dp+1⟩ k sc:=
  ⟨by show s1.fr++[_]=_;rw[ah,L,<-ah,ad],by show T'.length<=s1.sc.length;rw[L];exact Fm _,by show s1.sc.length<=_;rw[L];omega,by show Mk.Al (s1.sc.take T'.length).reverse k sc;rw[L,Ib];exact ba,hm,hI,a1,
   by rw[Mk.gp (by simp) _ []];rw[GH];exact J,by rw[hlen];exact bb,by rw[hlen];simp only;omega,fun g I=>by
    rcases F7.1 I with I|I
    ·exact O g I
    ·rw[F0.1 I];omega,by rw[hlen];exact av⟩
 have h1:=Mk.each D k sc T' (bs++[f]) (by simp) r _ _ hp (by show s1.sc.take T'.length=T';rw[L,Ib]) rfl fun y h=>⟨(hy y h).1,by rw[hlen];exact(hy y h).2⟩
 have hN:(Mk.nest s1 r th).N=s1.N:=rfl
 rw[hN] at h1
 obtain⟨_,g2,g3⟩:=Bd.eK (f:=Bd.tm D k sc) r s1.N hI fun y _ M hM a7=>Bd.good D k y sc M hM (a1.ext a7)
 cases ho:Bd.each (Bd.tm D k sc) s1.N r with
 |mk N' q=>
  obtain⟨ids,e⟩:=q
  rw[ho] at h1 hK hE g2
  simp only at h1 hK hE g2
  by_cases he:e=0
  ·subst he
   obtain⟨n,V,p1,p2,p3,p4,p5,p6,p7⟩:=h1.1 rfl
   simp only[FY] at p3 p4 p5
   refine Mk.Ends.run (Q.trans p1) (hK V { V with sc:=V.sc.take T'.length,fr:=bs++[f] } p2 rfl p4 (by rw[p2];exact p7) rfl ?_ ?_ ?_)
   ·unfold Mk.Live
    rw[p3,Mk.gp (by simp) _ [],GH]
    exact J
   ·refine⟨by rw[p3];simp;omega,p6,fun g I=>?_,fun g I=>?_⟩
    ·rw[p3] at I
     rcases F7.1 I with I|I
     ·rcases F7.1 I with I|I
      ·exact O g I
      ·rw[F0.1 I];omega
     ·rw[F0.1 I];simp only;omega
    ·rw[p3,GM] at I
     rw[<-Fk I]
     exact p5
   ·exact Mk.ia p3 (by have:=(g2 rfl).2;simp only;omega)
  ·obtain⟨e1,e2⟩:=hE he
   subst e1
   subst e2
   exact Mk.Ends.run Q ⟨fun h0=>absurd h0 he,fun _=>h1.2 he⟩
theorem Mk.called {D:List Dc} {k j:Nat} {Z s1:Ms} {bs:List Fr} {f:Fr} {T:List iH} {A:List Int} (hl:Mk.Live Z) (hf:Mk.Fits Z) (h:Mk.step D Z=Mk.call D s1 j A) (ad:s1.fr=bs++[f]) (I:s1.sc=T)
  (hT:T.length=f.sc) (ba:f.sc<=bs.length+1) (hm:Bd.ew D s1.N s1.made) (hI:Tm.Inv s1.N) (hA:Bd.In s1.N A) (L:(bs++[f]).head?.map (·.ids)=some []) (bl:f.dp<=bs.length) (Q:∀ g∈bs,g.dp<=4800) (a1:j<k) (a7:bs.length+1+Mk.room D k<=4700)
  (hy:∀ y,Mk.DQ D j y):Mk.Ends D Z bs f T (Bd.fn D j A s1.N).1 [(Bd.fn D j A s1.N).2.1] (Bd.fn D j A s1.N).2.2:=by
 have av:s1.sc.take f.sc=T:=by rw[I,<-hT,Ib]
 cases hd:D[j]? with
 |none=>
  have e:Bd.fn D j A s1.N=(s1.N,0,1):=by unfold Bd.fn Bd.fV;rw[hd]
  rw[e]
  exact .fail hl hf (h.trans (by unfold Mk.call;rw[hd])) (show(1:Int)≠0 by decide) rfl
 |some d=>
  by_cases J:A.length≠d.par.length
  ·have e:Bd.fn D j A s1.N=(s1.N,0,1):=by unfold Bd.fn Bd.fV;rw[hd];simp only;rw[Fx J]
   rw[e]
   exact .fail hl hf (h.trans (by unfold Mk.call;rw[hd];simp only;rw[Fx J])) (show(1:Int)≠0 by decide) rfl
  ·cases hh:Mk.hit s1.made j A with
   |some id=>
    rw[hm.hit (Mk.nR hh)]
    exact Mk.Ends.give hl hf (h.trans (by unfold Mk.call;rw[hd];simp only;rw[FQ J,hh])) ad av (by rw[I,hT];exact Fm _) (by rw[I,hT];omega) hm
   |none=>
    by_cases h2:(List.zip A d.par).any (fun q=>decide (Bd.aC s1.N q.1≠q.2.2))=true
    ·have e:Bd.fn D j A s1.N=(s1.N,0,90):=by unfold Bd.fn Bd.fV;rw[hd];simp only;rw[FQ J,Fx h2]
     rw[e]
     exact .fail hl hf (h.trans (by unfold Mk.call;rw[hd];simp only;rw[FQ J,hh];simp only;rw[Fx h2])) (show(90:Int)≠0 by decide) rfl
    ·have e:Bd.fn D j A s1.N=Bd.tm D j (List.zip (d.par.map (·.1)) A) s1.N d.body:=by unfold Bd.fn Bd.fV;rw[hd];simp only;rw[FQ J,FQ h2]
     have O:Mk.step D Z=(Mk.body s1 d.body (List.zip (d.par.map (·.1)) A) j (.cD j A),0):=h.trans (by unfold Mk.call;rw[hd];simp only;rw[FQ J,hh];simp only;rw[FQ h2])
     have U:Mk.Run D 1 Z _:=.succ hl hf O (.zero _)
     have hlen:(bs++[f]).length=bs.length+1:=by simp
     have bn:=Mk.ue hd a1
     have bb:0<d.body.size:=Sx.size_pos _
     have hp:Mk.Ap D (Mk.body s1 d.body (List.zip (d.par.map (·.1)) A) j (.cD j A)) (bs++[f]) ⟨[d.body],[],.cD j A,f.sc+1,0⟩ j (List.zip (d.par.map (·.1)) A):=
      ⟨by show s1.fr++[_]=_;rw[ad,I,hT],by show f.sc+1<=(s1.sc++[_]).length;rw[I,Gb,hT];exact Fm _,by show(s1.sc++[_]).length<=_;rw[I,Gb,hT];simp only[Im];omega,
       by
        show Mk.Al ((s1.sc++[_]).take (f.sc+1)).reverse j _
        rw[I,Gr (by rw[Gb,hT];exact Fm _),List.reverse_append]
        exact⟨rfl,rfl⟩,hm,hI,Bd.jU hA,by rw[Mk.gp (by simp) _ [],GH];exact L,by rw[hlen];simp only;omega,Fz _,fun g r=>by
        rcases F7.1 r with r|r
        ·exact Q g r
        ·rw[F0.1 r];omega,by rw[hlen];omega⟩
     have h1:=hy d.body _ _ _ _ hp rfl (by rw[hlen];omega)
     have hN:(Mk.body s1 d.body (List.zip (d.par.map (·.1)) A) j (.cD j A)).N=s1.N:=rfl
     have ah:(Mk.body s1 d.body (List.zip (d.par.map (·.1)) A) j (.cD j A)).sc.take (f.sc+1)=T++[⟨List.zip (d.par.map (·.1)) A,true,j⟩]:=by
      show(s1.sc++[_]).take (f.sc+1)=_
      rw[I,Gr (by rw[Gb,hT];exact Fm _)]
     rw[hN,ah,<-e] at h1
     cases ho:Bd.fn D j A s1.N with
     |mk N' q=>
      obtain⟨id,er⟩:=q
      rw[ho] at h1
      simp only at h1 ⊢
      by_cases he:er=0
      ·subst he
       obtain⟨n,s3,p1,p2,X,p4,p5,p6,p7⟩:=h1.1 rfl
       simp only[FY] at X p4 p5
       refine Mk.Ends.run (U.trans p1) ?_
       have V:=Mk.ia (D:=D) X (by simp)
       simp only at V
       rw[p4] at V
       have ao:N'=({ s3 with sc:=T++[⟨List.zip (d.par.map (·.1)) A,true,j⟩],fr:=bs++[f],made:=Mk.put s3.made j A id }:Ms).N:=p2.symm
       rw[ao]
       refine Mk.Ends.give (s1:={ s3 with sc:=T++[⟨List.zip (d.par.map (·.1)) A,true,j⟩],fr:=bs++[f],made:=Mk.put s3.made j A id }) ?_ ?_ V rfl ?_ ?_ ?_ ?_
       ·unfold Mk.Live
        rw[X,Mk.gp (by simp) _ [],GH]
        exact L
       ·refine⟨by rw[X];simp;omega,p6,fun g r=>?_,fun g r=>?_⟩
        ·rw[X] at r
         rcases F7.1 r with r|r
         ·rcases F7.1 r with r|r
          ·exact Q g r
          ·rw[F0.1 r];omega
         ·rw[F0.1 r];simp only;omega
        ·rw[X,GM] at r
         rw[<-Fk r]
         exact p5
       ·show(T++[_]).take f.sc=T
        rw[<-hT,FN]
       ·show f.sc<=(T++[_]).length
        rw[Gb,hT]
        omega
       ·show(T++[_]).length<=4800
        rw[Gb,hT]
        simp only[Im]
        omega
       ·show Bd.ew D s3.N (Mk.put s3.made j A id)
        intro q hq
        unfold Mk.put at hq
        rcases FE.1 hq with rfl|hq
        ·rw[p2]
         exact(Bd.ew.add (m:=[]) (Bd.ew.nil D N') hI hA ho) _ (by simp)
        ·rw[p2]
         exact p7 q (Io.1 hq).1
      ·exact Mk.Ends.run U ⟨fun h0=>absurd h0 he,fun _=>h1.2 he⟩
theorem Bd.wY (f:List Nd->Sx->bN) (N:List Nd) (t:Sx):Bd.each f N [t]=match f N t with
  |(N',id,e)=>if e=0 then(N',[id],0) else(N',[],e):=by
 rw[Bd.each]
 obtain⟨N',id,e⟩:=f N t
 rfl
theorem Mk.Fa (D:List Dc):∀ k x,Mk.DQ D k x:=by
 refine Bd.induct fun k x hk hx=>?_
 intro s bs f sc hp cz cy
 have hl:=hp.isLive
 have hf:=hp.fits
 have I:=Mk.jJ (D:=D) hp.fr cz
 obtain⟨T,hT⟩:∃ T,s.sc.take f.sc=T:=⟨_,rfl⟩
 have ba:T.length=f.sc:=by rw[<-hT,FK];exact G6 hp.le
 obtain⟨s1,bB⟩:∃ s1:Ms,({ s with sc:=s.sc.take f.sc }:Ms)=s1:=⟨_,rfl⟩
 rw[bB] at I
 have hN:s1.N=s.N:=by rw[<-bB]
 have bz:s1.fr=bs++[f]:=by rw[<-bB];exact hp.fr
 have a1:s1.sc=T:=by rw[<-bB];exact hT
 have hm:Bd.ew D s1.N s1.made:=by rw[<-bB];exact hp.cD
 have a7:Mk.Al T.reverse k sc:=by rw[<-hT];exact hp.see
 have hI:Tm.Inv s1.N:=by rw[hN];exact hp.inv
 have bo:Bd.In s1.N (sc.map (·.2)):=by rw[hN];exact hp.jP
 have b6:=hp.ET
 have O:=hp.live
 have V:=hp.EK
 have U:=hp.EE
 have cE:=hp.big
 have ca:s1.sc.take f.sc=T:=by rw[a1,<-ba,Ib]
 have cv:T.take f.sc=T:=by rw[<-ba,Ib]
 have hle:f.sc<=s1.sc.length:=by rw[a1,ba];exact Fm _
 have cb:s1.sc.length<=4800:=by rw[a1,ba];have:=hp.le;omega
 have b3:bs.length+1<=4700:=by have:=x.size_pos;omega
 rw[hT,<-hN,Bd.iB]
 have J:∀ e:Int,e≠0->Mk.step D s=(s1,e)->Mk.Ends D s bs f T s1.N [0] e:=fun e he h=> .fail hl hf h he rfl
 have ah:∀ o:qX Int,Mk.step D s=Mk.aO s1 (o s1.N)->Bd.St o s1.N->Mk.Ends D s bs f T (o s1.N).1 [(o s1.N).2.1] (o s1.N).2.2:=fun o h ho=>
  .aO hl hf h bz ca hle cb hm hI ho
 have bP:∀ t,Mk.says D s1.sc t=match Bd.bound sc t with
   |some i=> .term i
   |none=>match Bd.decl D t k with
    |some j=> .decl j
    |none=> .nothing:=fun t=>by rw[a1];exact Mk.qw D t T.reverse k sc a7
 clear hp bB hT
 unfold Bd.step
 unfold Mk.part at I
 by_cases b4:x.list=true
 ·rw[Fx b4]
  rw[Fx b4] at I
  unfold Bd.gD
  unfold Mk.list at I
  cases hL:x.L with
  |nil=>rw[hL] at I;exact J 1 (by decide) I
  |cons h r=>
   rw[hL] at I
   simp only at I ⊢
   have ch:∀ y∈r,Mk.DQ D k y/\bs.length+1+y.size+Mk.room D k<=4700:=fun y hy=>by
    have:=Sx.cV (x:=x) (y:=y) (by rw[hL];exact Gd _ hy)
    exact⟨hx y this,by omega⟩
   by_cases h1:h.list=true\/h.k≠3
   ·rw[Fx h1] at I ⊢
    exact J 101 (by decide) I
   rw[FQ h1] at I ⊢
   by_cases h2:h.T.data.toList=[108,101,116]
   ·rw[Fx h2] at I ⊢
    by_cases bn:∃ b t,r=[b,t]/\b.list=true
    ·obtain⟨b,t,rfl,hb⟩:=bn
     unfold Mk.il at I
     simp only at I
     rw[FQ (by rw[hb];decide)] at I
     cases bb:Bd.binds b.L with
     |none=>
      rw[bb] at I
      have e:Bd.dP (Bd.tm D k) sc s1.N [b,t]=(s1.N,0,1):=by unfold Bd.dP;simp only[hb,bb];rfl
      rw[e]
      exact J 1 (by decide) I
     |some m=>
      rw[bb] at I
      simp only at I
      by_cases h3:(m.any fun q=>Bd.reserved q.1.data.toList)=true
      ·have e:Bd.dP (Bd.tm D k) sc s1.N [b,t]=(s1.N,0,101):=by unfold Bd.dP;simp only[hb,bb,h3];rfl
       rw[Fx h3] at I
       rw[e]
       exact J 101 (by decide) I
      rw[FQ h3] at I
      by_cases h4:Bd.twice (m.map (·.1))=true
      ·have e:Bd.dP (Bd.tm D k) sc s1.N [b,t]=(s1.N,0,4):=by unfold Bd.dP;simp only[hb,bb,GU.2 h3,h4];rfl
       rw[Fx h4] at I
       rw[e]
       exact J 4 (by decide) I
      rw[FQ h4] at I
      rw[Bd.oc (Bd.tm D k) sc s1.N b t hb bb (GU.2 h3) (GU.2 h4)]
      obtain⟨z1,z2⟩:=Bd.jd hL bb
      obtain⟨bx,bT,_⟩:=Bd.eK (f:=Bd.tm D k sc) (m.map (·.2)) s1.N hI fun y _ M hM av=>Bd.good D k y sc M hM (bo.ext av)
      cases ho:Bd.each (Bd.tm D k sc) s1.N (m.map (·.2)) with
      |mk N' q=>
       obtain⟨ids,e⟩:=q
       have hand:Bd.andThen (fun N=>Bd.each (Bd.tm D k sc) N (m.map (·.2))) (fun ids N=>Bd.tm D k (sc++List.zip (m.map (·.1)) ids) N t) 0 s1.N=if e=0 then Bd.tm D k (sc++List.zip (m.map (·.1)) ids) N' t else(N',0,e):=by
        unfold Bd.andThen
        simp only[ho]
       rw[hand]
       refine Mk.nested (k:=k) (sc:=sc) (T':=T) hl hf I bz a1 (by omega) a7 hm hI bo O V U b3 (fun y hy=>⟨hx y (z2 y hy),by have:=z2 y hy;omega⟩) (fun s3 s4 Q ao ad bE Z bD bC X=>?_) (fun he=>?_)
       ·rw[ho] at Q Z X
        simp only at Q Z X
        subst Z
        rw[Fx rfl]
        have i1:=bx.1
        have i2:=bx.2.1
        have i3:=(bT (by rw[ho])).1
        simp only[ho] at i1 i2 i3
        have b5:Bd.In N' ((sc++List.zip (m.map (·.1)) ids).map (·.2)):=by rw[Hf];exact(bo.ext i2).append (Bd.jU i3)
        have bp:=Bd.wY (Bd.tm D k (sc++List.zip (m.map (·.1)) ids)) N' t
        obtain⟨⟨j1,j2,_,_⟩,_⟩:=Bd.good D k t (sc++List.zip (m.map (·.1)) ids) N' i1 b5
        cases cx:Bd.tm D k (sc++List.zip (m.map (·.1)) ids) N' t with
        |mk cF q=>
         obtain⟨id,e⟩:=q
         rw[cx] at bp
         simp only at bp ⊢
         refine Mk.nested (k:=k) (sc:=sc++List.zip (m.map (·.1)) ids) (T':=T++[⟨List.zip (m.map (·.1)) ids,false,0⟩]) bD bC X ao (by show s4.sc++_=_;rw[ad]) (by rw[Gb];simp only[Im];omega)
          (by rw[List.reverse_append];exact⟨sc,a7,rfl⟩) bE (by rw[show({ s4 with sc:=s4.sc++[⟨List.zip (m.map (·.1)) ids,false,0⟩] }:Ms).N=N' from Q];exact i1) (by rw[show({ s4 with sc:=s4.sc++[⟨List.zip (m.map (·.1)) ids,false,0⟩] }:Ms).N=N' from Q];exact b5) O V U b3
          (fun y hy=>by rw[F0.1 hy];exact⟨hx t z1,by omega⟩) (fun s5 s6 b2 b9 bL cq b7 cl cj b1=>?_) (fun he=>?_)
         ·have b8:({ s4 with sc:=s4.sc++[⟨List.zip (m.map (·.1)) ids,false,0⟩] }:Ms).N=N':=Q
          rw[b8,bp] at b2 b7 b1
          by_cases he:e=0
          ·subst he
           rw[Fx rfl] at b2 b1
           simp only at b2 b1
           rw[<-b2]
           refine Mk.Ends.give cl cj (b1.trans rfl) b9 (by rw[bL,<-ba,FN]) (by rw[bL,Gb];omega) (by rw[bL,Gb];simp only[Im];omega) cq
          ·rw[FQ he] at b7
           exact absurd b7 he
         ·have b8:({ s4 with sc:=s4.sc++[⟨List.zip (m.map (·.1)) ids,false,0⟩] }:Ms).N=N':=Q
          rw[b8,bp] at he ⊢
          by_cases cf:e=0
          ·subst cf
           simp at he
          ·rw[FQ cf]
           exact⟨rfl,rfl⟩
       ·rw[ho] at he ⊢
        simp only at he ⊢
        rw[FQ he]
        exact⟨rfl,rfl⟩
    ·have e1:Bd.dP (Bd.tm D k) sc s1.N r=(s1.N,0,1):=by
      unfold Bd.dP
      split
      ·rename_i b t
       rw[Fx (GU.2 fun hb=>bn ⟨b,t,rfl,hb⟩)]
      ·rfl
     have e2:Mk.il s1 r=(s1,1):=by
      unfold Mk.il
      split
      ·rename_i b t
       rw[Fx (GU.2 fun hb=>bn ⟨b,t,rfl,hb⟩)]
      ·rfl
     rw[e1]
     exact J 1 (by decide) (I.trans e2)
   rw[FQ h2] at I ⊢
   by_cases h3:Bd.op h.T.data.toList r.length≠0
   ·rw[Fx h3] at I ⊢
    obtain⟨bx,bT,_⟩:=Bd.eK (f:=Bd.tm D k sc) r s1.N hI fun y _ M hM av=>Bd.good D k y sc M hM (bo.ext av)
    cases ho:Bd.each (Bd.tm D k sc) s1.N r with
    |mk N' q=>
     obtain⟨ids,e⟩:=q
     simp only
     refine Mk.nested (k:=k) (sc:=sc) (T':=T) hl hf I bz a1 (by omega) a7 hm hI bo O V U b3 ch (fun s3 s4 Q ao ad bE Z bD bC X=>?_) (fun he=>?_)
     ·rw[ho] at Q Z X
      simp only at Q Z X
      subst Z
      rw[Fx rfl,<-Q]
      have i1:=bx.1
      simp only[ho] at i1
      exact Mk.Ends.aO (o:=fun N=>Tm.app N (Bd.op h.T.data.toList r.length) ids) bD bC X ao (by rw[ad];exact cv) (by rw[ad];omega) (by rw[ad];omega) bE (by rw[Q];exact i1) (Bd.St.app _ ids (by rw[Q];exact i1))
     ·rw[ho] at he ⊢
      simp only at he ⊢
      rw[FQ he]
      exact⟨rfl,rfl⟩
   rw[FQ h3] at I ⊢
   by_cases h4:Bd.reserved h.T.data.toList=true
   ·rw[Fx h4] at I ⊢
    exact J 101 (by decide) I
   rw[FQ h4] at I ⊢
   rw[bP] at I
   cases cc:Bd.bound sc h.T with
   |some i=>
    rw[cc] at I
    exact J 100 (by decide) I
   |none=>
    rw[cc] at I
    rw[FQ (by decide)]
    cases hd:Bd.decl D h.T k with
    |none=>
     rw[hd] at I
     exact J 100 (by decide) I
    |some j=>
     rw[hd] at I
     simp only at I ⊢
     by_cases h6:(D[j]?.map (·.cL)).getD false=true
     ·rw[Fx h6] at I ⊢
      obtain⟨bx,bT,_⟩:=Bd.eK (f:=Bd.tm D k sc) r s1.N hI fun y _ M hM av=>Bd.good D k y sc M hM (bo.ext av)
      cases ho:Bd.each (Bd.tm D k sc) s1.N r with
      |mk N' q=>
       obtain⟨ids,e⟩:=q
       simp only
       refine Mk.nested (k:=k) (sc:=sc) (T':=T) hl hf I bz a1 (by omega) a7 hm hI bo O V U b3 ch (fun s3 s4 Q ao ad bE Z bD bC X=>?_) (fun he=>?_)
       ·rw[ho] at Q Z X
        simp only at Q Z X
        subst Z
        rw[Fx rfl,<-Q]
        have i1:=bx.1
        have i3:=(bT (by rw[ho])).1
        simp only[ho] at i1 i3
        exact Mk.called bD bC X ao ad ba b6 bE (by rw[Q];exact i1) (by rw[Q];exact i3) O V U (Bd.bK hd).1 (by have:=x.size_pos;omega) fun y=>hk j y (Bd.bK hd).1
       ·rw[ho] at he ⊢
        simp only at he ⊢
        rw[FQ he]
        exact⟨rfl,rfl⟩
     ·rw[FQ h6] at I ⊢
      exact J 100 (by decide) I
 ·rw[FQ b4]
  rw[FQ b4] at I
  unfold Bd.kf
  unfold Mk.atom at I
  by_cases h1:x.k=4
  ·rw[Fx h1] at I ⊢
   by_cases h2:j8 x.T.data.toList=true
   ·rw[Fx h2] at I ⊢
    exact ah (fun N=>Tm.num N (_root_.Go.Proofs.YtdbgiijdgedggaaGreatDoor.T.dv x.T.data.toList)) I (Bd.St.num _ hI)
   ·rw[FQ h2] at I ⊢
    exact J 101 (by decide) I
  rw[FQ h1] at I ⊢
  by_cases h2:x.k=6
  ·rw[Fx h2] at I ⊢
   exact ah (fun N=>Tm.str N (Lt.aA (Lt.ir x.T.data.toList)).2) I (Bd.St.str _ hI)
  rw[FQ h2] at I ⊢
  by_cases h3:x.k=3
  ·rw[Fx h3] at I ⊢
   unfold Bd.jA
   unfold Mk.name at I
   by_cases h4:x.T.data.toList=[116,114,117,101]\/x.T.data.toList=[102,97,108,115,101]
   ·rw[Fx h4] at I ⊢
    exact ah (fun N=>Tm.bool N (decide (x.T.data.toList=[116,114,117,101]))) I (Bd.St.bool _ hI)
   rw[FQ h4] at I ⊢
   by_cases h5:Bd.reserved x.T.data.toList=true
   ·rw[Fx h5] at I ⊢
    exact J 101 (by decide) I
   rw[FQ h5] at I ⊢
   rw[bP] at I
   cases hb:Bd.bound sc x.T with
   |some id=>
    rw[hb] at I
    exact Mk.Ends.give hl hf I bz ca hle cb hm
   |none=>
    rw[hb] at I
    simp only at I ⊢
    cases hd:Bd.decl D x.T k with
    |none=>
     rw[hd] at I
     exact J 100 (by decide) I
    |some j=>
     rw[hd] at I
     simp only at I ⊢
     cases hj:D[j]? with
     |none=>
      rw[hj] at I
      exact J 100 (by decide) I
     |some d=>
      rw[hj] at I
      simp only at I ⊢
      by_cases h6:d.cL=true
      ·rw[Fx h6] at I ⊢
       have bl:=Mk.called (A:=[]) hl hf I bz a1 ba b6 hm hI (fun p hp=>(FD hp).elim) O V U (Bd.bK hd).1 (by have:=x.size_pos;omega) fun y=>hk j y (Bd.bK hd).1
       by_cases h7:d.par=[]
       ·rw[Fx h7];exact bl
       ·rw[FQ h7]
        have e:Bd.fn D j [] s1.N=(s1.N,0,1):=by
         unfold Bd.fn Bd.fV
         rw[hj]
         simp only
         rw[Fx (by intro e;exact h7 (FV e.symm))]
        rw[e] at bl
        exact bl
      ·rw[FQ h6] at I ⊢
       exact ah (fun N=>Tm.const N d.name d.sort) I (Bd.St.const _ _ hI)
  ·rw[FQ h3] at I ⊢
   exact J 101 (by decide) I
def Mk.start (D:List Dc) (N:List Nd) (bh:Sc) (x:Sx):Ms:=⟨N,[],[⟨bh,true,D.length⟩],[⟨[x],[],.none,1,0⟩]⟩
theorem Mk.runs (D:List Dc) (N:List Nd) (sc:Sc) (x:Sx) (J:Tm.Inv N) (r:Bd.In N (sc.map (·.2))) (I:x.size+Mk.room D D.length<=4700):
  Mk.Ends D (Mk.start D N sc x) [] ⟨[x],[],.none,1,0⟩ [⟨sc,true,D.length⟩] (Bd.tm D D.length sc N x).1 [(Bd.tm D D.length sc N x).2.1] (Bd.tm D D.length sc N x).2.2:=
 Mk.Fa D D.length x (Mk.start D N sc x) [] ⟨[x],[],.none,1,0⟩ sc ⟨rfl,Fm _,by show 1<=4800;decide,⟨rfl,rfl⟩,Bd.ew.nil _ _,J,r,rfl,Fm _,Fm _,fun _ h=>(FD h).elim,Fz _⟩ rfl (by simp only[He];omega)
end Go.Proofs.YtdbgiijdgedggaaGreatDoor
namespace Go.Proofs.YtdbgiijdgedggaaGreatDoor
open Go.RowKit
theorem Am (w:World) (A:Option Addr) (n c:Nat) (l:List Nd) (s:ByteArray) (sort:Int) {G:Nat->Prop} (h:bO w G A n c l) (hn:n<=30000):
  Calls Tryz.prog 62 #[.slice A n c,.string s,.int .i64 sort] w fun e w'=>cO w G (Tm.const l s sort) e w':=by
 have hl:=h.len
 by_cases I:sort<1\/3<sort\/16384<s.size
 ·have J:Hid (cO w G (Tm.const l s sort) (.returned (.tuple #[.slice A n c,.int .i64 0,.int .i64 1])) w):=by
   show cO w G (Tm.const l s sort) _ w
   unfold Tm.const
   rw[Fx I]
   exact⟨⟨A,c,by rw[hl],by rw[hl];exact h.mono fun _=> .inl⟩,Gp _ _⟩
  generalize Tm.const l s sort=r at J
  clear h hl
  by_cases L:sort<1
  ·have d1:decide (sort<1)=true:=FW L
   clear I L
   go_enter Tryz.func62,Tryz.ntmps62
   go_wp2
   first|exact J.out|exact GD (by simp[results,Tryz.results62,go_sem]) rfl J.out
  have d1:decide (sort<1)=false:=Gq L
  by_cases O:3<sort
  ·have d2:decide (3<sort)=true:=FW O
   clear I L O
   go_enter Tryz.func62,Tryz.ntmps62
   go_wp2
   first|exact J.out|exact GD (by simp[results,Tryz.results62,go_sem]) rfl J.out
  have d2:decide (3<sort)=false:=Gq O
  have d3:decide ((16384:Int)<(s.size:Int))=true:=FW (by omega)
  have d4:decide (16384<s.size)=true:=FW (by omega)
  clear I L O
  go_enter Tryz.func62,Tryz.ntmps62
  go_wp2
  first|exact J.out|exact GD (by simp[results,Tryz.results62,go_sem]) rfl J.out
 ·have hc:Tm.const l s sort=Tm.add l ⟨1,sort,[],s,0,[]⟩:=by unfold Tm.const;rw[FQ I]
  rw[hc]
  have Q:=Gn (ke w A n c l ⟨none,0,0,false,none,0,0,none,0,0⟩ ⟨1,sort,[],s,0,[]⟩ h ⟨aH.nil _ _,⟨⟨[],aQ.dI _ _,rfl,Fm _,Fz _,Fz _⟩,rfl⟩,cd.nil _ _,⟨Fz _,Fz _,Fz _⟩,⟨Gs.zero _ _,Gs.zero _ _,Gs.zero _ _⟩⟩ hn)
  have d1:decide (sort<1)=false:=Gq (by omega)
  have d2:decide (3<sort)=false:=Gq (by omega)
  have d3:decide ((16384:Int)<(s.size:Int))=false:=Gq (by omega)
  have d4:decide (16384<s.size)=false:=Gq (by omega)
  generalize Tm.add l ⟨1,sort,[],s,0,[]⟩=r at Q
  clear h hl hc I
  go_enter Tryz.func62,Tryz.ntmps62
  go_wp2_with fail
  refine Q.out.mono ?_
  rintro e V ha
  have J:=Gn ha
  obtain⟨⟨U,c1,rfl,_⟩,_⟩:=ha
  clear Q
  go_wp2
  first|exact J.out|exact GD (by simp[results,Tryz.results62,go_sem]) rfl J.out
theorem CT (w:World) (A:Option Addr) (n c:Nat) (l:List Nd) (b:Bool) {G:Nat->Prop} (h:bO w G A n c l) (hn:n<=30000):
  Calls Tryz.prog 146 #[.slice A n c,.bool b] w fun e w'=>cO w G (Tm.bool l b) e w':=by
 have I:=Gn (ke w A n c l ⟨none,0,0,false,none,0,0,none,0,0⟩ ⟨if b=true then 2 else 3,1,[],ByteArray.empty,0,[]⟩ h ⟨aH.nil _ _,⟨⟨[],aQ.dI _ _,rfl,Fm _,Fz _,Fz _⟩,rfl⟩,cd.nil _ _,⟨Fz _,Fz _,Fz _⟩,⟨Gs.zero _ _,Gs.zero _ _,Gs.zero _ _⟩⟩ hn)
 unfold Tm.bool
 generalize Tm.add l ⟨if b=true then 2 else 3,1,[],ByteArray.empty,0,[]⟩=r at I
 clear h
 cases b
 all_goals
  go_enter Tryz.func146,Tryz.ntmps146
  go_wp2_with fail
  refine I.out.mono ?_
  rintro e O ha
  have J:=Gn ha
  obtain⟨⟨L,c1,rfl,_⟩,_⟩:=ha
  clear I
  go_wp2
  first|exact J.out|exact GD (by simp[results,Tryz.results146,go_sem]) rfl J.out
theorem Dy (w:World) (A:Option Addr) (n c:Nat) (l:List Nd) (C:Option Addr) (p f:Nat) (t:List (Int×Int)) {G:Nat->Prop} (h:bO w G A n c l) (ht:cd w C p t) (Z:Gs G C p) (hn:n<=30000) (hp:p<=1000000):
  Calls Tryz.prog 100 #[.slice A n c,.slice C p f] w fun e w'=>cO w G (Tm.str l t) e w':=by
 have L:=Gn (DC w C p f t ht)
 have hl:=h.len
 cases hb:Tx.ox t with
 |false=>
  have hs:Tm.str l t=(l,0,1):=by unfold Tm.str;rw[hb];rfl
  rw[hs]
  rw[hb] at L
  have U:Hid (∀ J,Below w.heap.size w J->cO w G (l,0,1) (.returned (.tuple #[.slice A n c,.int .i64 0,.int .i64 1])) J):=fun J I=>⟨⟨A,c,by rw[hl],by rw[hl];exact(h.below I).mono fun _=> .inl⟩,I⟩
  clear h ht hl hs hb
  go_enter Tryz.func100,Tryz.ntmps100
  go_wp2_with fail
  refine L.out.mono ?_
  rintro e J ⟨rfl,I⟩
  have X:=Gn (U.out J I)
  clear L U I
  go_wp2
  first|exact X.out|exact GD (by simp[results,Tryz.results100,go_sem]) rfl X.out
 |true=>
  have hs:Tm.str l t=Tm.add l ⟨5,3,[],ByteArray.empty,0,t⟩:=by unfold Tm.str;rw[hb];rfl
  rw[hs]
  rw[hb] at L
  have V:=Gn fun J (I:Below w.heap.size w J)=>ke J A n c l ⟨none,0,0,false,none,0,0,C,p,f⟩ ⟨5,3,[],ByteArray.empty,0,t⟩ (h.below I) ⟨aH.nil _ _,⟨⟨[],aQ.dI _ _,rfl,Fm _,Fz _,Fz _⟩,rfl⟩,ht.below I,⟨Fz _,Fz _,hp⟩,⟨Gs.zero _ _,Gs.zero _ _,Z⟩⟩ hn
  generalize Tm.add l ⟨5,3,[],ByteArray.empty,0,t⟩=r at V
  clear h ht hl hs hb
  go_enter Tryz.func100,Tryz.ntmps100
  go_wp2_with fail
  refine L.out.mono ?_
  rintro e J ⟨rfl,I⟩
  have O:=Gn (V.out J I)
  have Q:=Gn I
  clear L V I
  go_wp2_with fail
  refine O.out.mono ?_
  rintro e w2 ha
  have U:Hid (cO w G r e w2):=ha.up Q.out fun _=> .inl
  obtain⟨⟨A1,c1,rfl,_⟩,_⟩:=ha
  clear O Q
  go_wp2
  first|exact U.out|exact GD (by simp[results,Tryz.results100,go_sem]) rfl U.out
theorem ig {z:Int}:(Z.qK z<0)↔z<0:=by
 rcases Z.jR z with⟨r,h⟩|⟨r,h⟩|⟨r,h⟩ <;> rw[h] <;> omega
theorem aH.inside {w:World} {G:Nat->Prop} {A:Option Addr} {n:Nat} {l:List Int} (h:aH w A n l) (J:Gs G A n):Gs (fun k=>G k/\k<w.heap.size) A n:=fun a e hn=>by
 obtain⟨b,off,I,r,_⟩:=h.at_ hn
 refine⟨J a e hn,?_⟩
 rw[I] at e
 rw[<-Fk e]
 exact r
theorem cd.inside {w:World} {G:Nat->Prop} {A:Option Addr} {n:Nat} {l:List (Int×Int)} (h:cd w A n l) (J:Gs G A n):Gs (fun k=>G k/\k<w.heap.size) A n:=fun a e hn=>by
 obtain⟨b,off,I,r,_⟩:=h.at_ hn
 refine⟨J a e hn,?_⟩
 rw[I] at e
 rw[<-Fk e]
 exact r
theorem o9.inside {w:World} {G:Nat->Prop} {g:Bool} {A:Option Addr} {n c:Nat} {z:Int} (h:o9 w g A n c z) (L:Gs G A n):Gs (fun k=>G k/\k<w.heap.size) A n:=fun a e hn=>by
 obtain⟨⟨l,J,_⟩,_⟩:=h
 obtain⟨b,off,I,r,_⟩:=J.2.2 hn
 refine⟨L a e hn,?_⟩
 rw[I] at e
 rw[<-Fk e]
 exact r
theorem dk.inside {w:World} {G:Nat->Prop} {P:bJ} {x:Nd} (h:dk w G P x):dk w (fun k=>G k/\k<w.heap.size) P x:=
 ⟨h.a,h.num,h.str,h.few,h.a.inside h.g.1,h.num.inside h.g.2.1,h.str.inside h.g.2.2⟩
theorem bO.inside {w:World} {G:Nat->Prop} {A:Option Addr} {n c:Nat} {l:List Nd} (h:bO w G A n c l):bO w (fun k=>G k/\k<w.heap.size) A n c l:=
 ⟨h.len,fun a e hn=>by
  obtain⟨b,off,I,r,_⟩:=h.at_ hn
  refine⟨h.g a e hn,?_⟩
  rw[I] at e
  rw[<-Fk e]
  exact r,h.nil,fun hn=>by
  obtain⟨b,off,e,r,hc⟩:=h.at_ hn
  refine⟨b,off,e,r,fun i x O=>?_⟩
  obtain⟨P,J,L⟩:=hc i x O
  exact⟨P,J,L.inside⟩⟩
end Go.Proofs.YtdbgiijdgedggaaGreatDoor
