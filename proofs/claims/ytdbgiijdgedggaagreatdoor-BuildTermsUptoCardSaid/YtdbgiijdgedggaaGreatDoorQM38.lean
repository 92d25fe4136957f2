import Derived.Test.YtdbgiijdgedggaaGreatDoorQM37
set_option linter.unusedSimpArgs false
set_option linter.unusedVariables false
set_option maxRecDepth 100000
set_option maxHeartbeats 25600000
namespace Go.Proofs.YtdbgiijdgedggaaGreatDoor
open Go.RowKit
theorem Rf.aY.after {E:Rf.Env} {i S:Nat} {w J L:World} {Y I:Rf.Lay} {s:Rf.St} {O:List Nd} {m1:List Md} {r:bN} {rest:Nat} {e:Ending} (h:Rf.aY E i S J I ⟨O,s.k,s.sc,m1⟩ r rest e L) (hX:I.X=Y.X) (ht:ae (Rf.ag E Y) w J) (hf:∀ k,Rf.ag E I k->Rf.ag E Y k\/w.heap.size<=k) (hw:Rf.lf s m1):Rf.aY E i S w Y s r rest e L:=by
 obtain⟨Q,m',U,V,Z⟩:=h
 exact⟨Q,m',U.after hX ht hf,V,fun q hq=>(Z q hq).elim (hw q) .inr⟩
abbrev LC (wb b off n xc:Nat) (hl:Bool) (hk:Int) (hT:ByteArray) (W:World):Prop:=W.cell? ⟨wb,5,none⟩=some (.slice (some ⟨b,off,none⟩) n xc)/\b<W.heap.size/\W.cell? ⟨b,off,none⟩=some (.bool hl)/\W.cell? ⟨b,off+1,none⟩=some (.int .i64 hk)/\W.cell? ⟨b,off+2,none⟩=some (.string hT)
theorem AM (E:Rf.Env) (i S:Nat) (hE:Rf.Dj E i S) (w:World) (Y:Rf.Lay) (s:Rf.St) (rest:Nat) (x:Sx) (xA:Option Addr) (xc:Nat) (hx:x.list=true) (cR:∀ y,y.size<x.size->Rf.Term E i S s.k y) (hF:Rf.EJ E i S s.k) (h:Rf.aF E w Y s) (hO:Rf.Ok E.D E.n i S s (Bd.makes E.D i s.k x) rest)
  (ht:aJ w (fun b _=>¬Rf.ag E Y b) x xA xc) (cx:Sx.bH x) (b4:s.sc.length+x.size<=100000)
  (b6:∀ W r,Below w.heap.size w W->x.L.tail=r->Calls Tryz.prog 135 #[.pointer (some ⟨E.mb,0,none⟩),.slice (if xc=1 then xA else xA.map (·.add 6)) r.length (xc-1)] W fun e w'=>Rf.aY E i S w Y s (Bd.dP (Bd.tm E.D s.k) s.sc s.N r) rest e w'):
  Calls Tryz.prog 94 #[.pointer (some ⟨E.mb,0,none⟩),aX x xA xc] w fun e w'=>Rf.aY E i S w Y s (Bd.gD E.D s.k (Bd.fn E.D) (Bd.tm E.D s.k) s.sc s.N x.L) rest e w':=by
 obtain⟨W0,bE⟩:∃ W0,w.alloc (dr x xA xc)=W0:=⟨_,rfl⟩
 have ao:Below w.heap.size w W0:=by rw[<-bE];exact(Gp _ w).alloc (Fm _) _
 obtain⟨R,I⟩:∃ R,Bd.gD E.D s.k (Bd.fn E.D) (Bd.tm E.D s.k) s.sc s.N x.L=R:=⟨_,rfl⟩
 rw[I]
 have HR:=Gn h
 have HO:=Gn hO
 have av:=Gn ao
 obtain⟨xl,xk,xT,cX,xa,xL⟩:=x
 simp only at hx I
 subst hx
 unfold aX
 simp only
 have ad:∀ (W:World) (id er:Int),Below w.heap.size w W->er≠0->Rf.aY E i S w Y s (s.N,id,er) rest (.returned (.tuple #[.int .i64 id,.int .i64 er])) W:=fun W id er U he=>Rf.aY.same HR.out U fun e=>absurd e he
 cases xL with
 |nil=>
  have I:R=(s.N,0,1):=I.symm
  have HV:Hid (Rf.aY E i S w Y s R rest (.returned (.tuple #[.int .i64 0,.int .i64 1])) W0):=by rw[I];exact ad W0 0 1 ao (by decide)
  have dN:w.alloc (.cells #[.bool true,.int .i64 xk,.string xT,.int .i64 cX,.int .i64 xa,.slice xA 0 xc] 27)=W0:=bE
  have c5:W0.cell? ⟨w.heap.size,5,none⟩=some (.slice xA 0 xc):=by rw[<-bE];exact(aa.new w _ _).cell 5
  clear I ad b6 cR hF h hO ht cx b4 hE HR HO av ao bE
  go_enter Tryz.func94,Tryz.ntmps94
  go_wp2
  exact GD (by simp[results,Tryz.results94,go_sem]) rfl HV.out
 |cons hd r=>
  obtain⟨b,off,y,A',c',eP,hy,hs,hg,hle,ea⟩:=ht.tree.get (i:=0) (by simp)
  obtain rfl:hd=y:=by simpa using hy
  rw[Hx,Ho] at hs
  subst eP
  obtain⟨rn,V⟩:∃ rn,r.length=rn:=⟨_,rfl⟩
  obtain⟨p1,cF⟩:∃ p1,(if xc=1 then some (⟨b,off,none⟩:Addr) else(some (⟨b,off,none⟩:Addr)).map (·.add 6))=p1:=⟨_,rfl⟩
  have eA:rn+1<=xc:=by have:=ht.le.1;simp only[FG] at this;omega
  have hcut:∀ W:World,(Instr.slice 25 (.slice (some ⟨b,off,none⟩) (rn+1) xc) (some (.int .i64 1)) none none).run Tryz.prog W=.ok (.slice p1 rn (xc-1)) W:=fun W=>by
   rw[<-cF]
   exact zh W (by omega)
  have b5:au w (fun b _=>¬Rf.ag E Y b) p1 r:=by rw[<-cF];exact ht.tree.tq (by rw[V];exact eA)
  have cb:=hs.lt
  have bb:Hid (∀ W,Below W0.heap.size W0 W->LC w.heap.size b off (rn+1) xc hd.list hd.k hd.T W):=fun W U=>by
   have hb:=ao.trans (U.mono ao.size)
   have eO:aa W w.heap.size 27 _:=(ae.af (F:=fun _=>False) U).lies (by rw[<-bE];exact aa.new w _ _) id
   refine⟨?_,Fp cb hb.size,(hb.cell (p:=⟨b,off,none⟩) cb).trans hs.c0,(hb.cell (p:=⟨b,off+1,none⟩) cb).trans hs.c1,(hb.cell (p:=⟨b,off+2,none⟩) cb).trans hs.c2⟩
   have:=eO.cell 5
   simp only[FG,V] at this
   exact this
  have dN:w.alloc (.cells #[.bool true,.int .i64 xk,.string xT,.int .i64 cX,.int .i64 xa,.slice (some ⟨b,off,none⟩) (rn+1) xc] 27)=W0:=by rw[<-bE,<-V];rfl
  have eW:(0:Int)<((rn+1:Nat):Int):=by omega
  simp only[FG,V]
  obtain⟨c5,e0,d0,d1,d2⟩:=bb.out W0 (Gp _ _)
  obtain⟨hl,ca⟩:∃ hl,hd.list=hl:=⟨_,rfl⟩
  obtain⟨hk,cz⟩:∃ hk,hd.k=hk:=⟨_,rfl⟩
  obtain⟨hT,cy⟩:∃ hT,hd.T=hT:=⟨_,rfl⟩
  rw[ca] at d0 bb
  rw[cz] at d1 bb
  rw[cy] at d2 bb
  unfold Bd.gD at I
  simp only at I
  rw[ca,cz,cy,V] at I
  by_cases h1:hl=true\/hk≠3
  ·rw[Fx h1] at I
   subst I
   have HV:=Gn fun W (U:Below w.heap.size w W)=>ad W 0 101 U (by decide)
   have c7:hl=true\/(hl=false/\(hk != 3)=true):=by
    rcases h1 with h1|h1
    ·exact .inl h1
    ·cases hl with
     |true=>exact .inl rfl
     |false=>exact .inr ⟨rfl,by simpa using h1⟩
   clear ad b6 cR hF h hO ht cx b4 hE HR HO bb hcut b5 hs hg hle ea hy cF bE ao h1 ca cz cy V cb
   rcases c7 with rfl|⟨rfl,e1⟩
   all_goals
    go_enter Tryz.func94,Tryz.ntmps94
    go_wp2
    exact GD (by simp[results,Tryz.results94,go_sem]) rfl (HV.out _ av.out)
  ·rw[FQ h1] at I
   obtain rfl:hl=false:=by
    cases hl with
    |true=>exact absurd (.inl rfl) h1
    |false=>rfl
   obtain rfl:hk=3:=by
    by_cases e:hk=3
    ·exact e
    ·exact absurd (.inr e) h1
   clear h1
   have dd:∀ y∈r,y.size<(Sx.mk true xk xT cX xa (hd::r)).size:=fun y hy=>Sx.cV (Gd _ hy)
   have cc:rn<=1000:=by have:=cx.len;simp only[FG] at this;omega
   have cq:Bd.makes E.D i s.k ⟨true,xk,xT,cX,xa,hd::r⟩=Rf.wt E.D i s.k hT rn+Bd.bQ (Rf.wt E.D i s.k) r:=by
    unfold Bd.makes
    rw[Bd.ie _ rfl]
    simp only
    rw[Bd.head,Bd.bQ,Fx ⟨ca,cz⟩,Bd.vh _ ca,cy,V,FA]
   rw[cq] at hO
   have Q:Hid (∀ W,Below w.heap.size w W->Calls Tryz.prog 138 #[.pointer (some ⟨E.mb,0,none⟩),.slice p1 rn (xc-1)] W fun e w'=>∃ W',Below w.heap.size w W'/\Rf.Each E i S W' Y s (Bd.each (Bd.tm E.D s.k s.sc) s.N r) (Rf.wt E.D i s.k hT rn+rest) e w'):=fun W U=>
    (sU E i S W Y s (Rf.wt E.D i s.k hT rn+rest) p1 rn (xc-1) r (fun y hy=>⟨cR y (dd y hy),cx.all y (Gd _ hy),by have:=dd y hy;omega⟩) (HR.out.below U) ((show Rf.Ok E.D E.n i S s (Bd.bQ (Rf.wt E.D i s.k) r+Rf.wt E.D i s.k hT rn) rest by rw[Nat.add_comm];exact hO).shift rfl) (b5.kept U) V cc).mono fun e w' q=>⟨W,U,q⟩
   have cP:Hid (∀ W,Below w.heap.size w W->Calls Tryz.prog 135 #[.pointer (some ⟨E.mb,0,none⟩),.slice p1 rn (xc-1)] W fun e w'=>Rf.aY E i S w Y s (Bd.dP (Bd.tm E.D s.k) s.sc s.N r) rest e w'):=fun W U=>by
    have:=b6 W r U rfl
    rw[V,cF] at this
    exact this
   have bl:=Gn fun(W:World)=>jC hT rn W
   have bn:=Gn fun(W:World)=>gB hT W
   have J:=Gn ad
   have HE:=Gn hE
   have HF:=Gn hF
   clear cR b6 hF h hO ht cx hE hs hg hle ea hy cF b5 ad dd cq bE cb ca cz cy
   by_cases h2:hT.data.toList=[108,101,116]
   ·rw[Fx h2] at I
    have e1:(hT.toList == [108,101,116])=true:=by rw[GA,h2];rfl
    rw[I] at cP
    have HL:=Gn (cP.out W0 ao)
    clear Q cP bl bn J HE HF HR HO bb h2 I ao V cc b4 av
    go_enter Tryz.func94,Tryz.ntmps94
    go_wp2_with fail
    refine HL.out.mono ?_
    rintro e w1 ⟨rfl,v⟩
    have HV:Hid (Rf.aY E i S w Y s R rest (.returned (.tuple #[.int .i64 R.2.1,.int .i64 R.2.2])) w1):=⟨rfl,v⟩
    clear HL v
    go_wp2
    exact GD (by simp[results,Tryz.results94,go_sem]) rfl HV.out
   rw[FQ h2] at I
   have e1:(hT.toList == [108,101,116])=false:=by rw[GA];exact Gx.2 h2
   clear cP h2
   obtain⟨op,cE⟩:∃ op,Bd.op hT.data.toList rn=op:=⟨_,rfl⟩
   rw[cE] at I bl
   obtain⟨T,b7⟩:∃ T,Bd.each (Bd.tm E.D s.k s.sc) s.N r=T:=⟨_,rfl⟩
   rw[b7] at I Q
   obtain⟨N1,ids,er⟩:=T
   simp only at I
   by_cases h3:op≠0
   ·rw[Fx h3] at I
    have e2:(op == 0)=false:=Gx.2 h3
    have cf:Hid (∀ W1 O Y' m' A' n' c',Below w.heap.size w W1->Rf.aF E O Y' ⟨N1,s.k,s.sc,m'⟩->Y'.X=Y.X->ae (Rf.ag E Y) W1 O->(∀ k,Rf.ag E Y' k->Rf.ag E Y k\/W1.heap.size<=k)->Rf.lf s m'->er=0->Rf.Ok E.D E.n i S ⟨N1,s.k,s.sc,m'⟩ 0 (Rf.wt E.D i s.k hT rn+rest)->aH O A' n' ids->(A'=none->n'=0/\c'=0)->n'<=1000->
      Calls Tryz.prog 140 #[.slice Y'.bA N1.length Y'.bc,.int .i64 op,.slice A' n' c'] O fun e w3=>∃ (A:Option Addr) (c:Nat),e=.returned (.tuple #[.slice A R.1.length c,.int .i64 R.2.1,.int .i64 R.2.2])/\aa w3 E.mb 102 (Rf.cells E Y' ⟨N1,s.k,s.sc,m'⟩)/\Rf.aY E i S w Y s R rest (.returned (.tuple #[.int .i64 R.2.1,.int .i64 R.2.2])) (w3.setCell ⟨E.mb,0,none⟩ (.slice A R.1.length c))):=fun W1 O Y' m' A' n' c' U hr hX hT hf hw he b3 hn dO c8=>by
     rw[Fx he] at I
     have dS:=Bd.St.app op ids (N:=N1) b3.inv
     refine(D4 O Y'.bA N1.length Y'.bc N1 op A' n' c' ids hr.aO b3.inv hn dO (Fo b3.len (by decide)) c8).mono fun e w3 hq=>?_
     rw[I] at hq
     obtain⟨A,c,q1,q2,q3⟩:=Rf.dC (i:=i) (S:=S) (rest:=rest) hr ((b3.back rfl).less (Fz _)) (by rw[<-I];exact dS.1) (by rw[<-I];exact dS.2.1) (by rw[<-I];exact Tm.rN b3.len op ids) hq
     exact⟨A,c,q1,q2,q3.after hX ((ae.af U).trans hT fun _ e=> .inl e) (fun k hk=>(hf k hk).imp id fun e=>Fo U.size e) hw⟩
    have a1:Hid (∀ W1 O Y' m',Below w.heap.size w W1->Rf.aF E O Y' ⟨N1,s.k,s.sc,m'⟩->Y'.X=Y.X->ae (Rf.ag E Y) W1 O->(∀ k,Rf.ag E Y' k->Rf.ag E Y k\/W1.heap.size<=k)->Rf.lf s m'->er≠0->Rf.aY E i S w Y s R rest (.returned (.tuple #[.int .i64 0,.int .i64 er])) O):=fun W1 O Y' m' U hr hX hT hf hw he=>by
     rw[FQ he] at I
     rw[<-I]
     exact⟨rfl,m',⟨Y',hr,hX,(ae.af U).trans hT fun _ e=> .inl e,fun k hk=>(hf k hk).imp id fun e=>Fo U.size e⟩,fun e=>absurd e he,hw⟩
    clear bn J V I cc b4 cE b7 HE HF HR HO ao
    go_enter Tryz.func94,Tryz.ntmps94
    go_wp2_with fail
    refine(bl.out _).mono ?_
    rintro e w1 ⟨rfl,b1⟩
    have cl:=Gn (Q.out w1 (av.out.trans (b1.mono av.out.size)))
    clear bl Q b1 bb
    go_wp2_with fail
    refine cl.out.mono ?_
    rintro e O ⟨W1,bx,Y',m',A',n',c',rfl,r2,x2,t2,f2,bz,bB⟩
    simp only at r2 bB
    clear cl
    by_cases he:er=0
    ·obtain⟨o1,o2,_,o4,o5⟩:=bB he
     have HK:=Gn (cf.out W1 O Y' m' A' n' c' bx r2 x2 t2 f2 bz he o1 o2 o4 o5)
     obtain⟨m0,m1,m2,m3⟩:=r2.at_
     have e3:(er != 0)=false:=by rw[he];rfl
     clear cf a1 bx r2 x2 t2 f2 bz bB o1 o2 o4 o5 m1 m2 m3 h3 he
     go_wp2_with fail
     refine HK.out.mono ?_
     rintro e w3 ⟨A,c,rfl,hl,hv⟩
     have HP:=Gn (kB w3 E.mb _ _ _ _ hl A R.1.length c R.2.1 R.2.2)
     have HV:=Gn hv
     clear HK hl hv m0
     go_wp2_with fail
     refine HP.out.mono ?_
     rintro e w4 ⟨rfl,rfl⟩
     clear HP
     go_wp2
     exact GD (by simp[results,Tryz.results94,go_sem]) rfl HV.out
    ·have HV:=Gn (a1.out W1 O Y' m' bx r2 x2 t2 f2 bz he)
     have e3:(er != 0)=true:=by simpa using he
     clear cf a1 bx r2 x2 t2 f2 bz bB h3 he
     go_wp2
     exact GD (by simp[results,Tryz.results94,go_sem]) rfl HV.out
   ·rw[FQ h3] at I
    obtain rfl:op=0:=by
     by_cases e:op=0
     ·exact e
     ·exact absurd e h3
    clear h3
    by_cases h4:Bd.reserved hT.data.toList=true
    ·rw[Fx h4] at I
     subst I
     rw[h4] at bn
     clear Q V cc b4 cE b7 HE HF HR HO ao h4
     go_enter Tryz.func94,Tryz.ntmps94
     go_wp2_with fail
     refine(bl.out _).mono ?_
     rintro e w1 ⟨rfl,b1⟩
     have ba:=Gn (av.out.trans (b1.mono av.out.size))
     clear bl b1 bb
     go_wp2_with fail
     refine(bn.out _).mono ?_
     rintro e O ⟨rfl,b2⟩
     have HV:=Gn (J.out O 0 101 (ba.out.trans (b2.mono ba.out.size)) (by decide))
     clear bn b2 J
     go_wp2
     exact GD (by simp[results,Tryz.results94,go_sem]) rfl HV.out
    rw[FQ h4] at I
    have h4:Bd.reserved hT.data.toList=false:=by simpa using h4
    rw[h4] at bn
    have cN:s.sc.length<=1000000:=by omega
    have ch:=Gn fun(w1:World) (b1:Below w.heap.size w w1)=>qb w1 E.mb Y.iA s.sc.length Y.ic s.sc hT ((HR.out.below b1).at_.2.2.1) (HR.out.below b1).scope cN
    have cj:=Gn fun(w1:World) (b1:Below w.heap.size w w1)=>j7 w1 E.mb E.A E.n s.k E.c E.L hT ((HR.out.below b1).at_.2.1) (HR.out.below b1).decl HR.out.kn (by have:=HR.out.kn;have:=HE.out.n;omega)
    obtain⟨bo,c6⟩:∃ bo,Bd.bound s.sc hT=bo:=⟨_,rfl⟩
    obtain⟨dc,bL⟩:∃ dc,Bd.decl E.D hT s.k=dc:=⟨_,rfl⟩
    have cv:Bd.decl (E.L.map (·.2)) hT s.k=dc:=bL
    rw[c6] at I ch
    rw[cv] at cj
    rw[bL] at I
    by_cases a7:bo.isSome=true\/dc=none\/∃ j d,dc=some j/\E.D[j]?=some d/\d.cL=false
    ·have I:R=(s.N,0,100):=by
      rw[<-I]
      by_cases e:bo.isSome=true
      ·rw[Fx e]
      ·rw[FQ e]
       rcases a7 with h|rfl|⟨j,d,rfl,h5,h6⟩
       ·exact absurd h e
       ·rfl
       ·simp only
        rw[h5]
        simp[h6]
     subst I
     have en:bo.isSome=true\/(bo.isSome=false/\dc=none)\/(bo.isSome=false/\∃ j d,dc=some j/\E.D[j]?=some d/\d.cL=false):=by
      cases e:bo.isSome with
      |true=>exact .inl rfl
      |false=>
       rcases a7 with h|h|h
       ·rw[e] at h;cases h
       ·exact .inr (.inl ⟨rfl,h⟩)
       ·exact .inr (.inr ⟨rfl,h⟩)
     have bT:Hid (∀ (j:Nat) d W,dc=some j->E.D[j]?=some d->Below w.heap.size w W->∃ b2 ah sk,(j:Int)<(sk:Nat)/\W.cell? ⟨E.mb,1,none⟩=some (.slice (some ⟨b2,ah,none⟩) sk E.c)/\b2<W.heap.size/\W.cell? ⟨b2,ah+j*10+2,none⟩=some (.bool d.cL)):=fun j d W hj hd U=>by
      subst hj
      have e4:=(Bd.bK bL).1
      obtain⟨b2,ah,P,d',hA,hb,_,b8,_,hc⟩:=HR.out.decl.get (i:=j) (by have:=HR.out.kn;omega)
      obtain rfl:d'=d:=by have hd:(E.L.map (·.2))[j]?=some d:=hd;rw[hd] at b8;exact(Fk b8).symm
      have hm:=(HR.out.below U).at_.2.1
      rw[hA] at hm
      exact⟨b2,ah,s.k,by omega,hm,(hc W (ae.af U)).1,(hc W (ae.af U)).2 2 _ rfl⟩
     clear Q V cc b4 cE b7 HE HF HR HO ao h4 a7 c6 bL cv cN
     go_enter Tryz.func94,Tryz.ntmps94
     go_wp2_with fail
     refine(bl.out _).mono ?_
     rintro e w1 ⟨rfl,b1⟩
     have ba:=Gn (av.out.trans (b1.mono av.out.size))
     clear bl b1 bb
     go_wp2_with fail
     refine(bn.out _).mono ?_
     rintro e O ⟨rfl,b2⟩
     have Z:=Gn (ba.out.trans (b2.mono ba.out.size))
     have bC:=Gn (ch.out O Z.out)
     have bD:=Gn (cj.out O Z.out)
     clear bn b2 ch cj ba
     go_wp2_with fail
     refine bC.out.mono ?_
     rintro e w3 ⟨rfl,rfl⟩
     clear bC
     go_wp2_with fail
     refine bD.out.mono ?_
     rintro e w4 ⟨rfl,rfl⟩
     clear bD
     have HV:=Gn (J.out _ 0 100 Z.out (by decide))
     rcases en with h5|⟨h5,rfl⟩|⟨h5,j,d,rfl,h6,h7⟩
     ·clear J bT Z
      go_wp2
      exact GD (by simp[results,Tryz.results94,go_sem]) rfl HV.out
     ·clear J bT Z
      go_wp2
      exact GD (by simp[results,Tryz.results94,go_sem]) rfl HV.out
     ·obtain⟨b2,ah,sk,k1,k2,k3,k4⟩:=bT.out j d _ rfl h6 Z.out
      rw[h7] at k4
      have k5:decide ((j:Int)<0)=false:=Gq (by omega)
      have k6:(0:Int)<=(j:Int):=by omega
      clear J bT Z h6 h7
      go_wp2
      exact GD (by simp[results,Tryz.results94,go_sem]) rfl HV.out
    ·obtain⟨j,d,rfl,rfl,bp,b9⟩:∃ j d,bo=none/\dc=some j/\E.D[j]?=some d/\d.cL=true:=by
      cases bo with
      |some _=>exact absurd (.inl rfl) a7
      |none=>
       cases dc with
       |none=>exact absurd (.inr (.inl rfl)) a7
       |some j=>
        obtain⟨_,d,hd,_⟩:=Bd.bK bL
        cases hm:d.cL with
        |false=>exact absurd (.inr (.inr ⟨j,d,rfl,hd,hm⟩)) a7
        |true=>exact⟨j,d,rfl,rfl,hd,hm⟩
     have hj:=(Bd.bK bL).1
     rw[FQ (by simp)] at I
     simp only at I
     rw[bp,Fx (by simp[b9])] at I
     have cY:er=0->Bd.In N1 ids/\ids.length=rn:=fun he=>by
      have:=(Bd.eK (f:=Bd.tm E.D s.k s.sc) r s.N HO.out.inv fun y _ M hM hp=>Bd.good E.D s.k y s.sc M hM (HO.out.nV.ext hp)).2.1
      rw[b7] at this
      have:=this he
      rw[V] at this
      exact this
     have ev:d.par.length=rn->(if i<d.par.length then 1+Bd.body E.D i s.k j else 0)<=Rf.wt E.D i s.k hT rn:=fun e=>by
      unfold Rf.wt Bd.weight
      rw[bL]
      simp only
      rw[e]
      by_cases hi:i<rn
      ·rw[Fx hi,Fx ⟨by unfold Bd.arity;rw[bp];simp only;rw[Fx b9,e],hi⟩]
       exact Fm _
      ·rw[FQ hi]
       exact Fz _
     have bP:Hid (∀ W1 O Y' m' A' n' c',Below w.heap.size w W1->Rf.aF E O Y' ⟨N1,s.k,s.sc,m'⟩->Y'.X=Y.X->ae (Rf.ag E Y) W1 O->(∀ k,Rf.ag E Y' k->Rf.ag E Y k\/W1.heap.size<=k)->Rf.lf s m'->er=0->Rf.Ok E.D E.n i S ⟨N1,s.k,s.sc,m'⟩ 0 (Rf.wt E.D i s.k hT rn+rest)->aH O A' n' ids->Gs (Rf.free E Y') A' n'->n'<=1000->
       Calls Tryz.prog 139 #[.pointer (some ⟨E.mb,0,none⟩),.int .i64 (j:Int),.slice A' n' c'] O fun e w3=>Rf.aY E i S w Y s R rest e w3):=fun W1 O Y' m' A' n' c' U hr hX eD hf hw he b3 hn hg c8=>by
      rw[Fx he] at I
      obtain⟨i1,i2⟩:=cY he
      have:=tD E i S HE.out.room HE.out.cap O Y' ⟨N1,s.k,s.sc,m'⟩ (0+Rf.wt E.D i s.k hT rn) rest j A' n' c' ids d hj bp b9 (HF.out j d hj bp b9) (HE.out.fine d (FP bp)).1 (HE.out.fine d (FP bp)).2 HE.out.par hr (b3.back rfl) (fun e=>by rw[FA];exact ev (by omega)) hn hg c8 i1 HE.out.n
      rw[I] at this
      exact this.mono fun e w3 q=>q.after hX ((ae.af U).trans eD fun _ e=> .inl e) (fun k hk=>(hf k hk).imp id fun e=>Fo U.size e) hw
     have a1:Hid (∀ W1 O Y' m',Below w.heap.size w W1->Rf.aF E O Y' ⟨N1,s.k,s.sc,m'⟩->Y'.X=Y.X->ae (Rf.ag E Y) W1 O->(∀ k,Rf.ag E Y' k->Rf.ag E Y k\/W1.heap.size<=k)->Rf.lf s m'->er≠0->Rf.aY E i S w Y s R rest (.returned (.tuple #[.int .i64 0,.int .i64 er])) O):=fun W1 O Y' m' U hr hX hT hf hw he=>by
      rw[FQ he] at I
      rw[<-I]
      exact⟨rfl,m',⟨Y',hr,hX,(ae.af U).trans hT fun _ e=> .inl e,fun k hk=>(hf k hk).imp id fun e=>Fo U.size e⟩,fun e=>absurd e he,hw⟩
     obtain⟨b2,ah,P,d',hA,hb,_,b8,_,hc⟩:=HR.out.decl.get (i:=j) (by have:=HR.out.kn;omega)
     obtain rfl:d'=d:=by have bp:(E.L.map (·.2))[j]?=some d:=bp;rw[bp] at b8;exact(Fk b8).symm
     have bT:Hid (∀ W,Below w.heap.size w W->W.cell? ⟨E.mb,1,none⟩=some (.slice (some ⟨b2,ah,none⟩) s.k E.c)/\b2<W.heap.size/\W.cell? ⟨b2,ah+j*10+2,none⟩=some (.bool true)):=fun W U=>by
      have hm:=(HR.out.below U).at_.2.1
      rw[hA] at hm
      have h2:=(hc W (ae.af U)).2 2 _ rfl
      simp only[b9] at h2
      exact⟨hm,(hc W (ae.af U)).1,h2⟩
     have k1:(j:Int)<((s.k:Nat):Int):=by omega
     have k5:decide ((j:Int)<0)=false:=Gq (by omega)
     have k6:(0:Int)<=(j:Int):=by omega
     clear J I V cc b4 cE b7 HE HF HR HO ao h4 a7 c6 bL cv cN cY ev hA hb b8 hc bp b9 hj
     go_enter Tryz.func94,Tryz.ntmps94
     go_wp2_with fail
     refine(bl.out _).mono ?_
     rintro e w1 ⟨rfl,b1⟩
     have ba:=Gn (av.out.trans (b1.mono av.out.size))
     clear bl b1 bb
     go_wp2_with fail
     refine(bn.out _).mono ?_
     rintro e O ⟨rfl,dx⟩
     have Z:=Gn (ba.out.trans (dx.mono ba.out.size))
     have bC:=Gn (ch.out O Z.out)
     have bD:=Gn (cj.out O Z.out)
     obtain⟨q1,q2,q3⟩:=bT.out O Z.out
     have cl:=Gn (Q.out O Z.out)
     clear bn dx ch cj ba bT Q Z
     go_wp2_with fail
     refine bC.out.mono ?_
     rintro e w3 ⟨rfl,rfl⟩
     clear bC
     go_wp2_with fail
     refine bD.out.mono ?_
     rintro e w4 ⟨rfl,rfl⟩
     clear bD
     go_wp2_with fail
     refine cl.out.mono ?_
     rintro e w5 ⟨W1,bx,Y',m',A',n',c',rfl,r2,x2,t2,f2,bz,bB⟩
     simp only at r2 bB
     clear cl q1 q2 q3
     by_cases he:er=0
     ·obtain⟨o1,o2,o3,o4,o5⟩:=bB he
      have HK:=Gn (bP.out W1 w5 Y' m' A' n' c' bx r2 x2 t2 f2 bz he o1 o2 o3 o5)
      have e3:(er != 0)=false:=by rw[he];rfl
      clear bP a1 bx r2 x2 t2 f2 bz bB o1 o2 o3 o4 o5 he
      go_wp2_with fail
      refine HK.out.mono ?_
      rintro e w6 ⟨rfl,v⟩
      have HV:Hid (Rf.aY E i S w Y s R rest (.returned (.tuple #[.int .i64 R.2.1,.int .i64 R.2.2])) w6):=⟨rfl,v⟩
      clear HK v
      go_wp2
      exact GD (by simp[results,Tryz.results94,go_sem]) rfl HV.out
     ·have HV:=Gn (a1.out W1 w5 Y' m' bx r2 x2 t2 f2 bz he)
      have e3:(er != 0)=true:=by simpa using he
      clear bP a1 bx r2 x2 t2 f2 bz bB he
      go_wp2
      exact GD (by simp[results,Tryz.results94,go_sem]) rfl HV.out
theorem sI {l:List ByteArray} {a:Nat} {x:ByteArray} (h:(l.take a).Nodup) (I:l[a]?=some x) (hn:∀ t,t<a->l[t]?≠some x):(l.take (a+1)).Nodup:=by
 rw[take_one I,List.nodup_append]
 refine⟨h,by simp,fun y hy z hz e=>?_⟩
 rw[F0.1 hz] at e
 subst e
 obtain⟨t,ht⟩:=Ic hy
 rw[GQ] at ht
 split at ht
 ·rename_i r
  exact hn t r ht
 ·cases ht
theorem uZ {l:List ByteArray} {a k:Nat} {x:ByteArray} (h:l.Nodup) (J:k<a) (r:l[a]?=some x) (I:l[k]?=some x):False:=by
 have:=(List.getElem?_inj (Fg.1 r).1 h).1 (r.trans I.symm)
 omega
theorem yU (w:World) (A:Option Addr) (n c:Nat) (l:List ByteArray) {G:Nat->Prop} (h:Rd w G A n c (l.map .string)) (hn:n<=100000):
  Calls Tryz.prog 59 #[.slice A n c] w fun e w'=>e=.returned (.bool (Bd.twice l))/\Below w.heap.size w w':=by
 have X:=Gn fun(i:Nat) (hi:i<n)=>h.str (i:=i) hi
 have HL:Hid (l.length=n):=by have:=h.len;rw[Fi] at this;exact this
 obtain⟨R,hR⟩:∃ R,Bd.twice l=R:=⟨_,rfl⟩
 rw[hR]
 have Z:=Gn hR
 clear h hR
 go_enter Tryz.func59,Tryz.ntmps59
 go_wp2
 go_loopw [3] (fun iv wr=>∃ a:Nat,a<=n/\iv=.int .i64 (a:Nat)/\Hid (Below w.heap.size w wr/\(l.take a).Nodup)) (fun iv _=>n-(intOf iv).toNat)
 case atStart=>exact⟨0,Fz _,rfl,Gp _ _,List.nodup_nil⟩
 case round=>
  obtain⟨a,ha,rfl,L⟩:=hrel
  by_cases ad:a<n
  ·obtain⟨b,off,x,rfl,hx,hc⟩:=X.out a ad
   obtain⟨hB,I⟩:=L.out
   have V:=Gn hB
   have O:=Gn I
   have HX:=Gn hx
   have HC:=Gn hc
   have ba:(a:Int)<(n:Int):=by omega
   have a7:(0:Int)<=(a:Int):=by omega
   have bb:IntKind.i64.wrap ((a:Int)+1)=(a:Int)+1:=GR _ (by omega)
   clear L hB I hx hc
   go_wp2
   obtain⟨wo,rfl⟩:∃ wo,wo=wr:=⟨_,rfl⟩
   go_loopw [4] (fun kv wr=>∃ k:Nat,k<=a/\kv=.int .i64 (k:Nat)/\Hid (Below w.heap.size w wr/\∀ t,t<k->l[t]?≠some x)) (fun kv _=>a-(intOf kv).toNat)
   case atStart=>exact⟨0,Fz _,rfl,V.out,fun t ht=>absurd ht (Gv _)⟩
   case round=>
    obtain⟨k,hk,rfl,L⟩:=hrel
    by_cases ao:k<a
    ·obtain⟨b',a1,y,e,hy,U⟩:=X.out k (by omega)
     injection e with e
     injection e with e1 e2 _
     subst e1
     subst e2
     obtain⟨r,J⟩:=L.out
     obtain⟨q0,q1⟩:=HC.out wr r
     have q2:=(U wr r).2
     have bn:(k:Int)<(n:Int):=by omega
     have av:(k:Int)<(a:Int):=by omega
     have bl:(0:Int)<=(k:Int):=by omega
     have bo:IntKind.i64.wrap ((k:Int)+1)=(k:Int)+1:=GR _ (by omega)
     have Q:=Gn r
     by_cases he:x=y
     ·subst he
      have hr:R=true:=by
       rw[<-Z.out,Bd.dM]
       exact FW fun h=>uZ h ao HX.out hy
      subst hr
      clear L X HL Z O HX HC V r J hy U
      go_wp2_with fail
      go_quiet (fail)
      go_wp2
      go_ret
      exact⟨rfl,below_drewN Q.out nq⟩
     ·have d1:=sw he
      have ah:Hid (∀ t,t<k+1->l[t]?≠some x):=fun t ht e=>by
       rcases GX t k with h1|h1
       ·exact J t h1 e
       ·obtain rfl:t=k:=by omega
        rw[hy] at e
        exact he (Fk e).symm
      clear L X HL Z O HX HC V r J hy U he
      go_wp2_with fail
      go_quiet (fail)
      have hD:=below_drewN Q.out nq
      have HD:=Gn hD
      clear hD Q
      generalize wr.drewN nq=D at HD ⊢
      clear q0 q1 q2
      go_wp2
      go_roundw
      case rel=>exact⟨k+1,by omega,by go_num,HD.out,ah.out⟩
      case measure=>simp[intOf];omega
    ·obtain rfl:k=a:=by omega
     obtain⟨r,J⟩:=L.out
     have HN:=Gn (Ig r (sI O.out HX.out J))
     clear L r J X HL Z O HX HC V
     go_wp2
     go_roundw
     case rel=>exact⟨k+1,by omega,by go_num,HN.out⟩
     case measure=>simp[intOf];omega
  ·obtain rfl:a=n:=by omega
   obtain⟨hB,I⟩:=L.out
   have hr:R=false:=by
    rw[<-Z.out,Bd.dM]
    rw[Gr (by have:=HL.out;omega)] at I
    exact Gq fun h=>h I
   subst hr
   have V:=Gn hB
   clear L hB I X HL Z ad
   go_wp2
   go_ret
   exact⟨rfl,V.out⟩
theorem Num.ED {w:World} {v:Value} {N:Nat} (h:Num w v N) {k:Nat} (U:k<=900) (Q:N<M.BB^k):∃ A n c,v=.slice A n c/\In w A n c N/\n<=2000:=by
 obtain⟨A,n,c,l,rfl,r,J,I,L,O⟩:=h
 have:n<=k:=M.ep J r.1 (by rw[I];exact Q)
 exact⟨A,n,c,rfl,⟨l,r,I,L,O,by omega⟩,by omega⟩
theorem CF (w:World) (A:Option Addr) (n c:Nat) (l:List Nd) (g:Bool) (B:Option Addr) (m d:Nat) (z:Int) {G:Nat->Prop} (h:bO w G A n c l) (hz:o9 w g B m d z) (k:Nat) (hk:k<=900) (hn:n<=30000) (hm:m<=k):
  Calls Tryz.prog 96 #[.slice A n c,.agg #[.bool g,.slice B m d]] w fun e w'=>cO w G (Tm.num l z) e w':=by
 obtain⟨V,bl⟩:∃ V,w.alloc (.cells #[.bool g,.slice B m d] 47)=V:=⟨_,rfl⟩
 have B0:Below w.heap.size w V:=by rw[<-bl];exact(Gp _ w).alloc (Fm _) _
 have L0:aa V w.heap.size 47 #[.bool g,.slice B m d]:=by rw[<-bl];exact aa.new w _ _
 have HS:=Gn (Bj g B m d z V (hz.below B0) (by omega))
 have hl:=h.len
 have ah:z.natAbs<M.BB^k:=by
  obtain⟨⟨l,h1,h2,h3,h4,_⟩,_⟩:=hz
  have:=(Ei (k:=k) h1 h3 h4 hm (by omega)).2
  rwa [h2] at this
 have HL:=Gn ah
 have Q:=Gn B0
 have c0:V.cell? ⟨w.heap.size,0,none⟩=some (.bool g):=by rw[L0.cell];rfl
 have c1:V.cell? ⟨w.heap.size,1,none⟩=some (.slice B m d):=by rw[L0.cell];rfl
 have a7:=Gn L0
 obtain⟨sg,O⟩:∃ sg,Z.qK z=sg:=⟨_,rfl⟩
 rw[O] at HS
 by_cases I:z<0
 ·have hs:Tm.num l z=(l,0,1):=by unfold Tm.num;rw[Fx I]
  rw[hs]
  have d1:decide (sg<0)=true:=FW (by rw[<-O];exact ig.2 I)
  have HE:Hid (∀ J,Below w.heap.size w J->cO w G (l,0,1) (.returned (.tuple #[.slice A n c,.int .i64 0,.int .i64 1])) J):=fun J L=>⟨⟨A,c,by rw[hl],by rw[hl];exact(h.below L).mono fun _=> .inl⟩,L⟩
  clear h hz B0 L0 hl ah hs I O
  go_enter Tryz.func96,Tryz.ntmps96
  go_wp2_with fail
  refine HS.out.mono ?_
  rintro e J ⟨rfl,L⟩
  have HF:=Gn (HE.out J (Q.out.trans (L.mono Q.out.size)))
  clear HS HE L
  go_wp2
  first|exact HF.out|exact GD (by simp[results,Tryz.results96,go_sem]) rfl HF.out
 ·have hs:Tm.num l z=Tm.add l ⟨4,2,[],ByteArray.empty,z.natAbs,[]⟩:=by unfold Tm.num;rw[FQ I]
  rw[hs]
  have d1:decide (sg<0)=false:=Gq (by rw[<-O];exact fun e=>I (ig.1 e))
  have bb:=Gn fun J (L:Below V.heap.size V J)=>sf (A:=B) (n:=m) (c:=d) ((hz.below B0).below L).1 (by omega)
  have HA:Hid (∀ J A5 X c5,Below w.heap.size w J->In J A5 X c5 z.natAbs->X<=2000->Gs (fun k=>G k\/w.heap.size<=k) A5 X->Calls Tryz.prog 105 #[.slice A n c,.agg #[.int .i64 4,.int .i64 2,.slice none 0 0,.string ⟨#[]⟩,.bool false,.slice A5 X c5,.slice none 0 0]] J fun e w'=>cO J (fun k=>G k\/w.heap.size<=k) (Tm.add l ⟨4,2,[],ByteArray.empty,z.natAbs,[]⟩) e w'):=fun J A5 X c5 L h5 ao bo=>
   ke J A n c l ⟨none,0,0,false,A5,X,c5,none,0,0⟩ ⟨4,2,[],ByteArray.empty,z.natAbs,[]⟩ ((h.below L).mono fun _=> .inl) ⟨aH.nil _ _,⟨by simpa using h5,by simp[Z.kx]⟩,cd.nil _ _,⟨Fz _,ao,Fz _⟩,⟨Gs.zero _ _,bo,Gs.zero _ _⟩⟩ hn
  generalize Tm.add l ⟨4,2,[],ByteArray.empty,z.natAbs,[]⟩=r at HA
  clear h hz B0 L0 hl ah hs I O
  go_enter Tryz.func96,Tryz.ntmps96
  go_wp2_with fail
  refine HS.out.mono ?_
  rintro e J ⟨rfl,L⟩
  have k0:aa J w.heap.size 47 #[.bool g,.slice B m d]:=(L.block _ a7.out.lt).trans a7.out
  have k1:J.cell? ⟨w.heap.size,1,none⟩=some (.slice B m d):=by rw[k0.cell];rfl
  clear k0
  have ba:=Gn (bb.out J L)
  have U:=Gn (Q.out.trans (L.mono Q.out.size))
  clear HS bb L c0 c1
  go_wp2_with fail
  refine ba.out.mono ?_
  rintro e w2 ⟨v,rfl,hv,b2,bn⟩
  obtain⟨A5,X,c5,rfl,h5,ao⟩:=hv.ED hk HL.out
  have a1:=Gn (U.out.trans (b2.mono U.out.size))
  have av:=Gn (HA.out w2 A5 X c5 a1.out h5 ao fun ad e _=> .inr (Fo U.out.size (bn ad.block (by rw[e];rfl))))
  clear ba HA hv b2 h5 k1 bn
  go_wp2_with fail
  refine av.out.mono ?_
  rintro e w3 ha
  have HE:Hid (cO w G r e w3):=ha.up a1.out fun _=>id
  obtain⟨⟨A1,c1,rfl,_⟩,_⟩:=ha
  clear av U
  go_wp2
  first|exact HE.out|exact GD (by simp[results,Tryz.results96,go_sem]) rfl HE.out
theorem mi (w:World) (ty:TypeId) (B:Nat) (A:Option Addr) (c:Nat) (l:List (Int×Int)) (n:Nat) (hn:l.length=n) (d:Int×Int) (g:Nat) (V:w.heap.size=g) (h:bj w B A c l) (hl:n<=2000000) (hB:B<=w.heap.size):
  ∃ A' I w',(Builtin.append_ #[48,48] ty #[.slice A n c,.slice (some ⟨g,0,none⟩) 1 1]).run Tryz.prog (w.alloc (.cells #[.int .i64 d.1,.int .i64 d.2] 122))=.ok (.slice A' (n+1) I) w'/\bj w' B A' I (l++[d])/\w.grownBy w' (Value.slice A n c).ownBlock:=by
 subst hn
 subst V
 obtain⟨i0,hi,L,O,Q⟩:=Gj wa
 obtain⟨v',w',Z,U,r,_,_⟩:=Fy (P:=Tryz.prog) (w.alloc (.cells #[.int .i64 d.1,.int .i64 d.2] 122)) B 48 ty 122 i0 (.agg #[.int .i64 0,.int .i64 0]) 2 16 Tryz.underlying48 hi L O Q rfl (by decide) (.slice A l.length c) l.length (aK l)
  (Gk h _) ⟨w.heap.size,0,none⟩ 1 1 [.int .i64 d.1,.int .i64 d.2] rfl (cell_two_new _ _ _ _) (fun u hu=>rJ [d] u (by simpa [aK] using hu)) (by unfold maxLen;omega) (by omega) (by simp;omega)
 obtain⟨A',I,rfl⟩:=aI U
 refine⟨A',I,w',Z,?_,⟨r.os,r.tape,r.output,Fo (by simp) r.size,fun k X J=>(r.block k (by simp;omega) J).trans (Fq w _ k X)⟩⟩
 have e:aK l++[.int .i64 d.1,.int .i64 d.2]=aK (l++[d]):=by simp[aK]
 rw[e] at U
 unfold bj
 rw[Gb]
 exact U
theorem ny (w:World) {ops:Array Oper} {rest:List Oper} {o:Oper} {a:Act} {Q:Exit->Act->World->Prop} (J:o.guard=none) (s x:Operand)
  (Z:o.op=.call { callee:=.builtin .append,args:=#[s,x],argTypes:=#[48,48] }) (B:Nat) (A:Option Addr) (c:Nat) (l:List (Int×Int)) (n:Nat) (hn:l.length=n) (d1 d2:Int) (g:Nat) (X:w.heap.size=g)
  (hs:a.eval s=.slice A n c) (r:bj w B A c l) (hx:a.eval x=.slice (some ⟨g,0,none⟩) 1 1) (hl:n<=2000000) (U:B<=w.heap.size)
  (h:∀ A' I w',bj w' B A' I (l++[(d1,d2)])->w.grownBy w' (Value.slice A n c).ownBlock->wpList Tryz.prog ops Q rest (a.put o.dst (.slice A' (n+1) I)) w'):
  wpList Tryz.prog ops Q (o::rest) a (w.alloc (.cells #[.int .i64 d1,.int .i64 d2] 122)):=by
 refine wpList_plain J fun K V=>?_
 obtain⟨A',I,w',hr,L,O⟩:=mi w o.type B A c l n hn (d1,d2) g X r hl U
 unfold Oper.wp execOp
 simp only[Z,resolve,invoke,builtin,Sem.run_bind,Sem.run_pure,Result.andThen_ok,List.map_toArray,GK,GL,hs,hx,hr]
 exact V _ _ (h A' I w' L O)
theorem AQ (w:World) (A:Option Addr) (n c:Nat) (l:List Int) (h:aH w A n l) (hn:n<=1100000):
  Calls Tryz.prog 98 #[.slice A n c] w fun e w'=>aU w (Lt.aA l) e w':=by
 obtain⟨bn,V⟩:∃ bn:Ending->World->Prop,bn=fun e w'=>aU w (Lt.aA l) e w':=⟨_,rfl⟩
 rw[<-V]
 have ah:=Gn V
 have HH:=Gn h
 clear V h
 go_enter Tryz.func98,Tryz.ntmps98
 go_wp2
 go_loopw [4,5] (fun ov iv wr=>∃ (i m:Nat) (A':Option Addr) (c':Nat) (R:List (Int×Int)),i<=n/\m<=i/\iv=.int .i64 (i:Nat)/\ov=.slice A' m c'/\Hid (Below w.heap.size w wr/\bj wr w.heap.size A' c' R/\R.length=m/\R=Lt.runs (l.take i)/\∀ z∈l.take i,Lt.pt z=true)) (fun _ iv _=>n-(intOf iv).toNat)
 case atStart=>exact⟨0,0,none,0,[],Fz _,Fm _,rfl,rfl,Gp _ _,bj.nil _ _,rfl,rfl,fun _ hz=>absurd hz FD⟩
 case round=>
  obtain⟨i,m,A',c',R,hi,cx,rfl,rfl,HI⟩:=hrel
  obtain⟨r,O,I,J,U⟩:=HI.out
  have HB:=Gn r
  have HO:=Gn O
  have HM:=Gn I
  have b9:w.heap.size<=wr.heap.size:=r.size
  by_cases b1:i<n
  ·obtain⟨b,off,z,rfl,hz,Q,_,hc⟩:=HH.out.get b1
   obtain⟨q1,q2⟩:=hc wr r
   have HC:=Gn hc
   have b7:(i:Int)<(n:Int):=by omega
   have h0:(0:Int)<=(i:Int):=by omega
   have ao:=Gn (ze z wr)
   cases hp:Lt.pt z with
   |false=>
    have Z:=aU.bad (Lt.all_false Q hp) r
    rw[<-Lt.qT (Lt.all_false Q hp)] at Z
    replace Z:=Gn Z
    rw[hp] at ao
    clear r O I J U HI hz Q hc hp HC HO
    go_wp2_with (go_at_call 144;refine ao.out.mono ?_;rintro e w1 ⟨rfl,rfl⟩)
    first
     |(rw[ah.out];exact Z.out)
     |exact GD (by simp[results,Tryz.results98,go_sem]) rfl (by rw[ah.out];exact Z.out)
   |true=>
    rw[hp] at ao
    have a1:Hid (∀ y∈l.take (i+1),Lt.pt y=true):=by
     intro y hy
     rw[take_one hz] at hy
     rcases F7.1 hy with hy|hy
     ·exact U y hy
     ·rw[F0.1 hy]
      exact hp
    have L:Hid (∀ k,Below w.heap.size w (wr.drewN k)):=fun k=>r.trans ((ae.none_ ((ae.refl (fun _=>False) wr).drewN k) (fun _=>id)).mono r.size)
    have ad:Hid (∀ k,bj (wr.drewN k) w.heap.size A' c' R):=fun k=>O.kept (ae.none_ ((ae.refl (fun _=>False) wr).drewN k) (fun _=>id))
    have bp:Hid (∀ k,b<(wr.drewN k).heap.size/\(wr.drewN k).cell? ⟨b,off+i,none⟩=some (.int .i64 z)):=fun k=>hc _ (L.out k)
    have av:Lt.runs (l.take (i+1))=Lt.dy (Lt.runs (l.take i)) z:=by rw[take_one hz,Lt.fh]
    by_cases bl:i=0
    ·have hR:R=[]:=by rw[J,bl];rfl
     subst hR
     obtain rfl:m=0:=I.symm
     have cz:¬0<i:=by omega
     have a7:Hid ([]++[(z,(1:Int))]=Lt.runs (l.take (i+1))):=by
      show _=_
      rw[av,<-J]
      rfl
     clear r O I J U HI hz Q hc hp av HC bl
     go_wp2_with (go_at_call 144;refine ao.out.mono ?_;rintro e w1 ⟨rfl,rfl⟩)
     go_quiet (fail)
     obtain⟨r1,r2⟩:=bp.out nq
     go_wp2_with (at_builtin;refine ny _ rfl (.tmp 48) (.tmp 54) rfl w.heap.size A' c' [] 0 rfl z 1 _ (by simp) rfl (ad.out nq) rfl (by omega) (L.out nq).size ?_;intro A3 c3 w3 o3 g3;have O3:=Gn o3;have B3:=Gn ((L.out nq).grown g3 (L.out nq).size (fun q hq=>((ad.out nq).lt rfl hq).1));clear o3 g3)
     go_roundw
     case rel=>exact⟨i+1,1,A3,c3,[]++[(z,1)],by omega,by omega,by go_num,rfl,B3.out,O3.out,rfl,a7.out,a1.out⟩
     case measure=>simp[intOf];omega
    ·obtain⟨j,hj⟩:∃ j,i=j+1:=⟨i-1,by omega⟩
     obtain⟨b',b8,y,e,hy,_,_,bx⟩:=HH.out.get (i:=j) (by omega)
     injection e with e
     injection e with e1 e2
     subst e1
     subst e2
     obtain⟨_,q3⟩:=bx wr r
     obtain⟨S,k,hS,bL,cl,cq⟩:=Lt.mJ hy
     rw[hj,hS] at J
     subst J
     have bP:S.length+1=m:=by simpa using I
     have cb:(i:Int)-1=(j:Int):=by omega
     have cc:0<i:=by omega
     have cj:(j:Int)<(n:Int):=by omega
     have ch:(0:Int)<=(j:Int):=by omega
     obtain⟨sl,bb⟩:∃ sl,S.length=sl:=⟨_,rfl⟩
     have bE:=Gn bb
     obtain⟨g,hg,ca,b6,c0,c1,cf,b4,bo⟩:=bj.last bb O
     subst hg
     have cv:(m:Int)-1=(sl:Int):=by omega
     have b3:sl+1=m:=by omega
     subst b3
     by_cases bB:y=z
     ·subst bB
      have a7:Hid (S++[(y,k+1)]=Lt.runs (l.take (i+1))):=by
       show _=_
       rw[av,hj,hS,Lt.gz]
      have bD:Hid (∀ nq:Nat,∀ k',bj ((wr.drewN nq).setCell ⟨g,sl*2+1,none⟩ (.int .i64 k')) w.heap.size (some ⟨g,0,none⟩) c' (S++[(y,k')])/\Below w.heap.size w ((wr.drewN nq).setCell ⟨g,sl*2+1,none⟩ (.int .i64 k'))):=fun nq k'=>by
       obtain⟨g',e',b5,_,_,_,_,_,bT⟩:=bj.last bE.out (ad.out nq)
       injection e' with e'
       injection e' with e' _
       subst e'
       exact⟨(bT k').1,(L.out nq).grown (bT k').2 (L.out nq).size (fun q hq=>by injection hq with hq;omega)⟩
      have bC:Hid ((S++[(y,k+1)]).length=sl+1):=by
       show _=_
       rw[<-bb]
       simp
      clear r O I U HI hz Q hc hp av HC bl hy bx hS bL bo hj HO HM bP bb ad L bp
      go_wp2_with (go_at_call 144;refine ao.out.mono ?_;rintro e w1 ⟨rfl,rfl⟩)
      go_quiet (fail)
      go_wp2
      go_roundw
      case rel=>exact⟨i+1,sl+1,some ⟨g,0,none⟩,c',S++[(y,k+1)],by omega,by omega,by go_num,rfl,(bD.out nq _).2,(bD.out nq _).1,bC.out,a7.out,a1.out⟩
      case measure=>simp[intOf];omega
     ·have cy:(y == z)=false:=Gx.2 bB
      have a7:Hid (S++[(y,k)]++[(z,1)]=Lt.runs (l.take (i+1))):=by
       show _=_
       rw[av,hj,hS,Lt.iP S k bB]
      clear r O I U HI hz Q hc hp av HC bl hy bx hS bL bo hj HO bE bP bb c0 c1 cf
      go_wp2_with (go_at_call 144;refine ao.out.mono ?_;rintro e w1 ⟨rfl,rfl⟩)
      go_quiet (fail)
      obtain⟨r1,r2⟩:=bp.out nq
      go_wp2_with (at_builtin;refine ny _ rfl (.tmp 48) (.tmp 54) rfl w.heap.size (some ⟨g,0,none⟩) c' (S++[(y,k)]) (sl+1) HM.out z 1 _ (by simp) rfl (ad.out nq) rfl (by omega) (L.out nq).size ?_;intro A3 c3 w3 o3 g3;have O3:=Gn o3;have B3:=Gn ((L.out nq).grown g3 (L.out nq).size (fun q hq=>((ad.out nq).lt HM.out hq).1));clear o3 g3)
      go_roundw
      case rel=>exact⟨i+1,sl+2,A3,c3,S++[(y,k)]++[(z,1)],by omega,by omega,by go_num,rfl,B3.out,O3.out,by rw[Gb,HM.out];rfl,a7.out,a1.out⟩
      case measure=>simp[intOf];omega
  ·obtain rfl:i=n:=by omega
   have bz:l.take i=l:=Gr (by rw[HH.out.len];exact Fm _)
   rw[bz] at J U
   have ba:l.all Lt.pt=true:=Gt.2 U
   by_cases X:65536<m
   ·have b2:decide ((65536:Int)<(m:Int))=true:=FW (by omega)
    have Z:Hid (aU w (Lt.aA l) (.returned (.tuple #[.slice none 0 0,.int .i64 2])) wr):=by
     rw[Lt.nG ba (by rw[<-J,I];exact X)]
     exact⟨⟨none,0,rfl,bj.nil _ _⟩,r⟩
    clear r O I J U HI bz HO ba X
    go_wp2
    first
     |(rw[ah.out];exact Z.out)
     |exact GD (by simp[results,Tryz.results98,go_sem]) rfl (by rw[ah.out];exact Z.out)
   ·have Z:=aU.good ba J I O r
    rw[<-Lt.nk ba (by rw[<-J,I];omega)] at Z
    replace Z:=Gn Z
    have b2:decide ((65536:Int)<(m:Int))=false:=Gq (by omega)
    clear r O I J U HI bz HO ba X
    go_wp2
    first
     |(rw[ah.out];exact Z.out)
     |exact GD (by simp[results,Tryz.results98,go_sem]) rfl (by rw[ah.out];exact Z.out)
end Go.Proofs.YtdbgiijdgedggaaGreatDoor
