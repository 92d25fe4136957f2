import Derived.Test.YtdbgiijdgedggaaGreatDoorQM24
set_option linter.unusedSimpArgs false
set_option linter.unusedVariables false
set_option maxRecDepth 100000
set_option maxHeartbeats 25600000
namespace Go.Proofs.YtdbgiijdgedggaaGreatDoor
open Go.RowKit
theorem xe {α:Type} {p:α->Bool} {l:List α} {i:Nat} {x:α} (h:l[i]?=some x):(l.take (i+1)).any p=((l.take i).any p||p x):=by rw[take_one h,List.any_append];simp
theorem BF (E:Mk.Env) (hE:E.Ok) (w:World) (M:Nat) (Y:Mk.Lay) (s:Ms) (bs:List Fr) (f:Fr) (j:Nat) (A:Option Addr) (n c:Nat) (l:List Int) (h:Mk.aF E w M Y s) (hf:s.fr=bs++[f]) (hs:Mk.Small s) (hj:j<E.n) (hA:aH w A n l) (hw:∀ z∈l,0<=z/\z<=30000) (hn:n<=1000)
  (c8:∀ d,E.D[j]?=some d->d.par.length<=1000/\∀ p∈d.par,p.1.size<=maxLen):
  Calls Tryz.prog 240 #[.pointer (some ⟨M,0,none⟩),.int .i64 (j:Int),.slice A n c] w fun x w'=>Mk.aY E w M Y (Mk.call E.D s j l) x w':=by
 obtain⟨b,off,P,d,cY,fa,hL,hD,bP,hc⟩:=hE.dc.get hj
 obtain⟨cP,b4⟩:=c8 d hD
 have cc:∀ z∈l,(Lit.int .i64 z).wf=true:=fun z hz=>Ff (by have:=hw z hz;omega)
 have fb:=hA.len
 have c1:w.cell? ⟨M,1,none⟩=some (.slice (some ⟨b,off,none⟩) E.n E.c):=by rw[h.own.cell,<-cY];rfl
 have zM:=h.own.lt
 obtain⟨j2,O⟩:=hc w h.pl
 have k0:=O 0 _ rfl
 have k1:=O 1 _ rfl
 have k2:=O 2 _ rfl
 have k3:=O 3 _ rfl
 have k4:=O 4 _ rfl
 have k5:=O 5 _ rfl
 have k6:=O 6 _ rfl
 have k7:=O 7 _ rfl
 have k8:=O 8 _ rfl
 have k9:=O 9 _ rfl
 rw[Ho] at k0
 obtain⟨pn,ad⟩:∃ pn,d.par.length=pn:=⟨_,rfl⟩
 have kl:(0:Int)<=(j:Int):=by omega
 have ks:(j:Int)<(E.n:Int):=by omega
 obtain⟨r,bD⟩:∃ r,(w.alloc (.cells #[.pointer (some ⟨M,0,none⟩)] 95)).alloc (.cells #[.string d.name,.int .i64 d.sort,.bool d.cL,.slice P.A d.par.length P.c,.bool d.body.list,.int .i64 d.body.k,.string d.body.T,.int .i64 d.body.ta,.int .i64 d.body.at_,.slice P.B d.body.L.length P.d] 56)=r:=⟨_,rfl⟩
 have ba:Below w.heap.size w r:=by rw[<-bD];exact((Gp _ w).alloc (Fm _) _).alloc (by simp) _
 have b9:aa r w.heap.size 95 #[.pointer (some ⟨M,0,none⟩)]:=by rw[<-bD];exact(Fq _ _ _ (by simp)).trans (aa.new w _ _)
 have bC:aa r (w.heap.size+1) 56 #[.string d.name,.int .i64 d.sort,.bool d.cL,.slice P.A d.par.length P.c,.bool d.body.list,.int .i64 d.body.k,.string d.body.T,.int .i64 d.body.ta,.int .i64 d.body.at_,.slice P.B d.body.L.length P.d]:=by
  have:=aa.new (w.alloc (.cells #[.pointer (some ⟨M,0,none⟩)] 95)) 56 #[.string d.name,.int .i64 d.sort,.bool d.cL,.slice P.A d.par.length P.c,.bool d.body.list,.int .i64 d.body.k,.string d.body.T,.int .i64 d.body.ta,.int .i64 d.body.at_,.slice P.B d.body.L.length P.d]
  rw[H9] at this
  rw[<-bD]
  exact this
 have HR:Hid (∀ W,Below r.heap.size r W->Mk.aF E W M Y s/\aH W A n l/\Below w.heap.size w W/\aa W w.heap.size 95 #[.pointer (some ⟨M,0,none⟩)]/\aa W (w.heap.size+1) 56 #[.string d.name,.int .i64 d.sort,.bool d.cL,.slice P.A d.par.length P.c,.bool d.body.list,.int .i64 d.body.k,.string d.body.T,.int .i64 d.body.ta,.int .i64 d.body.at_,.slice P.B d.body.L.length P.d]):=fun W J=>by
  have hb:=ba.trans (J.mono ba.size)
  exact⟨h.below hb,hA.below hb,hb,(J.block _ b9.lt).trans b9,(J.block _ bC.lt).trans bC⟩
 have bl:Mk.call E.D s j l=if l.length≠d.par.length then(s,1) else match Mk.hit s.made j l with
   |some id=>Mk.give s id 0
   |none=>if(List.zip l d.par).any (fun q=>decide (Bd.aC s.N q.1≠q.2.2))=true then(s,90) else(Mk.body s d.body (List.zip (d.par.map (·.1)) l) j (.cD j l),0):=by
  unfold Mk.call
  rw[hD]
  rfl
 rw[bl]
 by_cases hlen:l.length≠d.par.length
 ·rw[Fx hlen]
  have la:((n:Int) != (pn:Int))=true:=by simp;omega
  have HE:=Gn (Mk.Left.same h ba)
  have bz:=bC.cell 3
  rw[ad] at bz k3 bD
  simp at bz
  clear h hf hs hA hw cc hc O fa hL hD bP cP b4 c8 HR bl b9 bC ba ad fb hlen cY
  go_enter Tryz.func240,Tryz.ntmps240
  go_wp2
  go_ret
  exact⟨rfl,HE.out⟩
 rw[FQ hlen]
 obtain rfl:n=pn:=by omega
 have hO:(Mk.key j l).size<=30000:=Mk.lX (by have:=hE.few;omega) cc (by omega)
 have HS:=Gn (xJ r j A n c l (hA.below ba) cc hn (by have:=hE.few;omega) ((h.below ba).pow hE))
 have bz:=bC.cell 3
 simp at bz
 have I:Hid (∀ W,Below r.heap.size r W->(Instr.lookup 115 (.map (some Y.mb)) (.string (Mk.key j l)) true).run Tryz.prog W=.ok (.tuple #[.int .i64 ((Mk.hit s.made j l).getD 0),.bool (Mk.hit s.made j l).isSome]) W):=fun W J=>(HR.out W J).1.made.look (by unfold maxLen;omega)
 have bn:Hid (∀ W,Below r.heap.size r W->W.cell? ⟨M,3,none⟩=some (.map (some Y.mb))/\W.cell? ⟨M,0,none⟩=some (.pointer (some ⟨E.bk,0,none⟩))/\M<W.heap.size):=fun W J=>by
  have h1:=(HR.out W J).1.own
  exact⟨by rw[h1.cell];rfl,by rw[h1.cell];rfl,h1.lt⟩
 obtain⟨key,b3⟩:∃ key,Mk.key j l=key:=⟨_,rfl⟩
 have cy:=Gn b3
 rw[b3] at HS I
 cases hh:Mk.hit s.made j l with
 |some id=>
  have hb:bs.length<=5000:=by have:=hs.fr;rw[hf,Gb] at this;omega
  have hQ:f.ids.length<=100000:=by have:=(hs.ids f (by rw[hf];simp)).1;omega
  have HG:Hid (∀ W,Below r.heap.size r W->Calls Tryz.prog 237 #[.pointer (some ⟨M,0,none⟩),.int .i64 id,.int .i64 0] W fun x w'=>Mk.aY E w M Y (Mk.give s id 0) x w'):=fun W J=>by
   obtain⟨r1,_,r3,_⟩:=HR.out W J
   exact(pk E W M Y s bs f id 0 r1 hf hb hQ).mono fun x w' q=>q.up r3
  rw[hh] at I
  simp only[G0,Option.isSome_some] at I
  rw[ad] at bz k3 bD
  have dx:=b9.cell 0
  simp at dx
  have a7:Hid (∀ W,Below r.heap.size r W->W.cell? ⟨w.heap.size,0,none⟩=some (.pointer (some ⟨M,0,none⟩))/\w.heap.size<W.heap.size):=fun W J=>by
   obtain⟨_,_,_,r4,_⟩:=HR.out W J
   exact⟨by rw[r4.cell];rfl,r4.lt⟩
  obtain⟨mb,cN⟩:∃ mb,Y.mb=mb:=⟨_,rfl⟩
  rw[cN] at I bn
  clear h hf hs hA hw cc hc O fa hL hD bP cP b4 c8 HR bl b9 bC ba ad fb hlen cY hh hb hQ hO b3 cy cN
  go_enter Tryz.func240,Tryz.ntmps240
  go_wp2_with fail
  refine HS.out.mono ?_
  rintro e w2 ⟨rfl,b2⟩
  obtain⟨W3,cF⟩:∃ W3,w2.alloc (.cells #[.string key] 9)=W3:=⟨_,rfl⟩
  have bb:Below r.heap.size r W3:=by rw[<-cF];exact b2.alloc b2.size _
  have bo:aa W3 w2.heap.size 9 #[.string key]:=by rw[<-cF];exact aa.new w2 _ _
  have b7:Hid (∀ nq,Below r.heap.size r (W3.drewN nq)):=fun nq=>below_drewN bb nq
  have c6:=bo.cell 0
  have hN:=bo.lt
  simp at c6
  obtain⟨m3,m0,ml⟩:=bn.out W3 bb
  obtain⟨lm,fx⟩:=a7.out W3 bb
  have hP:∀ nq,(Instr.lookup 115 (.map (some mb)) (.string key) true).run Tryz.prog (W3.drewN nq)=.ok (.tuple #[.int .i64 id,.bool true]) (W3.drewN nq):=fun nq=>I.out _ (b7.out nq)
  clear HS I bn a7 b2 bb bo bz dx
  go_wp2_with fail
  go_quiet (fail)
  go_wp2_with fail
  refine(HG.out _ (b7.out nq)).mono ?_
  rintro e w4 ⟨rfl,v⟩
  have V:=Gn v
  clear HG v
  go_wp2
  go_ret
  exact⟨rfl,V.out⟩
 |none=>
  simp only
  rw[hh] at I
  simp only[Option.getD_none,Option.isSome_none] at I
  have hU:∀ i z p,l[i]?=some z->d.par[i]?=some p->(List.zip l d.par)[i]?=some (z,p):=fun i z p h1 h2=>by rw[List.getElem?_zip_eq_some];exact⟨h1,h2⟩
  have HZ:=Gn hU
  have cz:Hid (∀ W,Below r.heap.size r W->∀ i,i<n->∃ bp op p,P.A=some ⟨bp,op,none⟩/\d.par[i]?=some p/\bp<W.heap.size/\W.cell? ⟨bp,op+i*2,none⟩=some (.string p.1)/\W.cell? ⟨bp,op+i*2+1,none⟩=some (.int .i64 p.2)):=fun W J i hi=>by
   obtain⟨bp,op,p,e1,e2,e3⟩:=bP.par.get (i:=i) (by omega)
   obtain⟨x1,x2,x3⟩:=e3 W (HR.out W J).1.pl
   exact⟨bp,op,p,e1,e2,x1,x2,x3⟩
  have dS:Hid (∀ W,Below r.heap.size r W->∀ i,i<n->∃ bi oi z,A=some ⟨bi,oi,none⟩/\l[i]?=some z/\0<=z/\∀ Z,Below W.heap.size W Z->bi<Z.heap.size/\Z.cell? ⟨bi,oi+i,none⟩=some (.int .i64 z)):=fun W J i hi=>by
   obtain⟨bi,oi,z,e1,e2,e3,_,e5⟩:=(HR.out W J).2.1.get hi
   exact⟨bi,oi,z,e1,e2,(hw z e3).1,e5⟩
  have bB:Hid (∀ W,Below r.heap.size r W->∀ z,0<=z->Calls Tryz.prog 58 #[.pointer (some ⟨E.bk,0,none⟩),.int .i64 z] W fun e w'=>e=.returned (.int .i64 (Bd.aC s.N z))/\Below W.heap.size W w'):=fun W J z hz=>zq W E.bk Y.Fb s.N z (HR.out W J).1.aO hz
  obtain⟨xl,cl⟩:∃ xl,d.body.list=xl:=⟨_,rfl⟩
  obtain⟨xk,cj⟩:∃ xk,d.body.k=xk:=⟨_,rfl⟩
  obtain⟨xT,cf⟩:∃ xT,d.body.T=xT:=⟨_,rfl⟩
  obtain⟨ah,av⟩:∃ ah,d.body.ta=ah:=⟨_,rfl⟩
  obtain⟨xa,ch⟩:∃ xa,d.body.at_=xa:=⟨_,rfl⟩
  obtain⟨xn,cq⟩:∃ xn,d.body.L.length=xn:=⟨_,rfl⟩
  have cR:Hid (∀ W,Below r.heap.size r W->W.cell? ⟨w.heap.size,0,none⟩=some (.pointer (some ⟨M,0,none⟩))/\W.cell? ⟨w.heap.size+1,3,none⟩=some (.slice P.A n P.c)/\W.cell? ⟨w.heap.size+1,4,none⟩=some (.bool xl)/\W.cell? ⟨w.heap.size+1,5,none⟩=some (.int .i64 xk)/\W.cell? ⟨w.heap.size+1,6,none⟩=some (.string xT)/\W.cell? ⟨w.heap.size+1,7,none⟩=some (.int .i64 ah)/\W.cell? ⟨w.heap.size+1,8,none⟩=some (.int .i64 xa)/\W.cell? ⟨w.heap.size+1,9,none⟩=some (.slice P.B xn P.d)):=fun W J=>by
   obtain⟨_,_,_,r4,r5⟩:=HR.out W J
   rw[<-cl,<-cj,<-cf,<-av,<-ch,<-cq,<-ad]
   exact⟨by rw[r4.cell];rfl,by rw[r5.cell];rfl,by rw[r5.cell];rfl,by rw[r5.cell];rfl,by rw[r5.cell];rfl,by rw[r5.cell];rfl,by rw[r5.cell];rfl,by rw[r5.cell];rfl⟩
  have er:Hid (∀ W,Below r.heap.size r W->Calls Tryz.prog 50 #[.slice P.A n P.c] W fun e w'=>(∃ A' c',e=.returned (.slice A' n c')/\Rd w' (fun k=>W.heap.size<=k) A' n c' ((d.par.map (·.1)).map .string))/\Below W.heap.size W w'):=fun W J=>by
   have:=qk W P.A P.c d.par ((bP.par.turn (G':=E.P) (HR.out W J).1.pl fun k _ hk=>⟨fun e=>e hk,hk⟩)) (by omega)
   rwa [ad] at this
  have dO:Hid (∀ W Q A5 c5,Below r.heap.size r W->Below W.heap.size W Q->Rd Q (fun k=>W.heap.size<=k) A5 n c5 ((d.par.map (·.1)).map .string)->Calls Tryz.prog 57 #[.slice A5 n c5,.slice A n c] Q fun e w'=>e=.returned (.map (some Q.heap.size))/\Below Q.heap.size Q w'/\∃ q D,w'.ownsMap Tryz.prog 9 (plainElem (H:=Unit) Tryz.prog 3) Q.heap.size q D/\cw D (Bd.bound (List.zip (d.par.map (·.1)) l))):=fun W Q A5 c5 J h5 hr=>
   yD Q A5 n c5 A c (d.par.map (·.1)) l hr ((HR.out W J).2.1.below h5) cc (fun s hs=>by
    obtain⟨p,hp,rfl⟩:=Hh.1 hs
    exact b4 p hp) (by omega)
  have cb:∀ k,w.heap.size<=k->¬Mk.ag M Y k:=fun k hk e=>by have:=h.lt k e;omega
  have a1:Hid (∀ W w6 mp ao,Below r.heap.size r W->Below W.heap.size W w6->W.heap.size<=mp->(∃ q D,w6.ownsMap Tryz.prog 9 (plainElem (H:=Unit) Tryz.prog 3) mp q D/\cw D (Bd.bound (List.zip (d.par.map (·.1)) l)))->aa W ao 9 #[.string key]->w.heap.size<=ao->
    Calls Tryz.prog 92 #[.pointer (some ⟨M,0,none⟩),.agg #[.bool xl,.int .i64 xk,.string xT,.int .i64 ah,.int .i64 xa,.slice P.B xn P.d],.agg #[.map (some mp),.bool false,.int .i64 (j:Int)],.func (.func 273) #[] #[.pointer (some ⟨w.heap.size,0,none⟩),.pointer (some ⟨ao,0,none⟩)]] w6 fun e w'=>(e=.returned (.tuple #[])/\Mk.Left E w M Y (Mk.body s d.body (List.zip (d.par.map (·.1)) l) j (.cD j l)) w')/\w'.cell? ⟨w.heap.size,0,none⟩=some (.pointer (some ⟨M,0,none⟩))/\w'.cell? ⟨w.heap.size+1,3,none⟩=some (.slice P.A n P.c)/\w'.cell? ⟨w.heap.size+1,4,none⟩=some (.bool xl)/\w'.cell? ⟨w.heap.size+1,5,none⟩=some (.int .i64 xk)/\w'.cell? ⟨w.heap.size+1,6,none⟩=some (.string xT)/\w'.cell? ⟨w.heap.size+1,7,none⟩=some (.int .i64 ah)/\w'.cell? ⟨w.heap.size+1,8,none⟩=some (.int .i64 xa)/\w'.cell? ⟨w.heap.size+1,9,none⟩=some (.slice P.B xn P.d)):=fun W w6 mp ao J h6 kL hR hI hJ=>by
   have iI:=J.trans (h6.mono J.size)
   obtain⟨r1,r2,r3,r4,r5⟩:=HR.out w6 iI
   obtain⟨q,D,ho,ht⟩:=hR
   have iR:aa w6 ao 9 #[.string (Mk.key j l)]:=by rw[cy.out];exact(h6.block _ hI.lt).trans hI
   have:=BK E w6 M Y s d.body P.B P.d (.map (some mp)) false (List.zip (d.par.map (·.1)) l) j _ (.cD j l) r1 ⟨bP.body.le,r1.input bP.body.tree⟩ (.inr ⟨mp,q,D,rfl,cb mp (by have:=J.size;have:=ba.size;omega),ho,ht⟩) ⟨w.heap.size,ao,rfl,cb _ (Fm _),cb _ hJ,r4,iR⟩ (by have:=hs.fr;omega) (by have:=hs.sc;omega)
   unfold aX at this
   rw[cl,cj,cf,av,ch,cq] at this
   refine this.mono fun e w' q=>⟨⟨q.1,q.2.up r3⟩,?_⟩
   have m4:=Mk.cp q.2 r4 (cb _ (Fm _))
   have m5:=Mk.cp q.2 r5 (cb _ (Iz _))
   rw[<-cl,<-cj,<-cf,<-av,<-ch,<-cq,<-ad]
   exact⟨by rw[m4.cell];rfl,by rw[m5.cell];rfl,by rw[m5.cell];rfl,by rw[m5.cell];rfl,by rw[m5.cell];rfl,by rw[m5.cell];rfl,by rw[m5.cell];rfl,by rw[m5.cell];rfl⟩
  have cE:Hid (∀ W,Below r.heap.size r W->Mk.Left E w M Y s W):=fun W J=>Mk.Left.same h (HR.out W J).2.2.1
  have en:Hid (∀ W Z,w.heap.size+1<W.heap.size->Below W.heap.size W Z->(W.cell? ⟨w.heap.size,0,none⟩=some (.pointer (some ⟨M,0,none⟩))/\W.cell? ⟨w.heap.size+1,3,none⟩=some (.slice P.A n P.c)/\W.cell? ⟨w.heap.size+1,4,none⟩=some (.bool xl)/\W.cell? ⟨w.heap.size+1,5,none⟩=some (.int .i64 xk)/\W.cell? ⟨w.heap.size+1,6,none⟩=some (.string xT)/\W.cell? ⟨w.heap.size+1,7,none⟩=some (.int .i64 ah)/\W.cell? ⟨w.heap.size+1,8,none⟩=some (.int .i64 xa)/\W.cell? ⟨w.heap.size+1,9,none⟩=some (.slice P.B xn P.d))->(Z.cell? ⟨w.heap.size,0,none⟩=some (.pointer (some ⟨M,0,none⟩))/\Z.cell? ⟨w.heap.size+1,3,none⟩=some (.slice P.A n P.c)/\Z.cell? ⟨w.heap.size+1,4,none⟩=some (.bool xl)/\Z.cell? ⟨w.heap.size+1,5,none⟩=some (.int .i64 xk)/\Z.cell? ⟨w.heap.size+1,6,none⟩=some (.string xT)/\Z.cell? ⟨w.heap.size+1,7,none⟩=some (.int .i64 ah)/\Z.cell? ⟨w.heap.size+1,8,none⟩=some (.int .i64 xa)/\Z.cell? ⟨w.heap.size+1,9,none⟩=some (.slice P.B xn P.d))):=fun W Z c7 hb ⟨e0,e3,e4,e5,e6,e7,e8,e9⟩=>by
   have f:=fun(b i:Nat) (jv:b<=w.heap.size+1)=>hb.cell (p:=⟨b,i,none⟩) (show b<W.heap.size by omega)
   exact⟨(f _ _ (by omega)).trans e0,(f _ _ (by omega)).trans e3,(f _ _ (by omega)).trans e4,(f _ _ (by omega)).trans e5,(f _ _ (by omega)).trans e6,(f _ _ (by omega)).trans e7,(f _ _ (by omega)).trans e8,(f _ _ (by omega)).trans e9⟩
  have bT:Hid (l.length=n/\d.par.length=n):=⟨by omega,ad⟩
  have dN:r.heap.size=w.heap.size+1+1:=by rw[<-bD];simp
  have b1:=Gn dN
  rw[ad,cl,cj,cf,av,ch,cq] at bD
  rw[ad] at bz k3
  rw[cl] at k4
  rw[cj] at k5
  rw[cf] at k6
  rw[av] at k7
  rw[ch] at k8
  rw[cq] at k9
  have a7:Hid (∀ W,Below r.heap.size r W->W.cell? ⟨w.heap.size,0,none⟩=some (.pointer (some ⟨M,0,none⟩))/\w.heap.size<W.heap.size/\W.cell? ⟨w.heap.size+1,3,none⟩=some (.slice P.A n P.c)/\w.heap.size+1<W.heap.size):=fun W J=>by
   obtain⟨e0,e3,_⟩:=cR.out W J
   exact⟨e0,by have:=J.size;omega,e3,by have:=J.size;omega⟩
  obtain⟨T0,hx⟩:∃ T0,Mk.body s d.body (List.zip (d.par.map (·.1)) l) j (.cD j l)=T0:=⟨_,rfl⟩
  rw[hx] at a1 ⊢
  obtain⟨mb,cN⟩:∃ mb,Y.mb=mb:=⟨_,rfl⟩
  rw[cN] at I bn
  obtain⟨ZP,eW⟩:∃ ZP,List.zip l d.par=ZP:=⟨_,rfl⟩
  rw[eW] at HZ ⊢
  have eD:Hid (ZP.take n=ZP):=by
   show _=_
   rw[<-eW]
   exact Gr (by rw[List.length_zip,bT.out.1,bT.out.2,Nat.min_self];exact Fm _)
  obtain⟨X,hX⟩:∃ X,(if(ZP.any (fun q=>decide (Bd.aC s.N q.1≠q.2.2)))=true then(s,(90:Int)) else(T0,0))=X:=⟨_,rfl⟩
  rw[hX]
  have gA:Hid ((ZP.any (fun q=>decide (Bd.aC s.N q.1≠q.2.2)))=true->X=(s,90)):=fun ht=>by rw[<-hX,Fx ht]
  have hg:Hid ((ZP.any (fun q=>decide (Bd.aC s.N q.1≠q.2.2)))=false->X=(T0,0)):=fun ht=>by rw[<-hX,FQ (by rw[ht];decide)]
  clear h hf hs hA hw cc hc O fa hL hD bP cP b4 c8 HR bl b9 bC ba ad fb hlen cY hh hO b3 cy cN cb cl cj cf av ch cq dN hx eW hU bz hX
  go_enter Tryz.func240,Tryz.ntmps240
  obtain⟨_,_,l3,_⟩:=a7.out r (Gp _ _)
  go_wp2_with fail
  refine HS.out.mono ?_
  rintro e w2 ⟨rfl,b2⟩
  obtain⟨W3,cF⟩:∃ W3,w2.alloc (.cells #[.string key] 9)=W3:=⟨_,rfl⟩
  have bb:Below r.heap.size r W3:=by rw[<-cF];exact b2.alloc b2.size _
  have bo:aa W3 w2.heap.size 9 #[.string key]:=by rw[<-cF];exact aa.new w2 _ _
  have b7:Hid (∀ nq,Below r.heap.size r (W3.drewN nq)):=fun nq=>below_drewN bb nq
  have ga:=Gn bo
  have hM:w.heap.size<=w2.heap.size:=by have:=b2.size;have:=b1.out;omega
  have ea:=Gn hM
  have c6:=bo.cell 0
  have hN:=bo.lt
  simp at c6
  obtain⟨m3,m0,ml⟩:=bn.out W3 bb
  obtain⟨lm,fx,ld,hY⟩:=a7.out W3 bb
  have hP:∀ nq,(Instr.lookup 115 (.map (some mb)) (.string key) true).run Tryz.prog (W3.drewN nq)=.ok (.tuple #[.int .i64 0,.bool false]) (W3.drewN nq):=fun nq=>I.out _ (b7.out nq)
  clear HS I b2 bb bo hM l3
  go_wp2_with fail
  go_quiet (fail)
  go_wp2
  have cv:=Gn (b7.out nq)
  have cx:Hid (aa (W3.drewN nq) w2.heap.size 9 #[.string key]):=ga.out
  clear m3 m0 ml lm fx ld hY hP b7 ga c6 hN
  generalize W3.drewN nq=W4 at cv cx ⊢
  go_loopw [45] (fun iv wr=>∃ i:Nat,i<=n/\iv=.int .i64 (i:Nat)/\Hid (Below W4.heap.size W4 wr/\((ZP.take i).any fun q=>decide (Bd.aC s.N q.1≠q.2.2))=false)) (fun iv _=>n-(intOf iv).toNat)
  case atStart=>exact⟨0,Fz _,rfl,Gp _ _,rfl⟩
  case round=>
   obtain⟨i,j4,rfl,HI⟩:=hrel
   obtain⟨bE,bx⟩:=HI.out
   have U:Below r.heap.size r wr:=cv.out.trans (bE.mono cv.out.size)
   by_cases c7:i<n
   ·obtain⟨bp,op,p,im,hp,j1,q1,q2⟩:=cz.out wr U i c7
    obtain⟨bi,oi,z,rfl,hz,hV,hK⟩:=dS.out wr U i c7
    obtain⟨p1,p2⟩:=p
    simp only at q1 q2
    have iX:(i:Int)<(n:Int):=by omega
    have j3:(0:Int)<=(i:Int):=by omega
    have ka:IntKind.i64.wrap ((i:Int)+1)=(i:Int)+1:=GR _ (by omega)
    obtain⟨W5,eP⟩:∃ W5,wr.alloc (.cells #[.string p1,.int .i64 p2] 111)=W5:=⟨_,rfl⟩
    have b8:Below wr.heap.size wr W5:=by rw[<-eP];exact(Gp _ wr).alloc (Fm _) _
    have eO:aa W5 wr.heap.size 111 #[.string p1,.int .i64 p2]:=by rw[<-eP];exact aa.new wr _ _
    have bL:Below r.heap.size r W5:=U.trans (b8.mono U.size)
    have HF:Hid (∀ s':cu W5,s'.at_.cell? ⟨w.heap.size,0,none⟩=some (.pointer (some ⟨M,0,none⟩))/\s'.at_.cell? ⟨M,0,none⟩=some (.pointer (some ⟨E.bk,0,none⟩))/\s'.at_.cell? ⟨bi,oi+i,none⟩=some (.int .i64 z)/\s'.at_.cell? ⟨wr.heap.size,1,none⟩=some (.int .i64 p2)):=fun s'=>by
     have hS:=bL.trans (s'.ok.mono bL.size)
     exact⟨(a7.out _ hS).1,(bn.out _ hS).2.1,(hK _ (b8.trans (s'.ok.mono b8.size))).2,by rw[aa.cell (t:=111) (cs:=#[.string p1,.int .i64 p2]) ((s'.ok.block _ eO.lt).trans eO)];rfl⟩
    have ev:Hid (∀ s':cu W5,Calls Tryz.prog 58 #[.pointer (some ⟨E.bk,0,none⟩),.int .i64 z] s'.at_ fun e w'=>e=.returned (.int .i64 (Bd.aC s.N z))/\Below s'.at_.heap.size s'.at_ w'):=fun s'=>bB.out _ (bL.trans (s'.ok.mono bL.size)) z hV
    have fy:Hid (∀ W,Below W5.heap.size W5 W->Below W4.heap.size W4 W/\Below r.heap.size r W):=fun W J=>⟨(bE.trans (b8.mono bE.size)).trans (J.mono (Fo bE.size b8.size)),bL.trans (J.mono bL.size)⟩
    obtain⟨so,ff⟩:∃ so,Bd.aC s.N z=so:=⟨_,rfl⟩
    rw[ff] at ev
    have cX:Hid (((ZP.take (i+1)).any fun q=>decide (Bd.aC s.N q.1≠q.2.2))=decide (so≠p2)):=by
     show _=_
     rw[xe (HZ.out i z (p1,p2) hz hp),bx,Ii,<-ff]
    have eA:Hid (decide (so≠p2)=true->(ZP.any fun q=>decide (Bd.aC s.N q.1≠q.2.2))=true):=fun hd=>by
     have h1:=cX.out
     rw[hd,Il] at h1
     obtain⟨q,hq,iU⟩:=h1
     exact Il.2 ⟨q,GN hq,iU⟩
    obtain⟨lm,fx,ld,hY⟩:=a7.out wr U
    rw[im] at ld
    clear bE bx U hp hz hV hK b8 eO bL ff HI cz dS bB cv cx a7 bn cR er dO a1 en bT HZ eD b1 ea
    go_wp2_with fail
    refine cB (C:=qG W5) (by kernel_rfl) (by kernel_rfl) (dt (Gp _ W5)) ?_
    have h7:∀ s':cu W5,s'.at_.cell? ⟨w.heap.size,0,none⟩=some (.pointer (some ⟨M,0,none⟩)):=fun s'=>(HF.out s').1
    have h8:∀ s':cu W5,s'.at_.cell? ⟨M,0,none⟩=some (.pointer (some ⟨E.bk,0,none⟩)):=fun s'=>(HF.out s').2.1
    have h9:∀ s':cu W5,s'.at_.cell? ⟨bi,oi+i,none⟩=some (.int .i64 z):=fun s'=>(HF.out s').2.2.1
    have ih:∀ s':cu W5,s'.at_.cell? ⟨wr.heap.size,1,none⟩=some (.int .i64 p2):=fun s'=>(HF.out s').2.2.2
    repeat(go_big_quiet_step ((go_at_call 58;with_reducible exact dw (ev.out _))))
    refine wpQuiet_nil ?_
    rintro _ ⟨s',rfl⟩
    obtain⟨hB,hG⟩:=fy.out _ s'.ok
    have fz:=Gn hB
    have HV:=Gn (cE.out _ hG)
    clear h7 h8 h9 ih HF ev fy hB hG eP
    generalize s'.at_=W6 at*
    clear s'
    by_cases hd:so=p2
    ·have iN:(so != p2)=false:=by simp[hd]
     have h0:Hid (((ZP.take (i+1)).any fun q=>decide (Bd.aC s.N q.1≠q.2.2))=false):=by show _=_;rw[cX.out];simp[hd]
     clear hd cX eA HV
     go_wp2
     go_roundw
     case rel=>exact⟨i+1,by omega,by go_num,fz.out,h0.out⟩
     case measure=>simp[intOf];omega
    ·have iN:(so != p2)=true:=by simp[hd]
     have ht:=eA.out (by simp[hd])
     obtain rfl:=gA.out ht
     clear hd cX eA fz ht gA hg
     go_wp2
     go_ret
     exact⟨rfl,HV.out⟩
   ·obtain rfl:i=n:=by omega
    rw[eD.out] at bx
    obtain rfl:=hg.out bx
    have ca:Below r.heap.size r wr.drew:=⟨U.os,U.tape,U.output,U.size,U.block⟩
    have gf:Hid (aa wr.drew w2.heap.size 9 #[.string key]):=(bE.block _ cx.out.lt).trans cx.out
    have gg:=Gn (er.out wr.drew ca)
    have fR:Hid (∀ Q A5 c5,Below wr.drew.heap.size wr.drew Q->Rd Q (fun k=>wr.drew.heap.size<=k) A5 i c5 ((d.par.map (·.1)).map .string)->Calls Tryz.prog 57 #[.slice A5 i c5,.slice A i c] Q fun e w'=>e=.returned (.map (some Q.heap.size))/\Below Q.heap.size Q w'/\∃ q D,w'.ownsMap Tryz.prog 9 (plainElem (H:=Unit) Tryz.prog 3) Q.heap.size q D/\cw D (Bd.bound (List.zip (d.par.map (·.1)) l))):=fun Q A5 c5 q1 q2=>dO.out wr.drew Q A5 c5 ca q1 q2
    have fE:Hid (∀ Q w6,Below wr.drew.heap.size wr.drew Q->Below Q.heap.size Q w6->(∃ q D,w6.ownsMap Tryz.prog 9 (plainElem (H:=Unit) Tryz.prog 3) Q.heap.size q D/\cw D (Bd.bound (List.zip (d.par.map (·.1)) l)))->_):=fun Q w6 q1 q2 q3=>a1.out wr.drew w6 Q.heap.size w2.heap.size ca (q1.trans (q2.mono q1.size)) q1.size q3 gf.out ea.out
    have h3:Hid (wr.drew.cell? ⟨w.heap.size,0,none⟩=some (.pointer (some ⟨M,0,none⟩))/\wr.drew.cell? ⟨w.heap.size+1,3,none⟩=some (.slice P.A i P.c)/\wr.drew.cell? ⟨w.heap.size+1,4,none⟩=some (.bool xl)/\wr.drew.cell? ⟨w.heap.size+1,5,none⟩=some (.int .i64 xk)/\wr.drew.cell? ⟨w.heap.size+1,6,none⟩=some (.string xT)/\wr.drew.cell? ⟨w.heap.size+1,7,none⟩=some (.int .i64 ah)/\wr.drew.cell? ⟨w.heap.size+1,8,none⟩=some (.int .i64 xa)/\wr.drew.cell? ⟨w.heap.size+1,9,none⟩=some (.slice P.B xn P.d)):=cR.out wr.drew ca
    have dd:Hid (∀ W Z,w.heap.size+1<W.heap.size->Below W.heap.size W Z->(W.cell? ⟨w.heap.size,0,none⟩=some (.pointer (some ⟨M,0,none⟩))/\W.cell? ⟨w.heap.size+1,3,none⟩=some (.slice P.A i P.c)/\W.cell? ⟨w.heap.size+1,4,none⟩=some (.bool xl)/\W.cell? ⟨w.heap.size+1,5,none⟩=some (.int .i64 xk)/\W.cell? ⟨w.heap.size+1,6,none⟩=some (.string xT)/\W.cell? ⟨w.heap.size+1,7,none⟩=some (.int .i64 ah)/\W.cell? ⟨w.heap.size+1,8,none⟩=some (.int .i64 xa)/\W.cell? ⟨w.heap.size+1,9,none⟩=some (.slice P.B xn P.d))->(Z.cell? ⟨w.heap.size,0,none⟩=some (.pointer (some ⟨M,0,none⟩))/\Z.cell? ⟨w.heap.size+1,3,none⟩=some (.slice P.A i P.c)/\Z.cell? ⟨w.heap.size+1,4,none⟩=some (.bool xl)/\Z.cell? ⟨w.heap.size+1,5,none⟩=some (.int .i64 xk)/\Z.cell? ⟨w.heap.size+1,6,none⟩=some (.string xT)/\Z.cell? ⟨w.heap.size+1,7,none⟩=some (.int .i64 ah)/\Z.cell? ⟨w.heap.size+1,8,none⟩=some (.int .i64 xa)/\Z.cell? ⟨w.heap.size+1,9,none⟩=some (.slice P.B xn P.d))):=en.out
    have fv:w.heap.size+1<wr.drew.heap.size:=by have:=b1.out;have:=ca.size;omega
    have h4:=Gn fv
    have hZ:Hid (∀ W,Below wr.drew.heap.size wr.drew W->w.heap.size+1<W.heap.size):=fun W J=>Fp fv J.size
    have ky:∀ (fn:Fn) (first cap:Array Value) (w:World),(Instr.makeFunc fn first cap).run Tryz.prog w=.ok (.func fn first cap) w:=fun _ _ _ _=>rfl
    clear bE bx U ca HI cz dS bB cv cx a7 bn cR er dO a1 en bT HZ eD b1 ea gf cE c7 fv
    go_wp2_with fail
    go_region_held3 (fun W=>W.cell? ⟨w.heap.size,0,none⟩=some (.pointer (some ⟨M,0,none⟩))/\W.cell? ⟨w.heap.size+1,3,none⟩=some (.slice P.A i P.c)/\W.cell? ⟨w.heap.size+1,4,none⟩=some (.bool xl)/\W.cell? ⟨w.heap.size+1,5,none⟩=some (.int .i64 xk)/\W.cell? ⟨w.heap.size+1,6,none⟩=some (.string xT)/\W.cell? ⟨w.heap.size+1,7,none⟩=some (.int .i64 ah)/\W.cell? ⟨w.heap.size+1,8,none⟩=some (.int .i64 xa)/\W.cell? ⟨w.heap.size+1,9,none⟩=some (.slice P.B xn P.d))
     (first|(with_reducible exact h3.out)|(with_reducible assumption)|(with_reducible exact dd.out _ _ h4.out (by assumption) (by assumption))|(with_reducible exact dd.out _ _ (hZ.out _ (by assumption)) (by assumption) (by assumption)))
     (first|(go_at_call 50;(with_reducible refine gg.out.mono ?_);rintro e Q ⟨⟨A5,c5,rfl,ll⟩,b5⟩)|(go_at_call 57;(with_reducible refine(fR.out _ _ _ ?_ ?_).mono ?_);assumption;assumption;rintro e w6 ⟨rfl,b6,lb⟩)|(go_at_call 92;(with_reducible refine(fE.out _ _ ?_ ?_ ?_).mono ?_);assumption;assumption;assumption;rintro e w7 ⟨⟨rfl,l7⟩,kv⟩))
    all_goals
     have L7:=Gn l7
     clear l7
     go_wp2
     go_ret
     exact⟨rfl,L7.out⟩
theorem zh {A:Option Addr} {n c:Nat} (W:World) (hn:1<=n):(Instr.slice 25 (.slice A n c) (some (.int .i64 1)) none none).run Tryz.prog W=.ok (.slice (if c=1 then A else A.map (·.add 6)) (n-1) (c-1)) W:=by
 have hz:(sizeOf (Tryz.prog.elem 25)).run Tryz.prog W=.ok 6 W:=by kernel_rfl
 have:=run_slice_l (P:=Tryz.prog) W 25 A n c (by kernel_rfl) .i64 ((1:Nat):Int) (by omega) (by omega)
 rw[hz] at this
 simp only[Result.andThen,sliced,Ih,Hk] at this
 exact this
theorem au.tq {w:World} {G:Nat->Nat->Prop} {A:Option Addr} {x:Sx} {l:List Sx} {c:Nat} (h:au w G A (x::l)) (hc:l.length+1<=c):au w G (if c=1 then A else A.map (·.add 6)) l:=by
 cases h with
 |cons b off x l A' I J L O Q r=>
  split
  ·have:l=[]:=IJ.1 (by omega)
   subst this
   exact .nil _
  ·show au w G (some ((⟨b,off,none⟩:Addr).add 6)) l
   rw[addr_add]
   exact r
theorem Be (E:Mk.Env) (hE:E.Ok) (w:World) (M:Nat) (Y:Mk.Lay) (s:Ms) (bs:List Fr) (f:Fr) (j O Q:Nat) (A:Option Addr) (n c:Nat) (l:List Int) (h:Mk.aF E w M Y s) (hf:s.fr=bs++[f]) (hs:Mk.Small s) (hj:j<E.n)
  (X:aa w O 95 #[.pointer (some ⟨M,0,none⟩)]) (Z:aa w Q 285 #[.int .i64 2,.int .i64 (j:Int)]) (hA:aH w A n l) (hw:∀ z∈l,0<=z/\z<=30000) (hn:n<=1000)
  (I:∀ d,E.D[j]?=some d->d.par.length<=1000/\∀ p∈d.par,p.1.size<=maxLen):
  Calls Tryz.prog 239 #[.slice A n c,.pointer (some ⟨O,0,none⟩),.pointer (some ⟨Q,0,none⟩)] w fun x w'=>Mk.aY E w M Y (Mk.ends E.D s (.fn j) l) x w':=by
 have c1:w.cell? ⟨O,0,none⟩=some (.pointer (some ⟨M,0,none⟩)):=by rw[X.cell];rfl
 have c2:w.cell? ⟨Q,1,none⟩=some (.int .i64 (j:Int)):=by rw[Z.cell];rfl
 have z1:=X.lt
 have z2:=Z.lt
 have L:=Gn (BF E hE w M Y s bs f j A n c l h hf hs hj hA hw hn I)
 obtain⟨r,U⟩:∃ r,Mk.call E.D s j l=r:=⟨_,rfl⟩
 have J:Mk.ends E.D s (.fn j) l=r:=U
 rw[U] at L
 rw[J]
 clear h hf hs hj X Z hA hw I U J
 go_enter Tryz.func239,Tryz.ntmps239
 go_wp2_with fail
 refine L.out.mono ?_
 rintro e w1 ⟨rfl,v⟩
 have V:=Gn v
 clear L v c1 c2
 go_wp2
 go_ret
 exact⟨rfl,V.out⟩
theorem xz (E:Mk.Env) (w:World) (M:Nat) (Y:Mk.Lay) (s:Ms) (bs:List Fr) (f:Fr) (names:List ByteArray) (t bx:Sx) (Q b2 U:Nat) (Z:Option Addr) (nc:Nat) (pA:Option Addr) (pc:Nat) (A:Option Addr) (c:Nat) (l:List Int) (h:Mk.aF E w M Y s) (hf:s.fr=bs++[f]) (hs:Mk.Small s)
  (g1:¬Mk.ag M Y Q) (g2:¬Mk.ag M Y b2) (g3:¬Mk.ag M Y U) (l1:aa w Q 95 #[.pointer (some ⟨M,0,none⟩)]) (l2:aa w b2 79 #[.slice Z names.length nc]) (hN:Rd w (fun k=>¬Mk.ag M Y k) Z names.length nc (names.map .string))
  (l3:aa w U 25 #[.slice pA 2 pc]) (hP:au w (fun b _=>¬Mk.ag M Y b) pA [bx,t]) (ah:2<=pc/\pc<=maxLen) (hA:aH w A names.length l) (hw:∀ z∈l,(Lit.int .i64 z).wf=true) (bC:∀ s∈names,s.size<=maxLen) (hn:names.length<=1000):
  Calls Tryz.prog 268 #[.slice A names.length c,.pointer (some ⟨Q,0,none⟩),.pointer (some ⟨b2,0,none⟩),.pointer (some ⟨U,0,none⟩)] w fun x w'=>Mk.aY E w M Y (Mk.ends E.D s (.bind names t) l) x w':=by
 obtain⟨i0,hi,b6,b7,b8⟩:=Gj xU
 obtain⟨w0,bL⟩:∃ w0,w0=w.drew:=⟨_,rfl⟩
 have O:Below w.heap.size w w0:=by rw[bL];exact⟨rfl,rfl,rfl,Fm _,fun _ _=>rfl⟩
 have h0:Mk.aF E w0 M Y s:=h.below O
 have HB:Hid (Calls Tryz.prog 57 #[.slice Z names.length nc,.slice A names.length c] w0 fun e w'=>e=.returned (.map (some w0.heap.size))/\Below w0.heap.size w0 w'/\∃ q D,w'.ownsMap Tryz.prog 9 (plainElem (H:=Unit) Tryz.prog 3) w0.heap.size q D/\cw D (Bd.bound (List.zip names l))):=
  yD w0 Z names.length nc A c names l (hN.below O) (hA.below O) hw bC (by omega)
 have a1:∀ W,Below w0.heap.size w0 W->(W.cell? ⟨Q,0,none⟩=some (.pointer (some ⟨M,0,none⟩))/\W.cell? ⟨b2,0,none⟩=some (.slice Z names.length nc)/\W.cell? ⟨M,4,none⟩=some (.slice Y.sA s.sc.length Y.sc)/\W.cell? ⟨U,0,none⟩=some (.slice pA 2 pc)):=fun W hW=>by
  have hb:=O.trans (hW.mono O.size)
  have m1:=(hb.block _ l1.lt).trans l1
  have m2:=(hb.block _ l2.lt).trans l2
  have m3:=(hb.block _ l3.lt).trans l3
  exact⟨by rw[aa.cell (t:=95) (cs:=#[.pointer (some ⟨M,0,none⟩)]) m1];rfl,by rw[aa.cell (t:=79) (cs:=#[.slice Z names.length nc]) m2];rfl,by rw[(h.below hb).own.cell];rfl,by rw[aa.cell (t:=25) (cs:=#[.slice pA 2 pc]) m3];rfl⟩
 have HI:Hid (∀ I o,Below w0.heap.size w0 I->(I.alloc o).ownsRow 0 175 3 (.slice Y.sA s.sc.length Y.sc) s.sc.length (Y.SL.flatMap bw)):=fun I o hb=>((h0.below hb).alloc o).fY
 have HW:Hid (∀ I o X c2 J,Below w0.heap.size w0 I->(∃ q D,I.ownsMap Tryz.prog 9 (plainElem (H:=Unit) Tryz.prog 3) w0.heap.size q D/\cw D (Bd.bound (List.zip names l)))->(I.alloc o).grownBy J (Value.slice Y.sA s.sc.length Y.sc).ownBlock->J.ownsRow 0 175 3 (.slice X (s.sc.length+1) c2) (s.sc.length+1) (Y.SL.flatMap bw++[.map (some w0.heap.size),.bool false,.int .i64 0])->
   ((Value.slice X (s.sc.length+1) c2).ownBlock=(Value.slice Y.sA s.sc.length Y.sc).ownBlock\/(Value.slice X (s.sc.length+1) c2).ownBlock=some (I.alloc o).heap.size)->
   (J.cell? ⟨Q,0,none⟩=some (.pointer (some ⟨M,0,none⟩))/\J.cell? ⟨b2,0,none⟩=some (.slice Z names.length nc)/\J.cell? ⟨M,4,none⟩=some (.slice Y.sA s.sc.length Y.sc)/\J.cell? ⟨U,0,none⟩=some (.slice pA 2 pc))/\M<J.heap.size/\J.frozen? ⟨M,4,none⟩=false/\
   ((J.setCell ⟨M,4,none⟩ (.slice X (s.sc.length+1) c2)).cell? ⟨Q,0,none⟩=some (.pointer (some ⟨M,0,none⟩))/\(J.setCell ⟨M,4,none⟩ (.slice X (s.sc.length+1) c2)).cell? ⟨U,0,none⟩=some (.slice pA 2 pc))/\
   Calls Tryz.prog 235 #[.pointer (some ⟨M,0,none⟩),.slice (if pc=1 then pA else pA.map (·.add 6)) 1 (pc-1),.func (.func 269) #[.pointer (some ⟨M,0,none⟩)] #[]] (J.setCell ⟨M,4,none⟩ (.slice X (s.sc.length+1) c2)).drew fun e w'=>Mk.aY E w M Y (Mk.ends E.D s (.bind names t) l) e w'/\(w'.cell? ⟨Q,0,none⟩=some (.pointer (some ⟨M,0,none⟩))/\w'.cell? ⟨U,0,none⟩=some (.slice pA 2 pc))):=fun I o X c2 J bp bD q1 q2 q3=>by
  obtain⟨q,D,ho,ht⟩:=bD
  rw[aj] at q1
  rw[aj,aj] at q3
  have hb:Below w.heap.size w (I.alloc o):=O.trans ((bp.alloc bp.size o).mono O.size)
  have h2:Mk.aF E (I.alloc o) M Y s:=h.below hb
  have b5:jB (I.alloc o) (fun k=>¬Mk.ag M Y k) (.map (some w0.heap.size)) ⟨List.zip names l,false,0⟩:=.inr ⟨_,q,D,rfl,fun e=>by have:=h0.lt _ e;omega,((ae.refl (fun _=>False) I).alloc o).map ho id,ht⟩
  have bb:=h2.scope (v:=.map (some w0.heap.size)) (x:=⟨List.zip names l,false,0⟩) q1 q2 q3 b5
  have tg:ae (fun k=>ak Y.sA=some k) (I.alloc o) J:=ae.aB q1 fun _ e _=>e
  have bl:∀ k,¬Mk.ag M Y k->¬ak Y.sA=some k:=fun k hk e=>hk (.inr (.inr (.inr (.inl e))))
  have m1:=(hb.block _ l1.lt).trans l1
  have m2:=(hb.block _ l2.lt).trans l2
  have m3:=(hb.block _ l3.lt).trans l3
  have av:=tg.lies h2.own h2.BX
  obtain⟨Y2,r2,t2,y2,a2⟩:=bb.apart
  have n1:=t2.lies (show aa (I.alloc o) Q 95 #[.pointer (some ⟨M,0,none⟩)] from m1) g1
  have n3:=t2.lies (show aa (I.alloc o) U 25 #[.slice pA 2 pc] from m3) g3
  have hlen:(s.sc++[(⟨List.zip names l,false,0⟩:iH)]).length=s.sc.length+1:=by simp
  have ba:Below (J.setCell ⟨M,4,none⟩ (.slice X (s.sc.length+1) c2)).heap.size (J.setCell ⟨M,4,none⟩ (.slice X (s.sc.length+1) c2)) (J.setCell ⟨M,4,none⟩ (.slice X (s.sc.length+1) c2)).drew:=⟨rfl,rfl,rfl,Fm _,fun _ _=>rfl⟩
  have hx:=((hP.bR (F:=fun _=>False) (G':=fun k=>¬Mk.ag M Y k) (ae.af hb) fun k _ hk=>⟨id,hk⟩).bR t2 a2).tq (c:=pc) (by have:=ah.1;simp;omega)
  have hc:=wM E _ M Y2 _ bs f _ (pc-1) _ [t] .first (r2.below ba) hf (by have:=hs.fr;rw[hf,Gb] at this;omega) (by show(s.sc++[_]).length<=_;rw[hlen];have:=hs.sc;omega) (by have:=(hs.ids f (by rw[hf];simp)).2;omega) ⟨by have:=ah.1;simp;omega,by have:=ah.2;omega⟩ (hx.kept ba) rfl
  refine⟨⟨by rw[(tg.lies (show aa (I.alloc o) Q 95 #[.pointer (some ⟨M,0,none⟩)] from m1) (bl _ g1)).cell];rfl,by rw[(tg.lies (show aa (I.alloc o) b2 79 #[.slice Z names.length nc] from m2) (bl _ g2)).cell];rfl,by rw[av.cell];rfl,by rw[(tg.lies (show aa (I.alloc o) U 25 #[.slice pA 2 pc] from m3) (bl _ g3)).cell];rfl⟩,av.lt,av.free 4,⟨by rw[n1.cell];rfl,by rw[n3.cell];rfl⟩,hc.mono fun e w' ⟨e1,e2⟩=>?_⟩
  have e3:=((e2.up ba).after t2 y2).up hb
  exact⟨⟨e1,e3⟩,by rw[(Mk.cp e3 l1 g1).cell];rfl,by rw[(Mk.cp e3 l3 g3).cell];rfl⟩
 have HK:Hid (∀ W,Below w0.heap.size w0 W->(W.cell? ⟨Q,0,none⟩=some (.pointer (some ⟨M,0,none⟩))/\W.cell? ⟨b2,0,none⟩=some (.slice Z names.length nc)/\W.cell? ⟨M,4,none⟩=some (.slice Y.sA s.sc.length Y.sc)/\W.cell? ⟨U,0,none⟩=some (.slice pA 2 pc))):=a1
 have ad:Hid (∀ W o,Below w0.heap.size w0 W->((W.alloc o).cell? ⟨Q,0,none⟩=some (.pointer (some ⟨M,0,none⟩))/\(W.alloc o).cell? ⟨b2,0,none⟩=some (.slice Z names.length nc)/\(W.alloc o).cell? ⟨M,4,none⟩=some (.slice Y.sA s.sc.length Y.sc)/\(W.alloc o).cell? ⟨U,0,none⟩=some (.slice pA 2 pc))):=fun W o hW=>a1 _ (hW.alloc hW.size o)
 have HM:Hid (∀ W,Below w0.heap.size w0 W->M<W.heap.size/\∀ o,M<(W.alloc o).heap.size):=fun W hW=>⟨(h0.below hW).own.lt,fun o=>((h0.below hW).alloc o).own.lt⟩
 have b9:=h0.own.lt
 obtain⟨m,bz⟩:∃ m,s.sc.length=m:=⟨_,rfl⟩
 obtain⟨L,hL⟩:∃ L:List Value,Y.SL.flatMap bw=L:=⟨_,rfl⟩
 obtain⟨sA,bE⟩:∃ sA,Y.sA=sA:=⟨_,rfl⟩
 obtain⟨sc,ao⟩:∃ sc,Y.sc=sc:=⟨_,rfl⟩
 obtain⟨r,hr⟩:∃ r,Mk.ends E.D s (.bind names t) l=r:=⟨_,rfl⟩
 obtain⟨n,bB⟩:∃ n,names.length=n:=⟨_,rfl⟩
 obtain⟨p1,bo⟩:∃ p1,(if pc=1 then pA else pA.map (·.add 6))=p1:=⟨_,rfl⟩
 have bn:∀ u∈([.map (some w0.heap.size),.bool false,.int .i64 0]:List Value),u.oneCell'=true:=by
  intro u hu
  simp at hu
  rcases hu with rfl|rfl|rfl <;> rfl
 have bT:m+1<=maxLen:=by have:=hs.sc;unfold maxLen;omega
 have b4:(m+1)*24<=140737488355328:=by have:=hs.sc;omega
 have hcut:∀ W:World,(Instr.slice 25 (.slice pA 2 pc) (some (.int .i64 1)) none none).run Tryz.prog W=.ok (.slice p1 1 (pc-1)) W:=fun W=>by
  rw[<-bo]
  exact zh W (by omega)
 have cf:∀ (fn:Fn) (first cap:Array Value) (w:World),(Instr.makeFunc fn first cap).run Tryz.prog w=.ok (.func fn first cap) w:=fun _ _ _ _=>rfl
 rw[hL] at HW HI
 rw[hr,bo] at HW
 rw[hr]
 rw[bz,bE,ao] at HW HI HK ad
 rw[bB] at HW HK HB ad ⊢
 clear h hf hs O h0 a1 g1 g2 g3 l1 l2 l3 hN hP ah hA hw bC hn bz hL bE ao hr bB bo
 subst bL
 go_enter Tryz.func268,Tryz.ntmps268
 go_wp2_with fail
 have bP:=HK.out w.drew (Gp _ _)
 obtain⟨m1,m2,m4,m3⟩:=bP
 go_cut [16] (fun _ W=>(W.cell? ⟨Q,0,none⟩=some (.pointer (some ⟨M,0,none⟩))/\W.cell? ⟨U,0,none⟩=some (.slice pA 2 pc))/\Calls Tryz.prog 235 #[.pointer (some ⟨M,0,none⟩),.slice p1 1 (pc-1),.func (.func 269) #[.pointer (some ⟨M,0,none⟩)] #[]] W.drew fun e w'=>Mk.aY E w M Y r e w'/\(w'.cell? ⟨Q,0,none⟩=some (.pointer (some ⟨M,0,none⟩))/\w'.cell? ⟨U,0,none⟩=some (.slice pA 2 pc)))
 case first=>
  go_region_law (first
   |(refine ay rfl (.tmp 10) (.tmp 15) 169 rfl 0 175 i0 (.agg #[.map none,.bool false,.int .i64 0]) 3 24 Tryz.underlying169 hi b6 b7 b8 rfl (by decide) (.slice sA m sc) m L (by simp[Act.eval,Act.put]) (HI.out _ _ (by assumption)) _ 1 1 [.map (some w.heap.size),.bool false,.int .i64 0] (by simp[Act.eval,Act.put]) rfl (fH rfl) bn bT b4 (Fz _) ?_;intro X c2 J o2 q2 a2;obtain⟨⟨s1,s2,s4,s3⟩,z2,f2,x2,n2⟩:=HW.out _ _ X c2 J (by assumption) (by assumption) q2 o2 a2;have X2:=Gn x2;have N2:=Gn n2;clear o2 q2 a2 x2 n2)
   |(go_simp;go_at_call 57;(with_reducible refine HB.out.mono ?_);rintro e I ⟨rfl,a7,how⟩;obtain⟨k1,k2,k4,k3⟩:=HK.out I a7;obtain⟨cb,ca⟩:=HM.out I a7;have ka:=ad.out I (.cells #[.map (some w.heap.size),.bool false,.int .i64 0] 175) a7;obtain⟨j1,j2,j4,j3⟩:=ka))
  all_goals
   go_wp2_with fail
   go_meet
   exact⟨X2.out,N2.out⟩
 case rest=>
  obtain⟨⟨r1,r3⟩,hc⟩:=hcut
  have HC:=Gn hc
  have HS:Hid (wc.drew.cell? ⟨Q,0,none⟩=some (.pointer (some ⟨M,0,none⟩))/\wc.drew.cell? ⟨U,0,none⟩=some (.slice pA 2 pc)):=⟨r1,r3⟩
  clear hc HK ad HI HB HM HW m1 m2 m4 m3
  go_wp2_with fail
  go_region_held3 (fun W=>W.cell? ⟨Q,0,none⟩=some (.pointer (some ⟨M,0,none⟩))/\W.cell? ⟨U,0,none⟩=some (.slice pA 2 pc))
   (first|exact HS.out|assumption)
   (first|(go_at_call 235;refine HC.out.mono ?_;rintro e w3 ⟨⟨rfl,v⟩,cc⟩)|fail)
  all_goals
   have V:=Gn v
   clear v
   go_wp2
   go_ret
   exact⟨rfl,V.out⟩
end Go.Proofs.YtdbgiijdgedggaaGreatDoor
