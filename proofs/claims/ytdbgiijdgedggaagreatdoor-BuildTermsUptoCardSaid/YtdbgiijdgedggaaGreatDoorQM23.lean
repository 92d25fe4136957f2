import Derived.Test.YtdbgiijdgedggaaGreatDoorQM21
set_option linter.unusedSimpArgs false
set_option linter.unusedVariables false
set_option maxRecDepth 100000
set_option maxHeartbeats 25600000
namespace Go.Proofs.YtdbgiijdgedggaaGreatDoor
open Go.RowKit
theorem qD {F:Nat->Prop} {w w':World} {base b n:Nat} {Dm:DataW Unit} (h:w.ownsGroups Tryz.prog 9 base 3 .i64 b n Dm) (ht:ae F w w') (hF:∀ i,b<=i->i<w.heap.size->¬F i):w'.ownsGroups Tryz.prog 9 base 3 .i64 b n Dm:=by
 obtain⟨es,clock,hb,Ft,hs,rfl,Z,hlen,X⟩:=h
 have J:b<w.heap.size:=(Fl.1 hb).1
 have hk:∀ x∈es.toList,∀ I,w.ownsInts base 3 .i64 x.val I->w'.ownsInts base 3 .i64 x.val I:=fun x _ I r=>⟨ht.own r.1 fun g hg=>hF g (by have:=(r.1.lt g hg).1;omega) (r.1.lt g hg).2,r.2⟩
 obtain⟨F1,L,_⟩:=Ft.stay (R':=rowElem (H:=Unit) w' base 3 .i64) (fun x Q z hz=>by
  obtain⟨I,r,rfl⟩:=rowElem_inv hz
  exact rowElem_mk (hk x Q I r))
 refine⟨es,clock,(ht.block b J (hF b (Fm _) J)).trans hb,F1,hs,by rw[L],Z,fun x Q I r=>?_,X⟩
 obtain⟨y,hy⟩:=Ft.reads x Q
 unfold WideElems.rd at hy
 obtain⟨kl,_,V⟩:=Option.bind_eq_some_iff.1 hy
 obtain⟨z,V,_⟩:=FT.1 V
 obtain⟨U,O,_⟩:=rowElem_inv V
 rw[r.unique (hk x Q U O)]
 exact hlen x Q U O
theorem gE.zero (D:List Dc):gE (.map []) D 0:=fun _ _=>rfl
theorem gE.next {J:DataW Unit} {D:List Dc} {k:Nat} {s:ByteArray} (h:gE J D k) (ht:Maps.IsMap J) (hs:D[k]?.map (·.name)=some s) {v':Value} {I:List Int} (hz:I=Pl D s k) (hv:(rowDatum .i64 v' (I++[(k:Int)]):DataW Unit)=.slice (Go.ChangeShapes.lits .i64 (I++[(k:Int)])) []):gE (J.put (dF s) (rowDatum .i64 v' (I++[(k:Int)]))) D (k+1):=fun t L=>by
 rw[Pl.succ]
 by_cases e:t=s
 ·subst e
  rw[Fx hs,Maps.atKey_put_same ht (by trivial),hv,<-hz]
  unfold Ep
  rw[FQ (by simp)]
 ·rw[FQ (fun r=>e (by rw[hs] at r;exact(Fk r).symm)),Maps.atKey_put_other (fun r=>e (kF r))]
  exact h t L
theorem oh (W:World):(Instr.makeMap 167 none).run Tryz.prog W=.ok (.map (some W.heap.size)) (W.alloc (.map #[] 0)):=run_makeMap _ W
theorem Bn (w:World) (A:Option Addr) (n c:Nat) (L:List (iZ×Dc)) {G:Nat->Prop} (h:rX w G A n c L) (hn:n<=1000) (hs:∀ q∈L,q.2.name.size<=maxLen):
  Calls Tryz.prog 91 #[.slice A n c] w fun e w'=>e=.returned (.map (some w.heap.size))/\(∃ X,w'.ownsGroups Tryz.prog 9 (w.heap.size+1) 3 .i64 w.heap.size n X/\gE X (L.map (·.2)) n)/\Below w.heap.size w w':=by
 have cb:=oh
 obtain⟨i0,hi,b1,b2,b3⟩:=Gj oJ
 have HH:=Gn h
 have HS:=Gn hs
 clear h hs
 go_enter Tryz.func91,Tryz.ntmps91
 go_wp2
 go_loopw [9] (fun iv wr=>∃ i:Nat,i<=n/\iv=.int .i64 (i:Nat)/\Hid (∃ X,wr.ownsGroups Tryz.prog 9 (w.heap.size+1) 3 .i64 w.heap.size i X/\gE X (L.map (·.2)) i/\Below w.heap.size w wr/\w.heap.size+1<=wr.heap.size)) (fun iv _=>n-(intOf iv).toNat)
 case atStart=>exact⟨0,Fz _,rfl,_,World.ownsGroups_made _ _ _ _ _,gE.zero _,(Gp _ _).alloc (Fm _) _,by simp⟩
 case round=>
  obtain⟨i,b9,rfl,HI⟩:=hrel
  by_cases bx:i<n
  ·obtain⟨X,ho,hT,hB,bT⟩:=HI.out
   obtain⟨b,off,P,d,rfl,b6,hL,hD,_,hc⟩:=HH.out.get bx
   obtain⟨b7,I⟩:=hc wr (ae.af hB)
   have k0:=I 0 _ rfl
   have k1:=I 1 _ rfl
   have k2:=I 2 _ rfl
   have k3:=I 3 _ rfl
   have k4:=I 4 _ rfl
   have k5:=I 5 _ rfl
   have k6:=I 6 _ rfl
   have k7:=I 7 _ rfl
   have k8:=I 8 _ rfl
   have k9:=I 9 _ rfl
   rw[Ho] at k0
   have av:d.name.size<=maxLen:=HS.out _ (FP hL)
   obtain⟨name,r⟩:∃ name,d.name=name:=⟨_,rfl⟩
   obtain⟨J,U⟩:∃ J,J=(wr.alloc (.cells #[.string d.name,.int .i64 d.sort,.bool d.cL,.slice P.A d.par.length P.c,.bool d.body.list,.int .i64 d.body.k,.string d.body.T,.int .i64 d.body.ta,.int .i64 d.body.at_,.slice P.B d.body.L.length P.d] 56)):=⟨_,rfl⟩
   have t1:ae (fun _=>False) wr J.drew:=by rw[U];exact((ae.refl _ wr).alloc _).drew
   have a1:=qD ho t1 (fun _ _ _=>id)
   obtain⟨A1,m1,Q,O,bb,V,b4,Z,ad⟩:=mD a1 (by unfold maxLen;omega) name (r▸av)
   obtain rfl:m1=O.length:=by
    obtain⟨A',c',e⟩:=aI V.1
    injection e
   have bD:=uj V ((hT name (r▸av)).symm.trans bb)
   have bz:(Lit.int .i64 (i:Int)).wf=true:=om (by omega)
   have bo:(Instr.lookup 167 (.map (some w.heap.size)) (.string name) false).run Tryz.prog J.drew=.ok (.slice A1 O.length Q) J.drew:=ad _ rfl
   have bp:(Instr.lookup 167 (.map (some w.heap.size)) (.string name) false).run Tryz.prog (J.alloc (.cells #[.int .i64 (i:Int)] 3)).drew=.ok (.slice A1 O.length Q) (J.alloc (.cells #[.int .i64 (i:Int)] 3)).drew:=ad _ (Fq J.drew _ _ (by
    obtain⟨es,clock,hb,_⟩:=a1
    exact(Fl.1 hb).1))
   have HN:Hid (J.cell? ⟨wr.heap.size,0,none⟩=some (.string name)/\(J.alloc (.cells #[.int .i64 (i:Int)] 3)).cell? ⟨wr.heap.size,0,none⟩=some (.string name)):=by
    have bl:J.cell? ⟨wr.heap.size,0,none⟩=some (.string name):=by rw[U,(aa.new wr _ _).cell,<-r];rfl
    exact⟨bl,by
     rw[Fu (w:=J) (Fq J _ _ (by rw[U];simp))]
     exact bl⟩
   have HO:Hid ((J.drew.alloc (.cells #[.int .i64 (i:Int)] 3)).ownsRow (w.heap.size+1) 3 1 (.slice A1 O.length Q) O.length (cH O)):=V.1.alloc _
   have HF:Hid (∀ A2 c2 w2,(J.drew.alloc (.cells #[.int .i64 (i:Int)] 3)).grownBy w2 (Value.slice A1 O.length Q).ownBlock->w2.ownsRow (w.heap.size+1) 3 1 (.slice A2 (O.length+1) c2) (O.length+1) (cH O++[.int .i64 (i:Int)])->((Value.slice A2 (O.length+1) c2).ownBlock=(Value.slice A1 O.length Q).ownBlock\/(Value.slice A2 (O.length+1) c2).ownBlock=some (J.drew.alloc (.cells #[.int .i64 (i:Int)] 3)).heap.size)->
     w2.cell? ⟨wr.heap.size,0,none⟩=some (.string name)/\∃ w3,(Instr.mapUpdate 167 (.map (some w.heap.size)) (.string name) (.slice A2 (O.length+1) c2)).run Tryz.prog w2=.ok () w3/\Hid (∃ X,w3.ownsGroups Tryz.prog 9 (w.heap.size+1) 3 .i64 w.heap.size (i+1) X/\gE X (L.map (·.2)) (i+1)/\Below w.heap.size w w3/\w.heap.size+1<=w3.heap.size)):=fun A2 c2 w2 q1 q2 q3=>by
    have ba:=V.appended q2 bz
    have hg:=(World.grownBy_alloc J.drew (.cells #[.int .i64 (i:Int)] 3) (Value.slice A1 O.length Q).ownBlock).trans q1
    obtain⟨w3,hr,bL,bn⟩:=Z w2 _ _ hg ba (by simp;omega) (q3.imp id fun e=>⟨_,e,by simp⟩)
    refine⟨?_,w3,hr,_,bL,hT.next ?_ (by rw[hD,<-r];rfl) bD (ba.datum_pos (by simp)),?_,?_⟩
    ·have hl:aa (J.drew.alloc (.cells #[.int .i64 (i:Int)] 3)) wr.heap.size 56 #[.string d.name,.int .i64 d.sort,.bool d.cL,.slice P.A d.par.length P.c,.bool d.body.list,.int .i64 d.body.k,.string d.body.T,.int .i64 d.body.ta,.int .i64 d.body.at_,.slice P.B d.body.L.length P.d]:=by
      refine(Fq J.drew _ _ (by rw[U];simp)).trans ?_
      rw[U]
      exact aa.new wr _ _
     have bE:=(ae.aB (F:=fun k=>(Value.slice A1 O.length Q).ownBlock=some k) q1 fun _ e _=>e).lies hl (aT (V.1.alloc _) hl (by decide))
     rw[bE.cell,<-r]
     rfl
    ·obtain⟨es,clock,_,_,_,rfl,_⟩:=ho
     exact⟨_,rfl⟩
    ·exact(hB.trans ((ae.none_ t1 (fun _=>id)).mono hB.size)).groups V hg bn (Fo hB.size t1.size) (Iz _) (Fm _)
    ·have:=t1.size
     have:=hg.size
     have:=bn.size
     omega
   have b5:(i:Int)<(n:Int):=by omega
   have b8:(0:Int)<=(i:Int):=by omega
   have ca:IntKind.i64.wrap ((i:Int)+1)=(i:Int)+1:=GR _ (by omega)
   have bC:O.length+1<=maxLen:=by unfold maxLen;omega
   have bB:(O.length+1)*8<=140737488355328:=by omega
   have ao:w.heap.size+1<=(J.drew.alloc (.cells #[.int .i64 (i:Int)] 3)).heap.size:=by
    have:=t1.size
    have:J.drew.heap.size=J.heap.size:=rfl
    simp
    omega
   obtain⟨zl,ah⟩:∃ zl,O.length=zl:=⟨_,rfl⟩
   obtain⟨L1,a7⟩:∃ L1,cH O=L1:=⟨_,rfl⟩
   rw[ah,a7] at HO HF
   rw[ah] at bo bp bC bB
   rw[r] at k0 U
   subst U
   clear HI ho hT hB bT hc I hL hD av r t1 a1 bb V b4 Z ad bD bz ah a7 HS HH
   go_wp2_with fail
   obtain⟨n1,n2⟩:=HN.out
   go_region_law (refine aZ rfl (.tmp 20) (.tmp 22) 44 rfl (w.heap.size+1) 3 i0 (.int .i64 0) 8 Tryz.underlying44 hi b1 b2 b3 rfl (.slice A1 zl Q) zl L1 (by simp[Act.eval]) HO.out _ 1 1 [.int .i64 (i:Int)] (by simp[Act.eval]) rfl (Gm _ _ _) (by intro u hu;simp at hu;subst hu;rfl) bC bB ao ?_;intro A2 c2 w2 o2 g2 a2;obtain⟨n3,w3,bP,H3⟩:=HF.out A2 c2 w2 g2 o2 a2;clear o2 g2 a2)
   all_goals
    clear HO HF k0 k1 k2 k3 k4 k5 k6 k7 k8 k9 bo bp n1 n2 n3 HN bP
    go_wp2
    go_roundw
    case rel=>exact⟨i+1,by omega,by go_num,H3.out⟩
    case measure=>simp[intOf];omega
  ·obtain rfl:i=n:=by omega
   obtain⟨X,ho,hT,hB,_⟩:=HI.out
   have HV:=Gn (Ig ho (Ig hT hB))
   clear HI ho hT hB HH HS bx
   go_wp2
   go_ret
   exact⟨rfl,⟨X,HV.out.1,HV.out.2.1⟩,HV.out.2.2⟩
theorem Pl.lt {D:List Dc} {s:ByteArray} {k:Nat}:∀ x∈Pl D s k,x<(k:Int):=fun x h=>by
 obtain⟨i,hi,rfl⟩:=Hh.1 h
 have:=Gu.1 (Io.1 hi).1
 omega
theorem Pl.split (D:List Dc) (s:ByteArray) (n:Nat):∀ {K:Nat},n<=K->∃ r,Pl D s K=Pl D s n++r/\∀ x∈r,(n:Int)<=x:=by
 intro K h
 induction K with
 |zero=>
  obtain rfl:n=0:=by omega
  exact⟨[],by simp,fun _ h=>(FD h).elim⟩
 |succ K O=>
  rcases GX K n with e|e
  ·obtain rfl:n=K+1:=by omega
   exact⟨[],by simp,fun _ h=>(FD h).elim⟩
  ·obtain⟨r,J,L⟩:=O e
   rw[Pl.succ]
   by_cases hd:D[K]?.map (·.name)=some s
   ·rw[Fx hd,J]
    refine⟨r++[(K:Int)],by simp,fun x I=>?_⟩
    rcases F7.1 I with I|I
    ·exact L x I
    ·rw[F0.1 I];omega
   ·rw[FQ hd]
    exact⟨r,J,L⟩
theorem Pl.decl (D:List Dc) (s:ByteArray) (n:Nat):(Bd.decl D s n=none/\Pl D s n=[])\/∃ j l,Bd.decl D s n=some j/\Pl D s n=l++[(j:Int)]:=by
 induction n with
 |zero=>exact .inl ⟨rfl,rfl⟩
 |succ k h=>
  rw[Bd.decl,Pl.succ]
  by_cases hd:D[k]?.map (·.name)=some s
  ·rw[Fx hd,Fx hd]
   exact .inr ⟨k,_,rfl,rfl⟩
  ·rw[FQ hd,FQ hd]
   exact h
def vl.cells:vl->Int×Int
 | .nothing=>(0,0)
 | .term id=>(1,id)
 | .decl j=>(2,(j:Int))
def Mk.ahead (D:List Dc) (s:ByteArray) (n:Nat):vl:=match Bd.decl D s n with
 |some j=> .decl j
 |none=> .nothing
abbrev nQ (s:ByteArray) (pb:Nat) (x:Int×Int):Array Value:=#[.string s,.map (some pb),.int .i64 x.1,.int .i64 x.2]
theorem Dv (w:World) (S pb:Nat) (D:List Dc) (K n:Nat) (s:ByteArray) (x:Int×Int) (hS:aa w S 300 (nQ s pb x)) (hP:pF w pb D K) (hs:s.size<=maxLen) (hn:n<=K) (hK:K<=1000):
  Calls Tryz.prog 287 #[.pointer (some ⟨S,0,none⟩),.int .i64 (n:Int)] w fun e w'=>e=.returned (.agg #[.int .i64 (Mk.ahead D s n).cells.1,.int .i64 (Mk.ahead D s n).cells.2])/\Below w.heap.size w w':=by
 obtain⟨J,bb⟩:∃ J,w.alloc (.cells #[.int .i64 0,.int .i64 0] 285)=J:=⟨_,rfl⟩
 have Z:Below w.heap.size w J:=by rw[<-bb];exact(Gp _ w).alloc (Fm _) _
 have a1:aa J w.heap.size 285 #[.int .i64 0,.int .i64 0]:=by rw[<-bb];exact aa.new w _ _
 have a7:=hP.below Z
 obtain⟨A,m,c,hN,ah⟩:=a7.2 s hs
 have bz:m<=1000:=by
  rw[<-hN.len]
  exact Fo (Pl.len D s K) hK
 have ad:aa J S 300 (nQ s pb x):=(Z.block S hS.lt).trans hS
 have s0:J.cell? ⟨S,0,none⟩=some (.string s):=by rw[ad.cell];rfl
 have s1:J.cell? ⟨S,1,none⟩=some (.map (some pb)):=by rw[ad.cell];rfl
 have sl:=ad.lt
 have bl:∀ nq,(Instr.lookup 167 (.map (some pb)) (.string s) false).run Tryz.prog (J.drewN nq)=.ok (.slice A m c) (J.drewN nq):=fun nq=>ah _ rfl
 obtain⟨r,X,ba⟩:=Pl.split D s n hn
 have ao:(Pl D s n).length<=m:=by rw[<-hN.len,X];simp
 have HB:Hid (∀ W,Below J.heap.size J W->Calls Tryz.prog 299 #[.slice A m c,.int .i64 (n:Int)] W fun e w'=>(∃ b,e=.returned (.tuple #[.int .i64 ((Pl D s n).length:Nat),.bool b]))/\w'=W):=fun W hW=>
  yX W A m c (Pl D s K) (hN.below hW) (by omega) n (Pl D s n).length ao (fun i y hi hy=>by
   rw[X,FO hi] at hy
   exact Pl.lt y (FP hy)) (fun i y hi hy=>by
   rw[X,Ga hi] at hy
   exact ba y (FP hy))
 have Q:=Gn Z
 have U:=Gn a1
 have HN:=Gn hN
 rcases Pl.decl D s n with⟨hd,V⟩|⟨j,l,hd,V⟩
 ·have ha:Mk.ahead D s n=.nothing:=by unfold Mk.ahead;rw[hd]
  rw[ha]
  rw[V] at HB
  clear hS hP hs hn a7 hN ah ad X ba ao hd V ha Z a1 HN
  go_enter Tryz.func287,Tryz.ntmps287
  go_wp2_with fail
  go_quiet (fail)
  go_wp2_with fail
  refine(HB.out _ (below_drewN (Gp _ J) _)).mono ?_
  rintro e w1 ⟨⟨b,rfl⟩,rfl⟩
  have L:=below_drewN (Gp J.heap.size J) nq
  have I:=(L.block _ U.out.lt).trans U.out
  have HE:Hid (Below w.heap.size w (((J.drewN nq).setCell ⟨w.heap.size,0,none⟩ (.int .i64 0)).setCell ⟨w.heap.size,1,none⟩ (.int .i64 0))):=
   (((ae.af (F:=fun k=>w.heap.size<=k) (Q.out.trans (L.mono Q.out.size))).put (p:=⟨w.heap.size,0,none⟩) (.inl (Fm _)) _).put (p:=⟨w.heap.size,1,none⟩) (.inl (Fm _)) _).below (Fm _) fun _ h=>h
  have O:=(aa.put I 0 (.int .i64 0)).put 1 (.int .i64 0)
  have k0:=aa.cell I 0
  have k1:=aa.cell I 1
  have f0:=aa.free I 0
  have f1:=aa.free I 1
  have ll:=aa.lt I
  have r0:=O.cell 0
  have r1:=O.cell 1
  simp at k0 k1 r0 r1
  clear HB Q U L I O bl s0 s1
  go_wp2
  exact GD (v:=.agg #[.int .i64 0,.int .i64 0]) (by simp[results,Tryz.results287,go_sem,r0,r1]) rfl ⟨rfl,HE.out⟩
 ·have ha:Mk.ahead D s n=.decl j:=by unfold Mk.ahead;rw[hd]
  rw[ha]
  obtain⟨q,hq⟩:∃ q,l.length=q:=⟨_,rfl⟩
  have hlen:(Pl D s n).length=q+1:=by rw[V];simp[hq]
  rw[hlen] at HB ao
  have av:(Pl D s K)[q]?=some (j:Int):=by
   rw[X,V,FO (by simp[hq]),Ga (by omega),hq]
   simp
  obtain⟨b,off,z,rfl,hz,_,_,hc⟩:=hN.get (i:=q) (by omega)
  obtain rfl:z=(j:Int):=by rw[av] at hz;exact(Fk hz).symm
  have HC:=Gn hc
  have bC:(q:Int)<(m:Int):=by omega
  have bB:(0:Int)<=(q:Int):=by omega
  have bo:(((q+1:Nat):Int) == 0)=false:=Gx.2 (by omega)
  have bp:((q+1:Nat):Int)-1=(q:Int):=by omega
  have bn:((q+1:Nat):Int)=(q:Int)+1:=by omega
  rw[bn] at HB bo bp
  clear hS hP hs hn a7 hN ah ad X ba ao hd V ha Z a1 HN hlen av hz hc hq bn
  go_enter Tryz.func287,Tryz.ntmps287
  go_wp2_with fail
  go_quiet (fail)
  go_wp2_with fail
  refine(HB.out _ (below_drewN (Gp _ J) _)).mono ?_
  rintro e w1 ⟨⟨b2,rfl⟩,rfl⟩
  have L:=below_drewN (Gp J.heap.size J) nq
  have I:=(L.block _ U.out.lt).trans U.out
  obtain⟨bx,cj⟩:=HC.out _ L
  have HE:Hid (Below w.heap.size w (((J.drewN nq).setCell ⟨w.heap.size,0,none⟩ (.int .i64 2)).setCell ⟨w.heap.size,1,none⟩ (.int .i64 (j:Int)))):=
   (((ae.af (F:=fun k=>w.heap.size<=k) (Q.out.trans (L.mono Q.out.size))).put (p:=⟨w.heap.size,0,none⟩) (.inl (Fm _)) _).put (p:=⟨w.heap.size,1,none⟩) (.inl (Fm _)) _).below (Fm _) fun _ h=>h
  have O:=(aa.put I 0 (.int .i64 2)).put 1 (.int .i64 (j:Int))
  have k0:=aa.cell I 0
  have k1:=aa.cell I 1
  have f0:=aa.free I 0
  have f1:=aa.free I 1
  have ll:=aa.lt I
  have r0:=O.cell 0
  have r1:=O.cell 1
  simp at k0 k1 r0 r1
  clear HB Q U L I O bl s0 s1 HC
  go_wp2
  exact GD (v:=.agg #[.int .i64 2,.int .i64 (j:Int)]) (by simp[results,Tryz.results287,go_sem,r0,r1]) rfl ⟨rfl,HE.out⟩
def Mk.one (D:List Dc) (s:ByteArray) (x:iH):Option vl:=match Bd.bound x.bh s with
 |some i=>some (.term i)
 |none=>if x.body=true then some (Mk.ahead D s x.ahead) else none
theorem Mk.xP (D:List Dc) (s:ByteArray) (x:iH) (l:List iH):Mk.find D s (x::l)=match Mk.one D s x with
  |some m=>m
  |none=>Mk.find D s l:=by
 rw[Mk.find]
 unfold Mk.one Mk.ahead
 cases Bd.bound x.bh s with
 |some i=>rfl
 |none=>
  cases x.body with
  |true=>
   cases Bd.decl D s x.ahead <;> rfl
  |false=>rfl
theorem Dn (wp w:World) (S pb:Nat) (D:List Dc) (K:Nat) (s:ByteArray) (x:Int×Int) (tv:Value) (y:iH) (hb:Below wp.heap.size wp w) (X:wp.heap.size<=S) (hS:aa w S 300 (nQ s pb x)) (hP:pF wp pb D K) (hs:s.size<=maxLen) (hy:jB wp (fun _=>True) tv y) (hn:y.ahead<=K) (hK:K<=1000):
  Calls Tryz.prog 271 #[.pointer (some ⟨S,0,none⟩),.agg #[tv,.bool y.body,.int .i64 (y.ahead:Int)]] w fun e w'=>e=.returned (.bool (Mk.one D s y).isSome)/\Below wp.heap.size wp w'/\aa w' S 300 (nQ s pb (((Mk.one D s y).map vl.cells).getD x)):=by
 obtain⟨I,L⟩:∃ I,w.alloc (.cells #[tv,.bool y.body,.int .i64 (y.ahead:Int)] 175)=I:=⟨_,rfl⟩
 have av:Below w.heap.size w I:=by rw[<-L];exact(Gp _ w).alloc (Fm _) _
 have V:aa I w.heap.size 175 #[tv,.bool y.body,.int .i64 (y.ahead:Int)]:=by rw[<-L];exact aa.new w _ _
 have U:Below wp.heap.size wp I:=hb.trans (av.mono hb.size)
 have J:aa I S 300 (nQ s pb x):=(av.block S hS.lt).trans hS
 have s0:I.cell? ⟨S,0,none⟩=some (.string s):=by rw[J.cell];rfl
 have sl:=J.lt
 have q0:I.cell? ⟨w.heap.size,0,none⟩=some tv:=by rw[V.cell];rfl
 have q1:I.cell? ⟨w.heap.size,1,none⟩=some (.bool y.body):=by rw[V.cell];rfl
 have q2:I.cell? ⟨w.heap.size,2,none⟩=some (.int .i64 (y.ahead:Int)):=by rw[V.cell];rfl
 have ad:Hid (∀ nq,aa (I.drewN nq) S 300 (nQ s pb x)):=fun nq=>J
 have Z:Hid (∀ nq,Below wp.heap.size wp (I.drewN nq)):=fun nq=>below_drewN U nq
 have a1:∀ nq,(Instr.lookup 115 tv (.string s) true).run Tryz.prog (I.drewN nq)=.ok (.tuple #[.int .i64 ((Bd.bound y.bh s).getD 0),.bool (Bd.bound y.bh s).isSome]) (I.drewN nq):=fun nq=>
  (hy.turn (F:=fun _=>False) (G':=fun _=>True) (ae.af (below_drewN U nq)) fun _ _ _=>⟨id,trivial⟩).look s hs
 have bn:=Gn X
 have ao:Hid (∀ nq a b,Below wp.heap.size wp (((I.drewN nq).setCell ⟨S,2,none⟩ (.int .i64 a)).setCell ⟨S,3,none⟩ (.int .i64 b))/\aa (((I.drewN nq).setCell ⟨S,2,none⟩ (.int .i64 a)).setCell ⟨S,3,none⟩ (.int .i64 b)) S 300 (nQ s pb (a,b))):=fun nq a b=>
  ⟨(((ae.af (F:=fun k=>wp.heap.size<=k) (below_drewN U nq)).put (p:=⟨S,2,none⟩) (.inl X) _).put (p:=⟨S,3,none⟩) (.inl X) _).below (Fm _) fun _ h=>h,by
   have:=(aa.put (show aa (I.drewN nq) S _ (nQ s pb x) from J) 2 (.int .i64 a)).put 3 (.int .i64 b)
   simpa using this⟩
 have a7:∀ nq,(I.drewN nq).cell? ⟨S,2,none⟩=some (.int .i64 x.1)/\(I.drewN nq).cell? ⟨S,3,none⟩=some (.int .i64 x.2)/\(I.drewN nq).frozen? ⟨S,2,none⟩=false/\(I.drewN nq).frozen? ⟨S,3,none⟩=false:=fun nq=>by
  have h:aa (I.drewN nq) S 300 (nQ s pb x):=J
  exact⟨by rw[h.cell];rfl,by rw[h.cell];rfl,h.free 2,h.free 3⟩
 have ba:=Gn a7
 obtain⟨p,rfl⟩:=hy.form
 cases O:Bd.bound y.bh s with
 |some i=>
  have h1:Mk.one D s y=some (.term i):=by unfold Mk.one;rw[O]
  rw[h1]
  rw[O] at a1
  simp only[G0,Option.isSome_some] at a1
  clear hb X hS hP hs hy hn U J V av O h1 a7 Z ad
  go_enter Tryz.func271,Tryz.ntmps271
  go_wp2_with fail
  go_quiet (fail)
  obtain⟨e2,e3,f2,f3⟩:=ba.out nq
  have HE:=Gn (ao.out nq 1 i)
  go_wp2
  go_ret
  exact⟨rfl,HE.out⟩
 |none=>
  rw[O] at a1
  simp only[Option.getD_none,Option.isSome_none] at a1
  cases r:y.body with
  |true=>
   have h1:Mk.one D s y=some (Mk.ahead D s y.ahead):=by unfold Mk.one;rw[O];exact Fx r
   rw[h1]
   have HA:Hid (∀ nq,Calls Tryz.prog 287 #[.pointer (some ⟨S,0,none⟩),.int .i64 (y.ahead:Int)] (I.drewN nq) fun e w'=>e=.returned (.agg #[.int .i64 (Mk.ahead D s y.ahead).cells.1,.int .i64 (Mk.ahead D s y.ahead).cells.2])/\Below (I.drewN nq).heap.size (I.drewN nq) w'):=fun nq=>
    Dv (I.drewN nq) S pb D K y.ahead s x J (hP.below (below_drewN U nq)) hs hn hK
   simp only[Option.isSome_some,GZ,G0]
   obtain⟨m,hm⟩:∃ m,(Mk.ahead D s y.ahead).cells=m:=⟨_,rfl⟩
   rw[hm] at HA ⊢
   obtain⟨m1,m2⟩:=m
   rw[r] at q1
   obtain⟨ah,bo⟩:∃ ah,y.ahead=ah:=⟨_,rfl⟩
   rw[bo] at HA q2 L ⊢
   rw[r] at L
   clear hb X hS hP hs hy hn U J V av O h1 a7 hm ao ba r bo
   go_enter Tryz.func271,Tryz.ntmps271
   go_wp2_with fail
   go_quiet (fail)
   go_wp2_with fail
   refine(HA.out _).mono ?_
   rintro e w1 ⟨rfl,b1⟩
   have Q:=(b1.block S (aa.lt (ad.out nq))).trans (ad.out nq)
   have e2:=aa.cell Q 2
   have e3:=aa.cell Q 3
   have f2:=aa.free Q 2
   have f3:=aa.free Q 3
   have ll:=aa.lt Q
   simp at e2 e3
   have HE:Hid (Below wp.heap.size wp ((w1.setCell ⟨S,2,none⟩ (.int .i64 m1)).setCell ⟨S,3,none⟩ (.int .i64 m2))/\aa ((w1.setCell ⟨S,2,none⟩ (.int .i64 m1)).setCell ⟨S,3,none⟩ (.int .i64 m2)) S 300 (nQ s pb (m1,m2))):=
    ⟨(((ae.af (F:=fun k=>wp.heap.size<=k) ((Z.out nq).trans (b1.mono (Z.out nq).size))).put (p:=⟨S,2,none⟩) (.inl bn.out) _).put (p:=⟨S,3,none⟩) (.inl bn.out) _).below (Fm _) fun _ h=>h,by
     have:=(aa.put Q 2 (.int .i64 m1)).put 3 (.int .i64 m2)
     simpa using this⟩
   have z1:w1.cell? ⟨w.heap.size,1,none⟩=some (.bool true):=by
    have bb:w.heap.size<(I.drewN nq).heap.size:=by rw[<-L];simp
    exact(b1.cell (p:=⟨w.heap.size,1,none⟩) bb).trans q1
   have bl:w.heap.size≠S\/True:=.inr trivial
   have z2:((w1.setCell ⟨S,2,none⟩ (.int .i64 m1)).setCell ⟨S,3,none⟩ (.int .i64 m2)).cell? ⟨w.heap.size,1,none⟩=some (.bool true):=by
    have bb:w.heap.size<(I.drewN nq).heap.size:=by rw[<-L];simp
    have hl:aa (I.drewN nq) w.heap.size 175 #[.map p,.bool true,.int .i64 (ah:Int)]:=by rw[<-L];exact aa.new w _ _
    have bp:=(b1.block _ bb).trans hl
    have bl:w.heap.size≠S:=fun e=>by
     have:=Fk (Q.symm.trans (e▸bp))
     injection this with _ h
     exact absurd h (by decide)
    have t:=(((ae.refl (fun k=>k=S) w1).put (p:=⟨S,2,none⟩) (.inl rfl) (.int .i64 m1)).put (p:=⟨S,3,none⟩) (.inl rfl) (.int .i64 m2)).lies bp bl
    rw[aa.cell t]
    rfl
   clear HA Z ad a1 b1 Q bl
   go_wp2
   go_ret
   exact⟨rfl,HE.out⟩
  |false=>
   have h1:Mk.one D s y=none:=by unfold Mk.one;rw[O];exact FQ (by rw[r];decide)
   rw[h1]
   rw[r] at q1 L
   clear hb X hS hP hs hy hn U J V av O h1 a7 ao ba r
   go_enter Tryz.func271,Tryz.ntmps271
   go_wp2_with fail
   go_quiet (fail)
   have HE:=Gn (Ig (Z.out nq) (ad.out nq))
   go_wp2
   go_ret
   exact⟨rfl,HE.out⟩
theorem xx (wp w:World) (S pb:Nat) (D:List Dc) (K:Nat) (s:ByteArray) (A:Option Addr) (n c:Nat) (SL:List (Value×iH)) (hb:Below wp.heap.size wp w) (ad:wp.heap.size<=S) (hS:aa w S 300 (nQ s pb (0,0))) (hP:pF wp pb D K) (hs:s.size<=maxLen) (hK:K<=1000)
  (Q:wp.ownsRow 0 175 3 (.slice A n c) n (SL.flatMap bw)) (X:SL.length=n) (hy:∀ q∈SL,jB wp (fun _=>True) q.1 q.2/\q.2.ahead<=K) (hn:n<=100000):
  Calls Tryz.prog 270 #[.slice A n c,.func (.func 271) #[.pointer (some ⟨S,0,none⟩)] #[]] w fun e w'=>e=.returned (.tuple #[])/\Below wp.heap.size wp w'/\aa w' S 300 (nQ s pb (Mk.says D (SL.map (·.2)) s).cells):=by
 obtain⟨R,hR⟩:∃ R,Mk.says D (SL.map (·.2)) s=R:=⟨_,rfl⟩
 rw[hR]
 have H0:Hid (Mk.find D s (((SL.take n).map (·.2)).reverse)=R):=by
  show _=_
  rw[<-X,Ib]
  exact hR
 have HE:Hid (∀ k q,SL[k]?=some q->∃ g,A=some ⟨g,0,none⟩/\g<wp.heap.size/\∀ W,Below wp.heap.size wp W->g<W.heap.size/\W.cell? ⟨g,k*3,none⟩=some q.1/\W.cell? ⟨g,k*3+1,none⟩=some (.bool q.2.body)/\W.cell? ⟨g,k*3+2,none⟩=some (.int .i64 (q.2.ahead:Int))):=fun k q O=>by
  have hk:=(Fg.1 O).1
  rcases Q.2 with⟨_,e⟩|⟨g,cap,cur,e,_,hg,_⟩
  ·omega
  ·injection e with e1 _ e3
   have L:=(Fl.1 hg).1
   have hcell:∀ j u,j<3->(bw q)[j]?=some u->wp.cell? ⟨g,k*3+j,none⟩=some u:=fun j u hj hu=>by
    have:=Q.cells (g:=g) (by rw[e1];rfl) (k*3+j) u (by rw[fg (k:=3) (fun _=>rfl) SL k j q O hj];exact hu)
    rw[addr_add,FA] at this
    exact this
   refine⟨g,e1,L,fun W hW=>⟨Fp L hW.size,?_,?_,?_⟩⟩
   ·have:=hcell 0 _ (by decide) rfl
    rw[Ho] at this
    exact(hW.cell (p:=⟨g,k*3,none⟩) L).trans this
   ·exact(hW.cell (p:=⟨g,k*3+1,none⟩) L).trans (hcell 1 _ (by decide) rfl)
   ·exact(hW.cell (p:=⟨g,k*3+2,none⟩) L).trans (hcell 2 _ (by decide) rfl)
 have HC:Hid (∀ W x q,q∈SL->Below wp.heap.size wp W->aa W S 300 (nQ s pb x)->Calls Tryz.prog 271 #[.pointer (some ⟨S,0,none⟩),.agg #[q.1,.bool q.2.body,.int .i64 (q.2.ahead:Int)]] W fun e w'=>e=.returned (.bool (Mk.one D s q.2).isSome)/\Below wp.heap.size wp w'/\aa w' S 300 (nQ s pb (((Mk.one D s q.2).map vl.cells).getD x))):=fun W x q O hW hL=>
  Dn wp W S pb D K s x q.1 q.2 hW ad hL hP hs (hy q O).1 (hy q O).2 hK
 have h:Hid (∀ q∈SL,∃ o,q.1=.map o):=fun q O=>(hy q O).1.form
 have HB:=Gn hb
 have HS:=Gn hS
 have HL:=Gn X
 clear hb hS hP hs Q X hy hR ad
 go_enter Tryz.func270,Tryz.ntmps270
 go_wp2
 go_loopw [4] (fun iv wr=>∃ k:Nat,k<=n/\iv=.int .i64 ((k:Int)-1)/\Hid (Below wp.heap.size wp wr/\aa wr S 300 (nQ s pb (0,0))/\Mk.find D s (((SL.take k).map (·.2)).reverse)=R)) (fun iv _=>(intOf iv+1).toNat)
 case atStart=>exact⟨n,Fm _,by go_num,HB.out,HS.out,H0.out⟩
 case round=>
  obtain⟨k,hk,rfl,HI⟩:=hrel
  rcases Hn k with rfl|ao
  ·obtain⟨V,h2,r⟩:=HI.out
   have e:R=.nothing:=by rw[<-r];rfl
   subst e
   have Z:=Gn (Ig V h2)
   clear HI V h2 r HE HC HB HS HL H0 h
   go_wp2
   go_end0
   exact⟨rfl,Z.out⟩
  ·obtain⟨j,rfl⟩:∃ j,k=j+1:=⟨k-1,by omega⟩
   have ah:((j+1:Nat):Int)-1=(j:Int):=by omega
   rw[ah]
   obtain⟨q,O⟩:∃ q,SL[j]?=some q:=⟨_,Ge (by rw[HL.out];omega)⟩
   obtain⟨g,rfl,hg,hc⟩:=HE.out j q O
   obtain⟨V,h2,r⟩:=HI.out
   obtain⟨L,c0,c1,c2⟩:=hc wr V
   have I:=FP O
   have U:=Gn (HC.out wr (0,0) q I V h2)
   rw[take_one O,Hf,List.reverse_append] at r
   have r:Mk.find D s (q.2::((SL.take j).map (·.2)).reverse)=R:=r
   rw[Mk.xP] at r
   obtain⟨o,ho⟩:=h.out q I
   obtain⟨qv,y⟩:=q
   simp only at ho
   subst ho
   simp only at c0 c1 c2 U r
   have a1:(0:Int)<=(j:Int):=by omega
   have a7:(j:Int)<(n:Int):=by omega
   cases J:Mk.one D s y with
   |some m=>
    rw[J] at r U
    simp only at r
    subst r
    simp only[Option.isSome_some,GZ,G0] at U
    clear O hc hg V h2 HI I HE HC HB HS HL H0 h J
    go_wp2_with fail
    refine U.out.mono ?_
    rintro e w1 ⟨rfl,b1,l1⟩
    have Z:=Gn (Ig b1 l1)
    clear U b1 l1 c0 c1 c2
    go_wp2
    first|(go_end0;exact⟨rfl,Z.out⟩)|exact GD (by simp[results,Tryz.results270,go_sem]) rfl ⟨rfl,Z.out⟩
   |none=>
    rw[J] at r U
    simp only at r
    simp only[Option.isSome_none,Option.map_none,Option.getD_none] at U
    have H3:=Gn r
    have av:IntKind.i64.wrap ((j:Int)-1)=(j:Int)-1:=GR _ (by omega)
    clear O hc hg V h2 r HI I HE HC HB HS HL H0 h J
    go_wp2_with fail
    refine U.out.mono ?_
    rintro e w1 ⟨rfl,b1,l1⟩
    have Z:=Gn (Ig b1 (Ig l1 H3.out))
    clear U b1 l1 c0 c1 c2 H3
    go_wp2
    go_roundw
    case rel=>exact⟨j,by omega,by go_num,Z.out⟩
    case measure=>simp[intOf]
structure Mk.Env.Ok (E:Mk.Env):Prop where
 dc:rX E.v E.P E.A E.n E.c E.L
 few:E.n<=200
 T:dD E.w0
 K:iJ E.w0
 lo:∀ k,E.pb<=k->k<E.v.heap.size->E.P k
 pl:∃ base q Dm,q<maxLen/\E.v.ownsGroups Tryz.prog 9 base 3 .i64 E.pb q Dm/\gE Dm E.D E.n
theorem Mk.aF.places {E:Mk.Env} (r:E.Ok) {w:World} {M:Nat} {Y:Mk.Lay} {s:Ms} (h:Mk.aF E w M Y s):pF w E.pb E.D E.n:=by
 obtain⟨base,q,O,I,J,L⟩:=r.pl
 exact ql J I L h.pl fun i hi hl e=>e (r.lo i hi hl)
theorem BI (E:Mk.Env) (hE:E.Ok) (w:World) (M:Nat) (Y:Mk.Lay) (s:Ms) (t:ByteArray) (h:Mk.aF E w M Y s) (ht:t.size<=maxLen) (ha:∀ x∈s.sc,x.ahead<=E.n) (hn:s.sc.length<=5000):
  Calls Tryz.prog 238 #[.pointer (some ⟨M,0,none⟩),.string t] w fun e w'=>e=.returned (.agg #[.int .i64 (Mk.says E.D s.sc t).cells.1,.int .i64 (Mk.says E.D s.sc t).cells.2])/\Below w.heap.size w w':=by
 have c2:w.cell? ⟨M,2,none⟩=some (.map (some E.pb)):=by rw[h.own.cell];rfl
 have c4:w.cell? ⟨M,4,none⟩=some (.slice Y.sA s.sc.length Y.sc):=by rw[h.own.cell];rfl
 have a7:=h.own.lt
 obtain⟨Q,J⟩:∃ Q,Q=(w.alloc (.cells #[.int .i64 0,.int .i64 0] 285)).alloc (.cells (nQ t E.pb (0,0)) 300):=⟨_,rfl⟩
 have av:Below w.heap.size w Q:=by rw[J];exact((Gp _ w).alloc (Fm _) _).alloc (by simp) _
 have a1:aa Q w.heap.size 285 #[.int .i64 0,.int .i64 0]:=by rw[J];exact(Fq _ _ _ (by simp)).trans (aa.new w _ _)
 have X:aa Q (w.heap.size+1) 300 (nQ t E.pb (0,0)):=by
  have:=aa.new (w.alloc (.cells #[.int .i64 0,.int .i64 0] 285)) 300 (nQ t E.pb (0,0))
  rw[H9] at this
  rw[J]
  exact this
 have Z:Y.SL.length=s.sc.length:=by rw[<-h.sl,Fi]
 obtain⟨O,L⟩:∃ O,O=w.alloc (.cells #[.int .i64 0,.int .i64 0] 285):=⟨_,rfl⟩
 have h1:Mk.aF E O M Y s:=by rw[L];exact h.alloc _
 have V:Below O.heap.size O Q:=by rw[J,L];exact(Gp _ _).alloc (Fm _) _
 have HF:Hid (Calls Tryz.prog 270 #[.slice Y.sA s.sc.length Y.sc,.func (.func 271) #[.pointer (some ⟨w.heap.size+1,0,none⟩)] #[]] Q fun e w'=>e=.returned (.tuple #[])/\Below O.heap.size O w'/\aa w' (w.heap.size+1) 300 (nQ t E.pb (Mk.says E.D s.sc t).cells)):=by
  have:=xx O Q (w.heap.size+1) E.pb E.D E.n t Y.sA s.sc.length Y.sc Y.SL V (by rw[L];simp) X (h1.places hE) ht (by have:=hE.few;omega) h1.fY Z (fun q hq=>⟨(h1.zj q hq).turn (F:=fun _=>False) (ae.refl _ _) fun _ _ _=>⟨id,trivial⟩,ha q.2 (by rw[<-h.sl];exact Ir hq)⟩) (by omega)
  rw[h.sl] at this
  exact this
 have I:Hid (aa O w.heap.size 285 #[.int .i64 0,.int .i64 0]/\Below w.heap.size w O):=by rw[L];exact⟨aa.new w _ _,(Gp _ w).alloc (Fm _) _⟩
 obtain⟨m,hm⟩:∃ m,(Mk.says E.D s.sc t).cells=m:=⟨_,rfl⟩
 rw[hm] at HF ⊢
 obtain⟨m1,m2⟩:=m
 obtain⟨sA,ah⟩:∃ sA,Y.sA=sA:=⟨_,rfl⟩
 obtain⟨sc,ao⟩:∃ sc,Y.sc=sc:=⟨_,rfl⟩
 obtain⟨n,ad⟩:∃ n,s.sc.length=n:=⟨_,rfl⟩
 rw[ah,ao,ad] at HF c4
 have ba:∀ (fn:Fn) (first cap:Array Value) (w:World),(Instr.makeFunc fn first cap).run Tryz.prog w=.ok (.func fn first cap) w:=fun _ _ _ _=>rfl
 subst J
 subst L
 clear h ht ha hn av a1 X Z h1 V hm ah ao ad
 go_enter Tryz.func238,Tryz.ntmps238
 go_wp2_with fail
 refine HF.out.mono ?_
 rintro e w1 ⟨rfl,b1,l1⟩
 have r:=(b1.block _ (aa.lt I.out.1)).trans I.out.1
 have e2:=aa.cell l1 2
 have e3:=aa.cell l1 3
 have k0:=aa.cell r 0
 have k1:=aa.cell r 1
 have f0:=aa.free r 0
 have f1:=aa.free r 1
 have ll:=aa.lt r
 have U:=(aa.put r 0 (.int .i64 m1)).put 1 (.int .i64 m2)
 have r0:=U.cell 0
 have r1:=U.cell 1
 simp at e2 e3 k0 k1 r0 r1
 have HE:Hid (Below w.heap.size w ((w1.setCell ⟨w.heap.size,0,none⟩ (.int .i64 m1)).setCell ⟨w.heap.size,1,none⟩ (.int .i64 m2))):=
  (((ae.af (F:=fun k=>w.heap.size<=k) (I.out.2.trans (b1.mono I.out.2.size))).put (p:=⟨w.heap.size,0,none⟩) (.inl (Fm _)) _).put (p:=⟨w.heap.size,1,none⟩) (.inl (Fm _)) _).below (Fm _) fun _ h=>h
 clear HF I b1 l1 r U c2 c4
 go_wp2
 exact GD (v:=.agg #[.int .i64 m1,.int .i64 m2]) (by simp[results,Tryz.results238,go_sem,r0,r1]) rfl ⟨rfl,HE.out⟩
theorem ph {I wr:World} {A:Option Addr} {N c:Nat} {xs:List UInt8} (h:iG I A N c xs wr) (z:Int) (hz:(Lit.int .i64 z).wf=true) (hl:N<=10000000) (hT:dD I):
  Calls Tryz.prog 225 #[.slice A N c,.int .i64 z,.int .i64 10] wr fun e w'=>∃ A' N' L,e=.returned (.slice A' N' L)/\iG I A' N' L (xs++Lib.itoa z) w':=by
 obtain⟨Q,U⟩:=bounds_i64 hz
 have V:=h.1
 refine(Tryz.strconv_AppendInt_10 I.heap.size N z Q U (.slice A N c) _ wr h.2.1 h.2.2.size (by omega) (hT.base (Fm _) h.2.2)).mono ?_
 rintro e X ⟨v1,rfl,r,J,_⟩
 obtain⟨O,c1,rfl⟩:=aI r
 rw[<-nW] at r
 exact⟨O,_,c1,rfl,by rw[Gb,V],r,h.2.2.trans J⟩
theorem xJ (w:World) (j:Nat) (A:Option Addr) (n c:Nat) (l:List Int) (h:aH w A n l) (hw:∀ z∈l,(Lit.int .i64 z).wf=true) (hn:n<=1000) (hj:j<=1000) (hT:dD w):
  Calls Tryz.prog 272 #[.int .i64 (j:Int),.slice A n c] w fun e w'=>e=.returned (.string (Mk.key j l))/\Below w.heap.size w w':=by
 have Z:(Lit.int .i64 (j:Int)).wf=true:=om (by omega)
 have HA:=Gn (ph (iG.zero w) (j:Int) Z (by omega) hT)
 have J:Hid (∀ wr A' N' O xs z,z∈l->iG w A' N' O xs wr->N'<=10000000->Calls Tryz.prog 225 #[.slice A' N' O,.int .i64 z,.int .i64 10] wr fun e w'=>∃ A' N' O,e=.returned (.slice A' N' O)/\iG w A' N' O (xs++Lib.itoa z) w'):=fun wr A' N' O xs z hz hs hl=>ph hs z (hw z hz) hl hT
 obtain⟨i0,hi,a1,a7,ba⟩:=Gj xy
 have HH:=Gn h
 have I:Hid (∀ i,(Mk.spell j (l.take i)).length<=30000):=fun i=>by
  have:=Mk.lX (j:=j) (A:=l.take i) hj (fun z hz=>hw z (GN hz)) (by rw[FK];have:=h.len;omega)
  have e:(Mk.key j (l.take i)).size=(Mk.spell j (l.take i)).length:=by show(Mk.spell j (l.take i)).toArray.size=_;rw[List.size_toArray]
  omega
 have H0:Hid ([]++Lib.itoa (j:Int)=Mk.spell j (l.take 0)):=by show _=_;unfold Mk.spell;simp
 have L:Hid (∀ i z,l[i]?=some z->Mk.spell j (l.take (i+1))=Mk.spell j (l.take i)++[32]++Lib.itoa z):=fun i z hz=>by
  unfold Mk.spell
  rw[take_one hz,IH]
  simp
 have HE:Hid (l.take n=l):=Gr (by rw[h.len];exact Fm _)
 clear h hw hT Z
 go_enter Tryz.func272,Tryz.ntmps272
 go_wp2_with fail
 refine HA.out.mono ?_
 rintro e w1 ⟨A1,N1,c1,rfl,s1⟩
 have S1:Hid (iG w A1 N1 c1 (Mk.spell j (l.take 0)) w1):=by rw[<-H0.out];exact s1
 clear HA s1 H0
 go_wp2
 go_loopw [5,12] (fun kv iv wr=>∃ (i N:Nat) (B:Option Addr) (d:Nat),i<=n/\kv=.slice B N d/\iv=.int .i64 (i:Nat)/\Hid (iG w B N d (Mk.spell j (l.take i)) wr)) (fun _ iv _=>n-(intOf iv).toNat)
 case atStart=>exact⟨0,N1,A1,c1,Fz _,rfl,rfl,S1.out⟩
 case round=>
  obtain⟨i,N,B,d,bp,rfl,rfl,r⟩:=hrel
  by_cases ad:i<n
  ·obtain⟨b,off,z,rfl,hz,ah,_,hc⟩:=HH.out.get ad
   obtain⟨bl,cz⟩:=hc wr r.out.2.2
   have bb:(i:Int)<(n:Int):=by omega
   have bo:(0:Int)<=(i:Int):=by omega
   have bx:IntKind.i64.wrap ((i:Int)+1)=(i:Int)+1:=GR _ (by omega)
   have hN:N<=30000:=by rw[r.out.1];exact I.out i
   have av:N+1<=maxLen:=by unfold maxLen;omega
   have HO:Hid ((wr.alloc (.cells #[.int .u8 32] 5)).ownsRow w.heap.size 5 1 (.slice B N d) N (Lib.byteCells (Mk.spell j (l.take i)))):=r.out.2.1.alloc _
   have ao:w.heap.size<=wr.heap.size+1:=Iy r.out.2.2.size
   have HZ:=Gn hz
   have V:=Gn ah
   have HS:Hid (∀ U c2 Q,(wr.alloc (.cells #[.int .u8 32] 5)).grownBy Q (Value.slice B N d).ownBlock->Q.ownsRow w.heap.size 5 1 (.slice U (N+1) c2) (N+1) (Lib.byteCells (Mk.spell j (l.take i))++[.int .u8 32])->iG w U (N+1) c2 (Mk.spell j (l.take i)++[32]) Q):=fun U c2 Q q1 q2=>by
    refine⟨by rw[Gb,r.out.1];rfl,by rw[nW];exact q2,(r.out.2.2.alloc r.out.2.2.size _).grown q1 (Fo r.out.2.2.size (by simp)) (fun k hk=>(r.out.2.1.lt k hk).1)⟩
   clear hz ah hc S1 r HH
   go_wp2_with (at_builtin;refine cZ _ rfl (.tmp 16) (.tmp 17) 229 rfl w.heap.size 5 i0 (.int .u8 0) 1 Tryz.underlying229 hi a1 a7 ba rfl (.slice B N d) N _ (by simp[Act.eval]) HO.out ⟨wr.heap.size,0,none⟩ 1 1 [.int .u8 32] (by simp[Act.eval]) rfl (Gm _ _ _) (by intro u hu;simp at hu;subst hu;rfl) av (by omega) (by simp;omega) ?_;intro U c2 Q o2 g2 a2;have S2:=Gn (HS.out U c2 Q g2 o2);clear o2 g2 a2)
   refine(J.out _ _ _ _ _ z V.out S2.out (by omega)).mono ?_
   rintro e w3 ⟨A3,N3,c3,rfl,s3⟩
   have S3:Hid (iG w A3 N3 c3 (Mk.spell j (l.take (i+1))) w3):=by rw[L.out i z HZ.out];exact s3
   clear s3 S2 HS HO J L I HE HZ V cz
   go_wp2
   go_roundw
   case rel=>exact⟨i+1,N3,A3,c3,by omega,by go_num,by go_num,S3.out⟩
   case measure=>simp[intOf];omega
  ·obtain rfl:i=n:=by omega
   have X:=r.out
   rw[HE.out] at X
   have bn:=By X.1 X.2.1
   have HB:=Gn X.2.2
   clear X r HH J I L HE S1 ad
   go_wp2
   go_ret
   exact⟨rfl,HB.out⟩
theorem yD (w:World) (nA:Option Addr) (n nc:Nat) (iA:Option Addr) (ic:Nat) (names:List ByteArray) (ids:List Int) {G:Nat->Prop} (hn:Rd w G nA n nc (names.map .string)) (hi:aH w iA n ids) (hw:∀ z∈ids,(Lit.int .i64 z).wf=true) (hs:∀ s∈names,s.size<=maxLen) (h3:n<=100000):
  Calls Tryz.prog 57 #[.slice nA n nc,.slice iA n ic] w fun e w'=>e=.returned (.map (some w.heap.size))/\Below w.heap.size w w'/\∃ q D,w'.ownsMap Tryz.prog 9 (plainElem (H:=Unit) Tryz.prog 3) w.heap.size q D/\cw D (Bd.bound (List.zip names ids)):=by
 have bo:∀ W:World,(Instr.makeMap 115 none).run Tryz.prog W=.ok (.map (some W.heap.size)) (W.alloc (.map #[] 0)):=fun W=>run_makeMap _ W
 have Q:names.length=n:=by have:=hn.len;rwa [Fi] at this
 have HN:=Gn hn
 have HI:=Gn hi
 have HW:=Gn hw
 have HS:=Gn hs
 have HL:=Gn Q
 have HZ:Hid (List.zip (names.take n) (ids.take n)=List.zip names ids):=by
  show _=_
  rw[Gr (by rw[Q];exact Fm _),Gr (by rw[hi.len];exact Fm _)]
 clear hn hi hw hs Q
 go_enter Tryz.func57,Tryz.ntmps57
 go_wp2
 go_loopw [11] (fun iv wr=>∃ i:Nat,i<=n/\iv=.int .i64 (i:Nat)/\Hid (Below w.heap.size w wr/\∃ D,wr.ownsMap Tryz.prog 9 (plainElem (H:=Unit) Tryz.prog 3) w.heap.size i D/\cw D (Bd.bound (List.zip (names.take i) (ids.take i))))) (fun iv _=>n-(intOf iv).toNat)
 case atStart=>exact⟨0,Fz _,rfl,(Gp _ _).alloc (Fm _) _,_,World.ownsMap_made _ _ _ _,cw.none_⟩
 case round=>
  obtain⟨i,bb,rfl,HR⟩:=hrel
  obtain⟨J,D,Z,hT⟩:=HR.out
  by_cases O:i<n
  ·obtain⟨bn,on,rfl,_,L,V⟩:=HN.out.at_ (by omega)
   obtain⟨s,I⟩:∃ s,names[i]?=some s:=⟨_,Ge (by rw[HL.out];exact O)⟩
   have U:=V i (.string s) (by rw[Fj,I];rfl)
   have cs:=(J.cell (p:=⟨bn,on+i,none⟩) L).trans U
   have av:bn<wr.heap.size:=Fp L J.size
   obtain⟨b,off,z,rfl,hz,ad,_,hc⟩:=HI.out.get O
   obtain⟨a7,cz⟩:=hc wr J
   have a1:(i:Int)<(n:Int):=by omega
   have ba:(0:Int)<=(i:Int):=by omega
   have bl:IntKind.i64.wrap ((i:Int)+1)=(i:Int)+1:=GR _ (by omega)
   have X:=IG (P:=Tryz.prog) Tryz.underlying9 (HS.out s (FP I))
   have ao:=HW.out z ad
   have HO:=Gn Z
   have HK:Hid (∀ w',w'.ownsMap Tryz.prog 9 (plainElem (H:=Unit) Tryz.prog 3) w.heap.size (i+1) (D.put (dF s) (.lit (.int .i64 z)))->wr.grownBy w' (some w.heap.size)->Below w.heap.size w w'/\∃ D,w'.ownsMap Tryz.prog 9 (plainElem (H:=Unit) Tryz.prog 3) w.heap.size (i+1) D/\cw D (Bd.bound (List.zip (names.take (i+1)) (ids.take (i+1))))):=fun w' q1 q2=>by
    refine⟨J.grown q2 J.size (fun k hk=>by have:=Fk hk;omega),_,q1,(hT.put (Z.tidy gC) s z).congr fun t=>?_⟩
    rw[take_one I,take_one hz,List.zip_append (by rw[FK,FK,HL.out,HI.out.len]),Bd.jO]
    show _=match Bd.bound [(s,z)] t with
     |some i=>some i
     |none=>_
    rw[Bd.bound,Bd.bound]
    by_cases e:t=s
    ·subst e;simp
    ·simp[e,Ne.symm e]
   have ah:i<maxLen:=by unfold maxLen;omega
   clear HR J Z hT V I U hz ad hc HN HI HW HS HL HZ L
   go_wp2_with (at_mapUpdate;refine Iw _ rfl _ _ _ 115 rfl 9 3 gC Tryz.underlying115 _ w.heap.size i _ rfl HO.out ah _ _ _ rfl rfl X _ [] (Iu Tryz.underlying3 ao) ?_;intro w1 r h;have V1:=Gn (HK.out w1 r h);clear r h)
   clear HO HK cs cz
   go_wp2
   go_roundw
   case rel=>exact⟨i+1,by omega,by go_num,V1.out⟩
   case measure=>simp[intOf];omega
  ·obtain rfl:i=n:=by omega
   rw[HZ.out] at hT
   have HV:=Gn (Ig J (Ig Z hT))
   clear HR J Z hT HN HI HW HS HL HZ O
   go_wp2
   go_ret
   exact⟨rfl,HV.out.1,_,_,HV.out.2.1,HV.out.2.2⟩
end Go.Proofs.YtdbgiijdgedggaaGreatDoor
