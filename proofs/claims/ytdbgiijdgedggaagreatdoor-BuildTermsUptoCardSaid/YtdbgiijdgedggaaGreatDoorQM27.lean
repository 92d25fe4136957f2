import Derived.Test.YtdbgiijdgedggaaGreatDoorQM26
set_option linter.unusedSimpArgs false
set_option linter.unusedVariables false
set_option maxRecDepth 100000
set_option maxHeartbeats 25600000
namespace Go.Proofs.YtdbgiijdgedggaaGreatDoor
open Go.RowKit
inductive Sx.bH:Sx->Prop
 |mk (x:Sx):x.T.size<=1048576->x.L.length<=1000->(∀ y∈x.L,Sx.bH y)->Sx.bH x
theorem Sx.bH.T {x:Sx} (h:Sx.bH x):x.T.size<=1048576:=by cases h;assumption
theorem Sx.bH.len {x:Sx} (h:Sx.bH x):x.L.length<=1000:=by cases h;assumption
theorem Sx.bH.all {x:Sx} (h:Sx.bH x):∀ y∈x.L,Sx.bH y:=by cases h;assumption
theorem Bd.eE:∀ {l:List Sx} {m:List (ByteArray×Sx)},(∀ y∈l,Sx.bH y)->Bd.binds l=some m->∀ q∈m,q.1.size<=1048576/\Sx.bH q.2
 |[],m,_,h=>by
  cases h
  intro q I
  cases I
 |x::l,m,hf,h=>by
  rw[Bd.binds] at h
  cases r:Bd.bI x with
  |none=>rw[r] at h;cases h
  |some b=>
   rw[r] at h
   cases J:Bd.binds l with
   |none=>rw[J] at h;cases h
   |some k=>
    rw[J] at h
    cases h
    intro q I
    rcases FE.1 I with rfl|I
    ·have L:=(hf x (by simp)).all
     unfold Bd.bI at r
     split at r
     ·rename_i n t e
      rw[e] at L
      split at r
      ·cases r
       exact⟨(L n (by simp)).T,L t (by simp)⟩
      ·cases r
     ·cases r
    ·exact Bd.eE (fun y hy=>hf y (by simp[hy])) J q I
theorem Mk.jy {D:List Dc} {t:ByteArray} {j n:Nat}:∀ (sc:List iH),(∀ x∈sc,x.ahead<=n)->Mk.find D t sc=.decl j->j<n
 |[],_,h=>by cases h
 |x::l,ha,h=>by
  rw[Mk.find] at h
  split at h
  ·cases h
  ·split at h
   ·cases hd:Bd.decl D t x.ahead with
    |none=>rw[hd] at h;cases h
    |some i=>
     rw[hd] at h
     cases h
     rcases Pl.decl D t x.ahead with⟨e,_⟩|⟨j',l',e,r⟩
     ·rw[e] at hd;cases hd
     ·rw[e] at hd
      cases hd
      have:=Pl.lt (D:=D) (s:=t) (k:=x.ahead) (j:Int) (by rw[r];simp)
      have:=ha x (by simp)
      omega
   ·exact Mk.jy l (fun y hy=>ha y (by simp[hy])) h
theorem AJ (E:Mk.Env) (hE:E.Ok) (w:World) (M:Nat) (Y:Mk.Lay) (s:Ms) (bs:List Fr) (f:Fr) (A:Option Addr) (c:Nat) (l:List Sx) (h:Mk.aF E w M Y s) (hf:s.fr=bs++[f]) (hs:Mk.Small s) (ha:∀ x∈s.sc,x.ahead<=E.n)
  (hr:au w (fun b _=>¬Mk.ag M Y b) A l) (hle:l.length<=c/\c<=maxLen) (cf:l.length<=1000) (b8:∀ y∈l,Sx.bH y):
  Calls Tryz.prog 180 #[.pointer (some ⟨M,0,none⟩),.slice A l.length c] w fun x w'=>Mk.aY E w M Y (Mk.list E.D s l) x w':=by
 obtain⟨X,cF⟩:∃ X,w.alloc (.cells #[.pointer (some ⟨M,0,none⟩)] 95)=X:=⟨_,rfl⟩
 have b2:Below w.heap.size w X:=by rw[<-cF];exact(Gp _ w).alloc (Fm _) _
 have b5:aa X w.heap.size 95 #[.pointer (some ⟨M,0,none⟩)]:=by rw[<-cF];exact aa.new w _ _
 have ao:∀ {W:World},Below X.heap.size X W->Below w.heap.size w W:=fun hW=>b2.trans (hW.mono b2.size)
 have HS:Hid (∀ W,Below X.heap.size X W->Mk.Left E w M Y s W):=fun W hW=>Mk.Left.same h (ao hW)
 cases l with
 |nil=>
  have HV:Hid (Mk.aY E w M Y (Mk.list E.D s []) (.returned (.int .i64 1)) X):=⟨rfl,HS.out X (Gp _ _)⟩
  generalize Mk.list E.D s []=R at HV ⊢
  clear h hf hs ha hr hle cf b8 b2 b5 ao HS
  go_enter Tryz.func180,Tryz.ntmps180
  go_wp2
  go_ret
  exact HV.out
 |cons x r=>
  have hR:Mk.list E.D s (x::r)=if x.list=true\/x.k≠3 then(s,(101:Int))
   else if x.T.data.toList=[108,101,116] then Mk.il s r
   else if Bd.op x.T.data.toList r.length≠0 then(Mk.nest s r (.op (Bd.op x.T.data.toList r.length)),0)
   else if Bd.reserved x.T.data.toList=true then(s,101)
   else match Mk.says E.D s.sc x.T with
    | .decl j=>if(E.D[j]?.map (·.cL)).getD false=true then(Mk.nest s r (.fn j),0) else(s,100)
    |_=>(s,100):=rfl
  obtain⟨p1,ch⟩:∃ p1,(if c=1 then A else A.map (·.add 6))=p1:=⟨_,rfl⟩
  have bD:r.length+1<=c:=hle.1
  have hcut:∀ W:World,(Instr.slice 25 (.slice A (r.length+1) c) (some (.int .i64 1)) none none).run Tryz.prog W=.ok (.slice p1 r.length (c-1)) W:=fun W=>by
   rw[<-ch]
   exact zh W (by omega)
  have bx:au w (fun b _=>¬Mk.ag M Y b) p1 r:=by rw[<-ch];exact hr.tq bD
  have bE:r.length<=c-1/\c-1<=maxLen:=⟨by omega,by have:=hle.2;omega⟩
  have b6:∀ b t,r=[b,t]->b.L.length<=1000/\∀ m,Bd.binds b.L=some m->∀ q∈m,q.1.size<=maxLen:=fun b t e=>by
   have hb:Sx.bH b:=b8 b (by rw[e];simp)
   exact⟨hb.len,fun m hm q hq=>by have:=(Bd.eE hb.all hm q hq).1;unfold maxLen;omega⟩
  have bb:Hid (∀ W,Below X.heap.size X W->Calls Tryz.prog 234 #[.pointer (some ⟨M,0,none⟩),.slice p1 r.length (c-1)] W fun x w'=>Mk.aY E w M Y (Mk.il s r) x w'):=fun W hW=>
   (Ev E W M Y s bs f p1 (c-1) r (h.below (ao hW)) hf hs (bx.kept (ao hW)) bE b6).mono fun x w' q=>q.up (ao hW)
  have J:Hid (∀ W v th,Below X.heap.size X W->jK W (fun k=>¬Mk.ag M Y k) M v th->Calls Tryz.prog 235 #[.pointer (some ⟨M,0,none⟩),.slice p1 r.length (c-1),v] W fun x w'=>Mk.aY E w M Y (Mk.nest s r th,0) x w'):=fun W v th hW cX=>
   (wM E W M Y s bs f p1 (c-1) v r th (h.below (ao hW)) hf (by have:=hs.fr;rw[hf,Gb] at this;omega) (by have:=hs.sc;omega) (by have:=(hs.ids f (by rw[hf];simp)).2;omega) bE (bx.kept (ao hW)) cX).mono fun x w' q=>q.up (ao hW)
  have cx:x.T.size<=1048576:=(b8 x (by simp)).T
  have I:Hid (∀ W,Below X.heap.size X W->Calls Tryz.prog 238 #[.pointer (some ⟨M,0,none⟩),.string x.T] W fun e w'=>e=.returned (.agg #[.int .i64 (Mk.says E.D s.sc x.T).cells.1,.int .i64 (Mk.says E.D s.sc x.T).cells.2])/\Below W.heap.size W w'):=fun W hW=>
   BI E hE W M Y s x.T (h.below (ao hW)) (by unfold maxLen;omega) ha (by have:=hs.sc;omega)
  have ad:Hid (∀ W,Below X.heap.size X W->W.cell? ⟨w.heap.size,0,none⟩=some (.pointer (some ⟨M,0,none⟩))/\w.heap.size<W.heap.size):=fun W hW=>by
   have hl:=(ae.af (F:=fun _=>False) hW).lies b5 id
   exact⟨by rw[hl.cell];rfl,hl.lt⟩
  have O:Hid (∀ k,w.heap.size<=k->¬Mk.ag M Y k):=h.out
  have bo:Hid (∀ W,Below X.heap.size X W->aa W w.heap.size 95 #[.pointer (some ⟨M,0,none⟩)]):=fun W hW=>(ae.af (F:=fun _=>False) hW).lies b5 id
  have bL:Hid (∀ j,j<E.n->∃ b off d,E.A=some ⟨b,off,none⟩/\E.D[j]?=some d/\∀ W,Below X.heap.size X W->W.cell? ⟨M,1,none⟩=some (.slice E.A E.n E.c)/\W.cell? ⟨b,off+j*10+2,none⟩=some (.bool d.cL)):=fun j hj=>by
   obtain⟨b,off,P,d,e,_,_,hD,_,hc⟩:=hE.dc.get hj
   exact⟨b,off,d,e,hD,fun W hW=>⟨by rw[(h.below (ao hW)).own.cell];rfl,(hc W (h.below (ao hW)).pl).2 2 _ rfl⟩⟩
  have a7:Hid (∀ j,Mk.says E.D s.sc x.T=.decl j->j<E.n):=fun j e=>Mk.jy s.sc.reverse (fun y hy=>ha y (Hg.1 hy)) e
  cases hr with
  |cons b off _ _ A' c' s1 _ _ _ _=>
  obtain⟨hb,d0,d1,d2,d3,d4,d5⟩:=s1
  have g:=fun(j:Nat)=>b2.cell (p:=⟨b,j,none⟩) hb
  have d0:=(g _).trans d0
  have d1:=(g _).trans d1
  have d2:=(g _).trans d2
  have d3:=(g _).trans d3
  have d4:=(g _).trans d4
  have d5:=(g _).trans d5
  have bC:=nY X x A' c'
  unfold aX at bC
  obtain⟨rn,cj⟩:∃ rn,r.length=rn:=⟨_,rfl⟩
  obtain⟨xn,cy⟩:∃ xn,x.L.length=xn:=⟨_,rfl⟩
  have hg:(x::r).length=rn+1:=by rw[FG,cj]
  rw[hg]
  rw[cj] at hcut bb J hR bD bE
  rw[cy] at d5 bC
  have cv:rn+1<=1000:=by rw[<-hg];exact cf
  obtain⟨EA,b4⟩:∃ EA,E.A=EA:=⟨_,rfl⟩
  have dN:(0:Int)<((rn+1:Nat):Int):=by omega
  have dx:(((rn+1:Nat):Int) == 0)=false:=by simp;omega
  by_cases bp:x.list=false/\x.k=3
  ·rw[FQ (by rw[bp.1,bp.2];simp)] at hR
   rw[Fx bp,FW bp] at bC
   have U:=Gn bC
   have bT:=Gn hR
   clear bC hR
   generalize Mk.list E.D s (x::r)=R at bT ⊢
   have cR:x.T.size<=1048576:=cx
   obtain⟨T,hT⟩:∃ T,x.T=T:=⟨_,rfl⟩
   rw[hT] at U bT I a7 d2
   have av:Hid (∀ W,Calls Tryz.prog 86 #[.string T,.int .i64 (rn:Int)] W fun e w'=>e=.returned (.int .i64 (Bd.op T.data.toList rn))/\w'=W):=fun W=>kQ T rn W
   have a1:Hid (∀ W,Calls Tryz.prog 39 #[.string T] W fun e w'=>e=.returned (.bool (Bd.reserved T.data.toList))/\w'=W):=fun W=>fu T W
   have Z:Hid (∀ W o,Below X.heap.size X W->Below X.heap.size X (W.alloc o)):=fun W o hW=>hW.alloc hW.size o
   have bB:Hid (∀ W,Below X.heap.size X W->w.heap.size<=W.heap.size):=fun W hW=>(ao hW).size
   have dd:∀ (fn:Fn) (first cap:Array Value) (w:World),(Instr.makeFunc fn first cap).run Tryz.prog w=.ok (.func fn first cap) w:=fun _ _ _ _=>rfl
   clear h hf hs ha hle cf b8 b2 b5 ao ch bx bE b6 cx hb g cj cy hg cv bp hT cR
   by_cases bl:T.data.toList=[108,101,116]
   ·have hb:=aq bl
    have cE:R=Mk.il s r:=by rw[bT.out,Fx bl]
    rw[<-cE] at bb
    clear cE bT J I O bo bL a7 av a1 HS Z bB b4 bl bD
    go_enter Tryz.func180,Tryz.ntmps180
    go_wp2_with fail
    refine U.out.mono ?_
    rintro e w1 ⟨rfl,b1⟩
    obtain⟨f1,f2⟩:=ad.out w1 b1
    have cz:=Gn (bb.out w1 b1)
    clear U ad bb b1 d0 d1 d2 d3 d4 d5
    go_wp2_with fail
    refine cz.out.mono ?_
    rintro e w2 ⟨rfl,v⟩
    have V:=Gn v
    clear cz v f1 f2
    go_wp2
    go_ret
    exact⟨rfl,V.out⟩
   ·have hb:=az bl
    have Q:=bT.out
    rw[FQ bl] at Q
    obtain⟨o,ho⟩:∃ o,Bd.op T.data.toList rn=o:=⟨_,rfl⟩
    rw[ho] at Q av
    clear bb bl bT ho
    by_cases h0:o=0
    ·subst h0
     rw[FQ (by simp)] at Q
     by_cases bn:Bd.reserved T.data.toList=true
     ·rw[Fx bn] at Q
      rw[bn] at a1
      subst Q
      clear J I O bo bL a7 bB b4 bn ad bD
      go_enter Tryz.func180,Tryz.ntmps180
      go_wp2_with fail
      refine U.out.mono ?_
      rintro e w1 ⟨rfl,b1⟩
      have HE:=Gn (HS.out _ (Z.out w1 (.cells #[.int .i64 0] 3) b1))
      clear U b1 d0 d1 d2 d3 d4 d5 HS Z
      go_wp2_with fail
      refine(av.out _).mono ?_
      rintro e w2 ⟨rfl,rfl⟩
      clear av
      go_wp2_with fail
      refine(a1.out _).mono ?_
      rintro e w3 ⟨rfl,rfl⟩
      clear a1
      go_wp2
      go_ret
      exact⟨rfl,HE.out⟩
     ·rw[FQ bn] at Q
      have cN:Bd.reserved T.data.toList=false:=by simpa using bn
      rw[cN] at a1
      clear bn cN
      obtain⟨q,hq⟩:∃ q,Mk.says E.D s.sc T=q:=⟨_,rfl⟩
      rw[hq] at I a7 Q
      have ca:True:=trivial
      cases q with
      |decl j=>
       obtain⟨b9,c6,d,e9,hd,cl⟩:=bL.out j (a7.out j rfl)
       have bP:=Gn cl
       rw[e9] at bP
       have c8:(j:Int)<(E.n:Int):=by have:=a7.out j rfl;omega
       have c7:(0:Int)<=(j:Int):=by omega
       simp only[hd,GZ,G0] at Q
       simp only[vl.cells] at I
       obtain⟨cL,cq⟩:∃ cL,d.cL=cL:=⟨_,rfl⟩
       rw[cq] at Q bP
       have cb:Hid (∀ W o,Below X.heap.size X W->M<W.heap.size/\M<(W.alloc o).heap.size):=fun W o hW=>by
        obtain⟨Y',r1,_⟩:=HS.out W hW
        obtain⟨Y2,r2,_⟩:=HS.out _ (Z.out W o hW)
        exact⟨r1.own.lt,r2.own.lt⟩
       clear bL a7 b4 cl e9 hd cq hq ca bD
       cases cL with
       |true=>
        rw[Fx rfl] at Q
        subst Q
        clear HS
        go_enter Tryz.func180,Tryz.ntmps180
        go_wp2_with fail
        refine U.out.mono ?_
        rintro e w1 ⟨rfl,b1⟩
        have B1:=Gn (Z.out w1 (.cells #[.int .i64 0] 3) b1)
        clear U b1 d0 d1 d2 d3 d4 d5
        go_wp2_with fail
        refine(av.out _).mono ?_
        rintro e w2 ⟨rfl,rfl⟩
        clear av
        go_wp2_with fail
        refine(a1.out _).mono ?_
        rintro e w3 ⟨rfl,rfl⟩
        clear a1
        obtain⟨f1,f2⟩:=ad.out _ B1.out
        have bz:=Gn (I.out _ B1.out)
        go_wp2_with fail
        refine bz.out.mono ?_
        rintro e w3 ⟨rfl,b3⟩
        have B3:=Gn (B1.out.trans (b3.mono B1.out.size))
        clear bz I b3 f1 f2
        obtain⟨W4,b7⟩:∃ W4,w3.alloc (.cells #[.int .i64 2,.int .i64 (j:Int)] 285)=W4:=⟨_,rfl⟩
        have ah:=Z.out w3 (.cells #[.int .i64 2,.int .i64 (j:Int)] 285) B3.out
        rw[b7] at ah
        have ba:aa W4 w3.heap.size 285 #[.int .i64 2,.int .i64 (j:Int)]:=by rw[<-b7];exact aa.new w3 _ _
        obtain⟨f1,f2⟩:=ad.out W4 ah
        obtain⟨m1,m2⟩:=bP.out W4 ah
        have mM:=(cb.out W4 (.cells #[] 3) ah).1
        have k0:=ba.cell 0
        have k1:=ba.cell 1
        have kl:=ba.lt
        simp at k0 k1
        have HN:Hid (∀ nq,Calls Tryz.prog 235 #[.pointer (some ⟨M,0,none⟩),.slice p1 rn (c-1),.func (.func 239) #[] #[.pointer (some ⟨w.heap.size,0,none⟩),.pointer (some ⟨w3.heap.size,0,none⟩)]] (W4.drewN nq) fun x w'=>Mk.aY E w M Y (Mk.nest s r (.fn j),0) x w'):=fun nq=>
         J.out _ _ (.fn j) (below_drewN ah nq) ⟨w.heap.size,w3.heap.size,rfl,O.out _ (Fm _),O.out _ (bB.out _ B3.out),bo.out _ (below_drewN ah nq),(ae.af (F:=fun _=>False) (below_drewN (Gp _ W4) nq)).lies ba id⟩
        clear ah ba J bo O ad Z bB bP cb B1 B3
        go_wp2_with fail
        go_quiet (fail)
        go_wp2_with fail
        refine(HN.out _).mono ?_
        rintro e w5 ⟨rfl,v⟩
        have V:=Gn v
        clear HN v f1 f2 m1 m2 k0 k1
        go_wp2
        go_ret
        exact⟨rfl,V.out⟩
       |false=>
        rw[FQ (by decide)] at Q
        subst Q
        clear J bo O
        go_enter Tryz.func180,Tryz.ntmps180
        go_wp2_with fail
        refine U.out.mono ?_
        rintro e w1 ⟨rfl,b1⟩
        have B1:=Gn (Z.out w1 (.cells #[.int .i64 0] 3) b1)
        clear U b1 d0 d1 d2 d3 d4 d5
        go_wp2_with fail
        refine(av.out _).mono ?_
        rintro e w2 ⟨rfl,rfl⟩
        clear av
        go_wp2_with fail
        refine(a1.out _).mono ?_
        rintro e w3 ⟨rfl,rfl⟩
        clear a1
        obtain⟨f1,f2⟩:=ad.out _ B1.out
        have bz:=Gn (I.out _ B1.out)
        go_wp2_with fail
        refine bz.out.mono ?_
        rintro e w3 ⟨rfl,b3⟩
        have B3:=Gn (B1.out.trans (b3.mono B1.out.size))
        clear bz I b3 f1 f2
        obtain⟨W4,b7⟩:∃ W4,w3.alloc (.cells #[.int .i64 2,.int .i64 (j:Int)] 285)=W4:=⟨_,rfl⟩
        have ah:=Z.out w3 (.cells #[.int .i64 2,.int .i64 (j:Int)] 285) B3.out
        rw[b7] at ah
        have ba:aa W4 w3.heap.size 285 #[.int .i64 2,.int .i64 (j:Int)]:=by rw[<-b7];exact aa.new w3 _ _
        obtain⟨f1,f2⟩:=ad.out W4 ah
        obtain⟨m1,m2⟩:=bP.out W4 ah
        have mM:=(cb.out W4 (.cells #[] 3) ah).1
        have k0:=ba.cell 0
        have k1:=ba.cell 1
        have kl:=ba.lt
        simp at k0 k1
        have HV:Hid (∀ nq,Mk.Left E w M Y s (W4.drewN nq)):=fun nq=>HS.out _ (below_drewN ah nq)
        clear ah ba ad Z bB bP cb B1 B3 HS
        go_wp2_with fail
        go_quiet (fail)
        go_wp2
        go_ret
        exact⟨rfl,HV.out _⟩
      |_=>
       simp only[vl.cells] at I
       simp only at Q
       subst Q
       clear bL a7 b4 hq ca bD J bo O
       go_enter Tryz.func180,Tryz.ntmps180
       go_wp2_with fail
       refine U.out.mono ?_
       rintro e w1 ⟨rfl,b1⟩
       have B1:=Gn (Z.out w1 (.cells #[.int .i64 0] 3) b1)
       clear U b1 d0 d1 d2 d3 d4 d5
       go_wp2_with fail
       refine(av.out _).mono ?_
       rintro e w2 ⟨rfl,rfl⟩
       clear av
       go_wp2_with fail
       refine(a1.out _).mono ?_
       rintro e w3 ⟨rfl,rfl⟩
       clear a1
       obtain⟨f1,f2⟩:=ad.out _ B1.out
       have bz:=Gn (I.out _ B1.out)
       go_wp2_with fail
       refine bz.out.mono ?_
       rintro e w3 ⟨rfl,b3⟩
       have B3:=Gn (B1.out.trans (b3.mono B1.out.size))
       have HV:Hid (∀ o nq,Mk.Left E w M Y s ((w3.alloc o).drewN nq)):=fun o nq=>HS.out _ (below_drewN (Z.out w3 o B3.out) nq)
       clear bz I b3 f1 f2 B3 HS Z bB ad B1
       go_wp2_with fail
       go_quiet (fail)
       go_wp2
       go_ret
       exact⟨rfl,HV.out _ _⟩
    ·rw[Fx h0] at Q
     subst Q
     have cY:(o != 0)=true:=by simp[h0]
     clear I bL a7 a1 HS b4 h0 bD
     go_enter Tryz.func180,Tryz.ntmps180
     go_wp2_with fail
     refine U.out.mono ?_
     rintro e w1 ⟨rfl,b1⟩
     have cc:=Z.out w1 (.cells #[.int .i64 o] 3) b1
     obtain⟨f1,f2⟩:=ad.out _ cc
     have HN:=Gn (J.out (w1.alloc (.cells #[.int .i64 o] 3)) (.func (.func 236) #[] #[.pointer (some ⟨w.heap.size,0,none⟩),.pointer (some ⟨w1.heap.size,0,none⟩)]) (.op o) cc ⟨w.heap.size,w1.heap.size,rfl,O.out _ (Fm _),O.out _ (bB.out _ b1),bo.out _ cc,aa.new w1 _ _⟩)
     clear U b1 cc d0 d1 d2 d3 d4 d5 J O bo Z bB ad
     go_wp2_with fail
     refine(av.out _).mono ?_
     rintro e w2 ⟨rfl,rfl⟩
     clear av
     go_wp2_with fail
     refine HN.out.mono ?_
     rintro e w3 ⟨rfl,v⟩
     have V:=Gn v
     clear HN v f1 f2
     go_wp2
     go_ret
     exact⟨rfl,V.out⟩
  ·rw[Fx (by
    by_cases h1:x.list=true
    ·exact .inl h1
    ·exact .inr fun h2=>bp ⟨by simpa using h1,h2⟩)] at hR
   rw[FQ bp,Gq bp] at bC
   have U:=Gn bC
   have HE:Hid (∀ W,Below X.heap.size X W->Mk.aY E w M Y (Mk.list E.D s (x::r)) (.returned (.int .i64 101)) W):=fun W hW=>by rw[hR];exact⟨rfl,HS.out W hW⟩
   generalize Mk.list E.D s (x::r)=R at HE ⊢
   clear h hf hs ha hle cf b8 b2 b5 ao HS hR ch bD hcut bx bE b6 bb J cx I ad O bo bL a7 hb g bC cj cy hg cv b4 bp
   go_enter Tryz.func180,Tryz.ntmps180
   go_wp2_with fail
   refine U.out.mono ?_
   rintro e w1 ⟨rfl,b1⟩
   have cP:=Gn (HE.out w1 b1)
   clear U b1 d0 d1 d2 d3 d4 d5 HE
   go_wp2
   go_ret
   exact cP.out
structure Rf.Ok (D:List Dc) (K i S:Nat) (s:Rf.St) (more rest:Nat):Prop where
 inv:Tm.Inv s.N
 len:s.N.length<=20000
 nV:Bd.In s.N (s.sc.map (·.2))
 cD:Bd.ew D s.N s.made
 apart:Bd.ck D K s.made
 fits:Bd.Fits D i S s.made more s.k rest
theorem Rf.Ok.shift {D:List Dc} {K i S:Nat} {s:Rf.St} {a b c rest:Nat} (h:Rf.Ok D K i S s (a+b) rest) (hc:c=b+rest):Rf.Ok D K i S s a c:=⟨h.inv,h.len,h.nV,h.cD,h.apart,by have:=h.fits;unfold Bd.Fits at this ⊢;omega⟩
theorem Rf.Ok.back {D:List Dc} {K i S:Nat} {s:Rf.St} {a b c rest:Nat} (h:Rf.Ok D K i S s a c) (hc:c=b+rest):Rf.Ok D K i S s (a+b) rest:=⟨h.inv,h.len,h.nV,h.cD,h.apart,by have:=h.fits;unfold Bd.Fits at this ⊢;omega⟩
theorem Rf.Ok.less {D:List Dc} {K i S:Nat} {s:Rf.St} {a b rest:Nat} (h:Rf.Ok D K i S s a rest) (hb:b<=a):Rf.Ok D K i S s b rest:=⟨h.inv,h.len,h.nV,h.cD,h.apart,by have:=h.fits;unfold Bd.Fits at this ⊢;omega⟩
def Rf.lf (s:Rf.St) (m:List Md):Prop:=∀ q∈m,q∈s.made\/q.1<s.k
def Rf.Does (E:Rf.Env) (i S:Nat) (w:World) (Y:Rf.Lay) (s:Rf.St) (N:List Nd) (err:Int) (rest:Nat) (w':World):Prop:=
 ∃ m',Rf.Left E w Y ⟨N,s.k,s.sc,m'⟩ w'/\(err=0->Rf.Ok E.D E.n i S ⟨N,s.k,s.sc,m'⟩ 0 rest)/\Rf.lf s m'
def Rf.aY (E:Rf.Env) (i S:Nat) (w:World) (Y:Rf.Lay) (s:Rf.St) (r:bN) (rest:Nat) (e:Ending) (w':World):Prop:=
 e=.returned (.tuple #[.int .i64 r.2.1,.int .i64 r.2.2])/\Rf.Does E i S w Y s r.1 r.2.2 rest w'
def Rf.Term (E:Rf.Env) (i S k:Nat) (x:Sx):Prop:=
 ∀ (w:World) (Y:Rf.Lay) (s:Rf.St) (rest:Nat) (h:Option Addr) (r:Nat),s.k=k->Rf.aF E w Y s->Rf.Ok E.D E.n i S s (Bd.makes E.D i k x) rest->aJ w (fun b _=>¬Rf.ag E Y b) x h r->Sx.bH x->s.sc.length+x.size<=100000->
  Calls Tryz.prog 46 #[.pointer (some ⟨E.mb,0,none⟩),aX x h r] w fun e w'=>Rf.aY E i S w Y s (Bd.tm E.D k s.sc s.N x) rest e w'
abbrev Rf.wt (D:List Dc) (i k:Nat):ByteArray->Nat->Nat:=Bd.weight D i k (Bd.body D i k)
def Bd.cont (acc:List Int) (r:List Nd×List Int×Int):List Nd×List Int×Int:=if r.2.2=0 then(r.1,acc++r.2.1,0) else(r.1,[],r.2.2)
theorem Bd.yJ (f:List Nd->Sx->bN) (N:List Nd) (l:List Sx):Bd.cont [] (Bd.each f N l)=Bd.each f N l:=by
 have h:(Bd.each f N l).2.2≠0->(Bd.each f N l).2.1=[]:=by
  induction l generalizing N with
  |nil=>exact fun e=>absurd rfl e
  |cons x l Q=>
   rw[Bd.each]
   cases f N x with
   |mk N' r=>
    obtain⟨id,e⟩:=r
    simp only
    by_cases he:e=0
    ·rw[Fx he]
     cases O:Bd.each f N' l with
     |mk J r=>
      obtain⟨ids,L⟩:=r
      simp only
      by_cases I:L=0
      ·rw[Fx I];exact fun e=>absurd rfl e
      ·rw[FQ I];exact fun _=>rfl
    ·rw[FQ he];exact fun _=>rfl
 unfold Bd.cont
 by_cases he:(Bd.each f N l).2.2=0
 ·rw[Fx he,FY,<-he]
 ·rw[FQ he,<-h he]
theorem Bd.vH (f:List Nd->Sx->bN) (acc:List Int) (N:List Nd) (x:Sx) (l:List Sx):Bd.cont acc (Bd.each f N (x::l))=if(f N x).2.2=0 then Bd.cont (acc++[(f N x).2.1]) (Bd.each f (f N x).1 l) else((f N x).1,[],(f N x).2.2):=by
 rw[Bd.each]
 cases f N x with
 |mk N' r=>
  obtain⟨id,e⟩:=r
  simp only
  by_cases he:e=0
  ·rw[Fx he,Fx he]
   cases Bd.each f N' l with
   |mk I r=>
    obtain⟨ids,J⟩:=r
    simp only
    by_cases h:J=0
    ·rw[Fx h]
     unfold Bd.cont
     simp only
     rw[Fx h,F3]
     rfl
    ·rw[FQ h]
     unfold Bd.cont
     simp only
     rw[FQ h,FQ h]
  ·rw[FQ he,FQ he]
   unfold Bd.cont
   simp only
   rw[FQ he]
def Rf.Each (E:Rf.Env) (i S:Nat) (w:World) (Y:Rf.Lay) (s:Rf.St) (r:List Nd×List Int×Int) (rest:Nat) (e:Ending) (w':World):Prop:=
 ∃ (Y':Rf.Lay) (m':List Md) (A':Option Addr) (n' h:Nat),e=.returned (.tuple #[.slice A' n' h,.int .i64 r.2.2])/\Rf.aF E w' Y' ⟨r.1,s.k,s.sc,m'⟩/\Y'.X=Y.X/\ae (Rf.ag E Y) w w'/\(∀ k,Rf.ag E Y' k->Rf.ag E Y k\/w.heap.size<=k)/\Rf.lf s m'/\
  (r.2.2=0->Rf.Ok E.D E.n i S ⟨r.1,s.k,s.sc,m'⟩ 0 rest/\aH w' A' n' r.2.1/\Gs (Rf.free E Y') A' n'/\(A'=none->n'=0/\h=0)/\n'<=1000)
def Rf.zk (E:Rf.Env) (i S:Nat) (w:World) (Y:Rf.Lay) (s:Rf.St) (l:List Sx) (R:List Nd×List Int×Int) (rest:Nat) (wr:World) (j:Nat) (A:Option Addr) (c:Nat):Prop:=
 ∃ (r:Rf.Lay) (I:List Md) (h:List Nd) (ids:List Int),Rf.aF E wr r ⟨h,s.k,s.sc,I⟩/\r.X=(fun k=>Y.X k\/ak A=some k)/\ae (Rf.ag E Y) w wr/\(∀ k,Rf.ag E r k->Rf.ag E Y k\/w.heap.size<=k)/\Rf.lf s I/\
  Rf.Ok E.D E.n i S ⟨h,s.k,s.sc,I⟩ (Bd.bQ (Rf.wt E.D i s.k) (l.drop j)) rest/\wr.ownsRow w.heap.size 3 1 (.slice A j c) j (cH ids)/\Bd.cont ids (Bd.each (Bd.tm E.D s.k s.sc) h (l.drop j))=R
theorem Rf.zk.init {E:Rf.Env} {i S:Nat} {w:World} {Y:Rf.Lay} {s:Rf.St} {l:List Sx} {rest:Nat} (h:Rf.aF E w Y s) (r:Rf.Ok E.D E.n i S s (Bd.bQ (Rf.wt E.D i s.k) l) rest):Rf.zk E i S w Y s l (Bd.each (Bd.tm E.D s.k s.sc) s.N l) rest w 0 none 0:=
 ⟨Y,s.made,s.N,[],h,by funext k;exact propext ⟨.inl,fun e=>e.elim id fun e=>by cases e⟩,ae.refl _ _,fun _=> .inl,fun _=> .inl,r,Gg _ _ _ _,Bd.yJ _ _ _⟩
theorem Rf.zk.next {E:Rf.Env} {i S:Nat} {w I L:World} {Y U:Rf.Lay} {s:Rf.St} {l:List Sx} {R:List Nd×List Int×Int} {rest j:Nat} {A O:Option Addr} {c c2:Nat} {N':List Nd} {m1:List Md} {ids:List Int} {id:Int}
  (h:Rf.aF E I U ⟨N',s.k,s.sc,m1⟩) (Z:U.X=fun k=>Y.X k\/ak A=some k) (ht:ae (Rf.ag E Y) w I) (hf:∀ k,Rf.ag E U k->Rf.ag E Y k\/w.heap.size<=k) (hw:Rf.lf s m1) (hO:Rf.Ok E.D E.n i S ⟨N',s.k,s.sc,m1⟩ (Bd.bQ (Rf.wt E.D i s.k) (l.drop (j+1))) rest)
  (hr:I.ownsRow w.heap.size 3 1 (.slice A j c) j (cH ids)) (hg:(I.alloc (.cells #[.int .i64 id] 3)).grownBy L (Value.slice A j c).ownBlock) (ho:L.ownsRow w.heap.size 3 1 (.slice O (j+1) c2) (j+1) (cH ids++[.int .i64 id])) (hl:ak O=ak A\/ak O=some (I.alloc (.cells #[.int .i64 id] 3)).heap.size)
  (hc:Bd.cont (ids++[id]) (Bd.each (Bd.tm E.D s.k s.sc) N' (l.drop (j+1)))=R):Rf.zk E i S w Y s l R rest L (j+1) O c2:=by
 obtain⟨Q,J⟩:∃ Q,I.alloc (.cells #[.int .i64 id] 3)=Q:=⟨_,rfl⟩
 have ad:Q.heap.size=I.heap.size+1:=by rw[<-J];simp
 have b1:Below I.heap.size I Q:=by rw[<-J];exact(Gp _ _).alloc (Fm _) _
 rw[J] at hg hl
 rw[aj] at hg
 have V:∀ k,ak A=some k->w.heap.size<=k:=fun k r=>(hr.lt k (by rw[aj];exact r)).1
 have tg:ae (fun k=>ak A=some k) Q L:=ae.aB hg fun _ e _=>e
 have t12:ae (fun k=>ak A=some k) I L:=(ae.af b1).trans tg fun _ e=> .inl e
 have tX:ae U.X I L:=t12.mono fun k _ r=>by rw[Z];exact .inr r
 refine⟨{ U with X:=fun k=>Y.X k\/ak O=some k },m1,N',ids++[id],h.sb tX fun k r=>⟨?_,?_⟩,rfl,ht.trans t12 fun k r=> .inr (V k r),hf,hw,hO,?_,hc⟩
 ·rw[Z]
  rcases r with r|r
  ·exact .inl (.inl r)
  ·rcases hl with e|e
   ·exact .inl (.inr (e▸r))
   ·rw[e] at r
    have:=Fk r
    exact .inr (by omega)
 ·rcases r with r|r
  ·exact Fp (h.vY k (by rw[Z];exact .inl r)) t12.size
  ·exact(ho.lt k (by rw[aj];exact r)).2
 ·unfold cH
  rw[Hf]
  exact ho
theorem aH.Ai {w:World} {B:Nat} {A:Option Addr} {n c:Nat} {l:List Int} (h:w.ownsRow B 3 1 (.slice A n c) n (cH l)):aH w A n l:=
 ⟨by have:=h.1;unfold cH at this;rw[Fi] at this;omega,fun hn=>by
  rcases h.2 with⟨_,e⟩|⟨g,cap,cur,e,_,I,_⟩
  ·omega
  ·injection e with r _ _
   refine⟨g,0,r,(Fl.1 I).1,fun i x J=>?_⟩
   have:=h.cells (g:=g) (by rw[r];rfl) i (.int .i64 x) (by rw[Fj,J];rfl)
   simpa [addr_add] using this⟩
theorem Rf.zk.done {E:Rf.Env} {i S:Nat} {w w1:World} {Y:Rf.Lay} {s:Rf.St} {l:List Sx} {R:List Nd×List Int×Int} {rest n:Nat} {A:Option Addr} {c:Nat} (h:Rf.zk E i S w Y s l R rest w1 n A c) (hn:l.length=n) (hx:∀ k,Y.X k->k<w.heap.size) (V:n<=1000):R.2.2=0/\Rf.Each E i S w Y s R rest (.returned (.tuple #[.slice A n c,.int .i64 0])) w1:=by
 obtain⟨Yj,mj,I,ids,L,O,h3,h4,hw,Z,Q,U⟩:=h
 rw[Gz (by omega)] at Z U
 have e7:Bd.cont ids (Bd.each (Bd.tm E.D s.k s.sc) I [])=(I,ids,0):=by
  show Bd.cont ids (I,[],0)=_
  unfold Bd.cont
  rw[Fx rfl,GH]
 rw[e7] at U
 subst U
 have hb:=fun k r=>Q.lt k (by rw[aj];exact r)
 refine⟨rfl,{ Yj with X:=Y.X },mj,A,n,c,rfl,L.sb (ae.refl _ _) fun k r=>⟨.inl (by rw[O];exact .inl r),L.vY k (by rw[O];exact .inl r)⟩,rfl,h3,h4,hw,fun _=>⟨Z,aH.Ai Q,fun a ea ad=>?_,fun e=>?_,V⟩⟩
 ·subst ea
  have r:=hb a.block rfl
  exact⟨L.BH a.block (by rw[O];exact .inr rfl),fun e=>by have:=hx _ e;omega⟩
 ·subst e
  rcases Q.2 with⟨e,_⟩|⟨g,cap,cur,e,_⟩
  ·injection e with _ J e2
   exact⟨J,e2⟩
  ·injection e with J
   cases J
theorem sU (E:Rf.Env) (i S:Nat) (w:World) (Y:Rf.Lay) (s:Rf.St) (rest:Nat) (A:Option Addr) (n c:Nat) (l:List Sx) (av:∀ y∈l,Rf.Term E i S s.k y/\Sx.bH y/\s.sc.length+y.size<=100000) (h:Rf.aF E w Y s) (hO:Rf.Ok E.D E.n i S s (Bd.bQ (Rf.wt E.D i s.k) l) rest)
  (ht:au w (fun b _=>¬Rf.ag E Y b) A l) (hn:l.length=n) (bL:n<=1000):
  Calls Tryz.prog 138 #[.pointer (some ⟨E.mb,0,none⟩),.slice A n c] w fun e w'=>Rf.Each E i S w Y s (Bd.each (Bd.tm E.D s.k s.sc) s.N l) rest e w':=by
 obtain⟨i0,hi,bP,bT,b1⟩:=Gj oJ
 have I:=Gn (Rf.zk.init h hO)
 obtain⟨R,hR⟩:∃ R,Bd.each (Bd.tm E.D s.k s.sc) s.N l=R:=⟨_,rfl⟩
 rw[hR] at I ⊢
 have ad:=Gn av
 have L:=Gn ht
 have HX:=Gn h.vY
 have HL:=Gn hn
 clear av h hO ht hn hR
 go_enter Tryz.func138,Tryz.ntmps138
 go_wp2
 go_loopw [6,7] (fun ov iv wr=>∃ (j co:Nat) (Ao:Option Addr),j<=n/\ov=.slice Ao j co/\iv=.int .i64 (j:Nat)/\Hid (Rf.zk E i S w Y s l R rest wr j Ao co)) (fun _ iv _=>n-(intOf iv).toNat)
 case atStart=>exact⟨0,0,none,Fz _,rfl,rfl,I.out⟩
 case round=>
  obtain⟨j,co,Ao,hj,rfl,rfl,HI⟩:=hrel
  by_cases bl:j<n
  ·obtain⟨Yj,mj,Nj,ids,h1,h2,V,Z,hw,h5,h6,r⟩:=HI.out
   have bx:au wr (fun b _=>¬Rf.ag E Yj b) A l:=L.out.bR V fun k hk hf=>⟨hf,fun e=>(Z k e).elim hf fun e=>by omega⟩
   obtain⟨b,off,y,A',c',rfl,hy,hs,_,hle,bz⟩:=bx.get (i:=j) (by rw[HL.out];exact bl)
   obtain⟨bb,bC⟩:=Fg.1 hy
   have ba:l.drop j=y::l.drop (j+1):=by rw[<-bC];exact FC bb
   rw[ba] at h5 r
   rw[Bd.vH] at r
   obtain⟨bn,bo,bp⟩:=ad.out y (FP hy)
   have hT:=bn wr Yj ⟨Nj,s.k,s.sc,mj⟩ (Bd.bQ (Rf.wt E.D i s.k) (l.drop (j+1))+rest) A' c' rfl h1 (h5.shift rfl) ⟨hle,bz⟩ bo bp
   simp only at hT
   obtain⟨T,a1⟩:∃ T,Bd.tm E.D s.k s.sc Nj y=T:=⟨_,rfl⟩
   rw[a1] at hT r
   obtain⟨N',id,er⟩:=T
   simp only at hT r
   obtain⟨_,y0,y1,y2,y3,y4,y5⟩:=hs
   obtain⟨yl,yk,yT,b5,ya,yL⟩:=y
   unfold aX at hT
   simp only at hT y0 y1 y2 y3 y4 y5
   obtain⟨yn,bB⟩:∃ yn,yL.length=yn:=⟨_,rfl⟩
   rw[bB] at hT y5
   have HT:=Gn hT
   have H1:=Gn (Ig h1 (Ig h2 (Ig V (Ig Z hw))))
   have H6:=Gn h6
   have H7:=Gn r
   have b4:(j:Int)<(n:Int):=by omega
   have b3:(0:Int)<=(j:Int):=by omega
   clear h1 h2 V Z hw h5 h6 r bx hy bb bC ba bn bo bp hT a1 bz hle bB HI ad
   go_wp2_with fail
   refine HT.out.mono ?_
   rintro e w1 ⟨rfl,m',⟨Y1,r1,x1,t1,f1⟩,Q,ao⟩
   obtain⟨h1,h2,V,Z,hw⟩:=H1.out
   have O:Rf.lf s m':=fun q hq=>(ao q hq).elim (hw q) .inr
   have tt:ae (Rf.ag E Y) w w1:=V.trans t1 Z
   have ff:∀ k,Rf.ag E Y1 k->Rf.ag E Y k\/w.heap.size<=k:=fun k hk=>(f1 k hk).elim (Z k) fun e=> .inr (Fo V.size e)
   have o1:=t1.own H6.out fun g hg=>h1.BH g (by rw[h2];exact .inr (by rw[aj] at hg;exact hg))
   have J:Y1.X=fun k=>Y.X k\/ak Ao=some k:=x1.trans h2
   simp only at Q r1
   by_cases he:er=0
   ·subst he
    have r:=H7.out
    rw[Fx rfl] at r
    have ah:=(Q rfl).back (b:=Bd.bQ (Rf.wt E.D i s.k) (l.drop (j+1))) rfl
    rw[FA] at ah
    have HN:Hid (∀ U c2 w2,(w1.alloc (.cells #[.int .i64 id] 3)).grownBy w2 (Value.slice Ao j co).ownBlock->w2.ownsRow w.heap.size 3 1 (.slice U (j+1) c2) (j+1) (cH ids++[.int .i64 id])->(ak U=ak Ao\/ak U=some (w1.alloc (.cells #[.int .i64 id] 3)).heap.size)->Rf.zk E i S w Y s l R rest w2 (j+1) U c2):=
     fun U c2 w2 g o q=>Rf.zk.next r1 J tt ff O ah o1 g o q r
    have HO:=Gn (o1.alloc (.cells #[.int .i64 id] 3))
    have a7:w.heap.size<=(w1.alloc (.cells #[.int .i64 id] 3)).heap.size:=by have:=tt.size;simp;omega
    have bD:j+1<=maxLen:=by unfold maxLen;omega
    have bE:(j+1)*8<=140737488355328:=by omega
    have b2:IntKind.i64.wrap ((j:Int)+1)=(j:Int)+1:=GR _ (by omega)
    clear HT H1 H6 H7 r1 x1 t1 f1 Q ao hw O h1 h2 V Z tt ff o1 J r ah y0 y1 y2 y3 y4 y5 L HX HL I
    go_wp2_with (at_builtin;refine cZ _ rfl (.tmp 28) (.tmp 30) 44 rfl w.heap.size 3 i0 (.int .i64 0) 8 Tryz.underlying44 hi bP bT b1 rfl (.slice Ao j co) j (cH ids) (by simp[Act.eval]) HO.out ⟨w1.heap.size,0,none⟩ 1 1 [.int .i64 id] (by simp[Act.eval]) rfl (Gm _ _ _) (by intro u hu;simp at hu;subst hu;rfl) bD bE a7 ?_;intro U c2 w2 o2 g2 a2;have S2:=Gn (HN.out U c2 w2 g2 o2 (by rw[aj,aj] at a2;exact a2));clear o2 g2 a2)
    clear HN HO a7
    go_wp2
    go_roundw
    case rel=>exact⟨j+1,c2,U,by omega,by go_num,by go_num,S2.out⟩
    case measure=>simp[intOf];omega
   ·have r:=H7.out
    rw[FQ he] at r
    have d1:(er != 0)=true:=by simpa using he
    have HV:Hid (Rf.Each E i S w Y s R rest (.returned (.tuple #[.slice none 0 0,.int .i64 er])) w1):=by
     rw[<-r]
     exact⟨{ Y1 with X:=Y.X },m',none,0,0,rfl,r1.sb (ae.refl _ _) fun k hk=>⟨.inl (by rw[J];exact .inl hk),r1.vY k (by rw[J];exact .inl hk)⟩,rfl,tt,ff,O,fun e=>absurd e he⟩
    clear HT H1 H6 H7 r1 x1 t1 f1 Q ao hw O h1 h2 V Z tt ff o1 J r he y0 y1 y2 y3 y4 y5 L HX HL I
    go_wp2
    exact GD (by simp[results,Tryz.results138,go_sem]) rfl HV.out
  ·obtain rfl:j=n:=by omega
   obtain⟨hz,hv⟩:=HI.out.done HL.out HX.out bL
   have HV:=Gn hv
   clear HI HX HL L ad I hz hv bl
   go_wp2
   exact GD (by simp[results,Tryz.results138,go_sem]) rfl HV.out
theorem Bd.yG {D:List Dc} {j:Nat} {d:Dc} {A:List Int} {N:List Nd} (hd:D[j]?=some d) (h:A.length≠d.par.length):Bd.fn D j A N=(N,0,1):=by
 unfold Bd.fn Bd.fV
 rw[hd]
 exact Fx h
theorem Bd.AB {D:List Dc} {j i:Nat} {d:Dc} {A:List Int} {N:List Nd} {x:Int} {p:ByteArray×Int} (hd:D[j]?=some d) (h:A.length=d.par.length) (I:A[i]?=some x) (hp:d.par[i]?=some p) (r:Bd.aC N x≠p.2):Bd.fn D j A N=(N,0,90):=by
 unfold Bd.fn Bd.fV
 rw[hd]
 simp only
 rw[FQ (by rw[h];exact fun e=>e rfl),Fx]
 rw[Il]
 refine⟨(x,p),FP (i:=i) ?_,FW r⟩
 rw[List.getElem?_zip_eq_some]
 exact⟨I,hp⟩
theorem Bd.Bg {D:List Dc} {j:Nat} {d:Dc} {A:List Int} {N:List Nd} (hd:D[j]?=some d) (h:A.length=d.par.length) (hs:∀ (i:Nat) x p,A[i]?=some x->d.par[i]?=some p->Bd.aC N x=p.2):Bd.fn D j A N=Bd.tm D j (List.zip (d.par.map (·.1)) A) N d.body:=by
 unfold Bd.fn Bd.fV
 rw[hd]
 simp only
 rw[FQ (by rw[h];exact fun e=>e rfl),FQ]
 rw[Il]
 rintro⟨q,I,r⟩
 obtain⟨i,hi⟩:=Ic I
 rw[List.getElem?_zip_eq_some] at hi
 exact(FX r) (hs i _ _ hi.1 hi.2)
abbrev qV (p:ByteArray×Int):List Value:=[.string p.1,.int .i64 p.2]
def dU (w:World) (B:Nat) (A:Option Addr) (n c:Nat) (l:Sc):Prop:=l.length=n/\w.ownsRow B 120 2 (.slice A n c) n (l.flatMap qV)
theorem dU.dI (w:World) (B:Nat):dU w B none 0 0 []:=⟨rfl,Gg _ _ _ _⟩
theorem dU.Er {w:World} {B:Nat} {A:Option Addr} {n c:Nat} {l:Sc} (h:dU w B A n c l) {G:Nat->Prop} (L:∀ k,B<=k->k<w.heap.size->G k):eQ w G A n c l:=by
 obtain⟨rfl,h⟩:=h
 refine⟨rfl,fun e=>?_,⟨fun hn=>?_⟩⟩
 ·subst e
  rcases h.2 with⟨e,_⟩|⟨g,cap,cur,e,_⟩
  ·injection e with _ I J
   exact⟨I,J⟩
  ·injection e with I
   cases I
 ·have r:=fun g O=>Gh h g O
  rcases h.2 with⟨_,e⟩|⟨g,cap,cur,e,_⟩
  ·omega
  ·injection e with I _ _
   subst I
   have hc:∀ (i j:Nat) p u,l[i]?=some p->j<2->(qV p)[j]?=some u->w.cell? ⟨g,0+(i*2+j),none⟩=some u:=fun i j p u hp Q hu=>by
    have:=h.cells (g:=g) rfl (i*2+j) u (by rw[fg (k:=2) (f:=qV) (fun _=>rfl) l i j p hp Q];exact hu)
    rwa [addr_add] at this
   refine⟨g,0,rfl,L g (r g rfl).1 (r g rfl).2,(r g rfl).2,fun i p hp=>⟨?_,?_⟩⟩
   ·have:=hc i 0 p _ hp (by decide) rfl
    simpa using this
   ·have:=hc i 1 p _ hp (by decide) rfl
    simpa [Ie] using this
theorem dU.snoc {w:World} {B:Nat} {A:Option Addr} {n c:Nat} {l:Sc} {p:ByteArray×Int} (hl:l.length=n) (h:w.ownsRow B 120 2 (.slice A (n+1) c) (n+1) (l.flatMap qV++qV p)):dU w B A (n+1) c (l++[p]):=
 ⟨by simp[hl],by rw[IH];simpa using h⟩
theorem pU {z:Sc} {ns:List ByteArray} {ids:List Int} {q:Nat} {s:ByteArray} {x:Int} (hz:List.zip ns ids=z) (hn:ns[q]?=some s) (h:ids[q]?=some x):z.take (q+1)=z.take q++[(s,x)]:=
 take_one (by rw[<-hz,List.getElem?_zip_eq_some];exact⟨hn,h⟩)
theorem tH {w:World} {A:Option Addr} {n:Nat} {l:List Int} (h:aH w A n l) {i:Nat} (hi:i<n):∃ b off x,A=some ⟨b,off,none⟩/\l[i]?=some x/\b<w.heap.size/\∀ W,Below w.heap.size w W->W.cell? ⟨b,off+i,none⟩=some (.int .i64 x):=by
 obtain⟨b,off,e,r,hc⟩:=h.at_ (by omega)
 obtain⟨x,I⟩:∃ x,l[i]?=some x:=⟨_,Ge (by rw[h.len];exact hi)⟩
 exact⟨b,off,x,e,I,r,fun W J=>(J.cell (p:=⟨b,off+i,none⟩) r).trans (hc i x I)⟩
abbrev DE (P:iZ) (d:Dc):Obj:=.cells #[.string d.name,.int .i64 d.sort,.bool d.cL,.slice P.A d.par.length P.c,.bool d.body.list,.int .i64 d.body.k,.string d.body.T,.int .i64 d.body.ta,.int .i64 d.body.at_,.slice P.B d.body.L.length P.d] 56
theorem Rf.Ok.made {D:List Dc} {K i S:Nat} {s:Rf.St} {N':List Nd} {m':List Md} {r rest j:Nat} {ids:List Int} {id:Int} {d:Dc} {U:Sc} (Z:j<s.k) (X:s.k<=K) (hd:D[j]?=some d) (O:d.cL=true) (hl:ids.length=d.par.length) (h:Rf.Ok D K i S ⟨N',j,U,m'⟩ 0 r) (V:Tm.Inv s.N) (I:Bd.In s.N ids) (Q:Bd.In s.N (s.sc.map (·.2))) (hf:Bd.fn D j ids s.N=(N',id,0))
  (hn:∀ q∈m',¬(q.1=j/\q.2.1=ids)) (J:∀ (m':List Md) (A:List Int) (id:Int),A.length=d.par.length->Bd.Fits D i S m' 0 j r->Bd.Fits D i S (m'++[(j,A,id)]) 0 s.k rest):Rf.Ok D K i S ⟨N',s.k,s.sc,m'++[(j,ids,id)]⟩ 0 rest:=by
 obtain⟨⟨g1,g2,_,_⟩,_⟩:=Bd.yH D j ids s.N V I
 simp only[hf] at g1 g2
 have L:=I.ext g2
 have hlen:=h.len
 refine⟨h.inv,h.len,Q.ext g2,h.cD.add V I hf,h.apart.add (Fp Z X) ?_ (fun a ha=>?_) hn,J m' ids id hl h.fits⟩
 ·unfold Bd.arity
  rw[hd]
  simp only
  rw[Fx O,hl]
 ·have:=L a ha
  simp only at hlen
  omega
end Go.Proofs.YtdbgiijdgedggaaGreatDoor
