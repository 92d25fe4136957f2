import Derived.Test.YtdbgiijdgedggaaGreatDoorQM27
import Derived.Test.YtdbgiijdgedggaaGreatDoorQM28
set_option linter.unusedSimpArgs false
set_option linter.unusedVariables false
set_option maxRecDepth 100000
set_option maxHeartbeats 25600000
namespace Go.Proofs.YtdbgiijdgedggaaGreatDoor
open Go.RowKit
theorem Mk.zU (D:List Dc) (s:Ms) (t:ByteArray):Mk.name D s t=
 if t.data.toList=[116,114,117,101]\/t.data.toList=[102,97,108,115,101] then Mk.aO s (Tm.bool s.N (decide (t.data.toList=[116,114,117,101])))
 else if Bd.reserved t.data.toList=true then(s,101)
 else match Mk.says D s.sc t with
  | .nothing=>(s,100)
  | .term id=>Mk.give s id 0
  | .decl j=>match D[j]? with
   |none=>(s,100)
   |some d=>if d.cL=true then Mk.call D s j [] else Mk.aO s (Tm.const s.N d.name d.sort):=rfl
theorem Ed (E:Mk.Env) (hE:E.Ok) (w:World) (M:Nat) (Y:Mk.Lay) (s:Ms) (bs:List Fr) (f:Fr) (t:ByteArray) (h:Mk.aF E w M Y s) (hf:s.fr=bs++[f]) (hs:Mk.Small s) (ha:∀ x∈s.sc,x.ahead<=E.n) (ht:t.size<=1048576)
  (bp:∀ (j:Nat) d,E.D[j]?=some d->d.par.length<=1000/\∀ p∈d.par,p.1.size<=maxLen):
  Calls Tryz.prog 246 #[.pointer (some ⟨M,0,none⟩),.string t] w fun x w'=>Mk.aY E w M Y (Mk.name E.D s t) x w':=by
 have hR:=Mk.zU E.D s t
 have bC:=hs.N
 have bn:bs.length<=5000:=by have:=hs.fr;rw[hf,Gb] at this;omega
 have bo:f.ids.length<=100000:=by have:=(hs.ids f (by rw[hf];simp)).1;omega
 have c0:w.cell? ⟨M,0,none⟩=some (.pointer (some ⟨E.bk,0,none⟩)):=by rw[h.own.cell];rfl
 have zM:=h.own.lt
 by_cases av:t.data.toList=[116,114,117,101]\/t.data.toList=[102,97,108,115,101]
 ·rw[Fx av] at hR
  rw[hR]
  have HB:Hid (∀ b,Calls Tryz.prog 280 #[.pointer (some ⟨E.bk,0,none⟩),.bool b] w fun e O=>e=.returned (.tuple #[.int .i64 (Tm.bool s.N b).2.1,.int .i64 (Tm.bool s.N b).2.2])/\Calls Tryz.prog 237 #[.pointer (some ⟨M,0,none⟩),.int .i64 (Tm.bool s.N b).2.1,.int .i64 (Tm.bool s.N b).2.2] O fun x w'=>Mk.aY E w M Y (Mk.aO s (Tm.bool s.N b)) x w'):=fun b=>
   (Db w E.bk Y.Fb s.N h.aO b (by omega) (h.pow hE)).mono fun e O q=>⟨(Mk.dC h q).1,Mk.given (Mk.dC h q).2 hf hs⟩
  have a1:=Gn (HB.out (decide (t.data.toList=[116,114,117,101])))
  have cc:(t.toList == [116,114,117,101])=decide (t.data.toList=[116,114,117,101]):=by
   by_cases e:t.data.toList=[116,114,117,101]
   ·rw[aq e,FW e]
   ·rw[az e,Gq e]
  have b4:t.data.toList≠[116,114,117,101]->(t.toList == [102,97,108,115,101])=true:=fun e=>aq (av.resolve_left e)
  generalize Mk.aO s (Tm.bool s.N (decide (t.data.toList=[116,114,117,101])))=R at a1 ⊢
  generalize Tm.bool s.N (decide (t.data.toList=[116,114,117,101]))=q at a1
  obtain⟨q0,q1,q2⟩:=q
  obtain⟨bk,bl⟩:∃ bk,E.bk=bk:=⟨_,rfl⟩
  rw[bl] at a1 c0
  by_cases e:t.data.toList=[116,114,117,101]
  ·rw[FW e] at cc a1
   clear h hf hs ha ht bp hR bC bn bo av HB b4 bl e
   go_enter Tryz.func246,Tryz.ntmps246
   go_wp2_with fail
   refine a1.out.mono ?_
   rintro e O ⟨rfl,hg⟩
   have HG:=Gn hg
   clear a1 hg
   go_wp2_with fail
   refine HG.out.mono ?_
   rintro e w2 ⟨rfl,v⟩
   have V:=Gn v
   clear HG v
   go_wp2
   go_ret
   exact⟨rfl,V.out⟩
  ·have c7:=b4 e
   rw[Gq e] at cc a1
   clear h hf hs ha ht bp hR bC bn bo av HB b4 bl e
   go_enter Tryz.func246,Tryz.ntmps246
   go_wp2_with fail
   refine a1.out.mono ?_
   rintro e O ⟨rfl,hg⟩
   have HG:=Gn hg
   clear a1 hg
   go_wp2_with fail
   refine HG.out.mono ?_
   rintro e w2 ⟨rfl,v⟩
   have V:=Gn v
   clear HG v
   go_wp2
   go_ret
   exact⟨rfl,V.out⟩
 ·rw[FQ av] at hR
  have c8:=az fun e=>av (.inl e)
  have dd:=az fun e=>av (.inr e)
  have ad:Hid (Calls Tryz.prog 39 #[.string t] w fun e w'=>e=.returned (.bool (Bd.reserved t.data.toList))/\w'=w):=fu t w
  by_cases Z:Bd.reserved t.data.toList=true
  ·rw[Fx Z] at hR
   rw[hR]
   rw[Z] at ad
   have HV:Hid (Mk.Left E w M Y s w):=Mk.Left.same h (Gp _ w)
   clear h hf hs ha ht bp hR bC bn bo av Z c0 zM
   go_enter Tryz.func246,Tryz.ntmps246
   go_wp2_with fail
   refine ad.out.mono ?_
   rintro e O ⟨rfl,rfl⟩
   clear ad
   go_wp2
   go_ret
   exact⟨rfl,HV.out⟩
  ·rw[FQ Z] at hR
   have b1:Bd.reserved t.data.toList=false:=by simpa using Z
   rw[b1] at ad
   have J:=BI E hE w M Y s t h (by unfold maxLen;omega) ha (by have:=hs.sc;omega)
   cases hq:Mk.says E.D s.sc t with
   |nothing=>
    rw[hq] at hR J
    rw[hR]
    simp only[vl.cells] at J
    have HS:=Gn J
    have HV:Hid (∀ W,Below w.heap.size w W->Mk.Left E w M Y s W):=fun W Q=>Mk.Left.same h Q
    clear h hf hs ha ht bp hR bC bn bo av Z c0 zM J b1 hq
    go_enter Tryz.func246,Tryz.ntmps246
    go_wp2_with fail
    refine ad.out.mono ?_
    rintro e O ⟨rfl,rfl⟩
    clear ad
    go_wp2_with fail
    refine HS.out.mono ?_
    rintro e w2 ⟨rfl,b2⟩
    have HE:Hid (∀ o,Mk.Left E O M Y s (w2.alloc o)):=fun o=>HV.out _ (b2.alloc b2.size o)
    clear HS b2 HV
    go_wp2
    go_ret
    exact⟨rfl,HE.out _⟩
   |term id=>
    rw[hq] at hR J
    rw[hR]
    simp only[vl.cells] at J
    have HS:=Gn J
    have HG:Hid (∀ W,Below w.heap.size w W->Calls Tryz.prog 237 #[.pointer (some ⟨M,0,none⟩),.int .i64 id,.int .i64 0] W fun x w'=>Mk.aY E w M Y (Mk.give s id 0) x w'):=fun W Q=>(pk E W M Y s bs f id 0 (h.below Q) hf bn bo).mono fun x w' q=>q.up Q
    simp only
    generalize Mk.give s id 0=R at HG ⊢
    clear h hf hs ha ht bp hR bC bn bo av Z c0 zM J b1 hq
    go_enter Tryz.func246,Tryz.ntmps246
    go_wp2_with fail
    refine ad.out.mono ?_
    rintro e O ⟨rfl,rfl⟩
    clear ad
    go_wp2_with fail
    refine HS.out.mono ?_
    rintro e w2 ⟨rfl,b2⟩
    have HE:Hid (∀ o,Calls Tryz.prog 237 #[.pointer (some ⟨M,0,none⟩),.int .i64 id,.int .i64 0] (w2.alloc o) fun x w'=>Mk.aY E O M Y R x w'):=fun o=>HG.out _ (b2.alloc b2.size o)
    clear HS b2 HG
    go_wp2_with fail
    refine(HE.out _).mono ?_
    rintro e w3 ⟨rfl,v⟩
    have V:=Gn v
    clear HE v
    go_wp2
    go_ret
    exact⟨rfl,V.out⟩
   |decl j=>
    rw[hq] at hR J
    simp only[vl.cells] at J
    have hj:j<E.n:=Mk.jy s.sc.reverse (fun y hy=>ha y (Hg.1 hy)) hq
    obtain⟨b,off,P,d,b9,_,_,hD,cX,hc⟩:=hE.dc.get hj
    have HS:=Gn J
    simp only[hD] at hR
    have cY:(j:Int)<(E.n:Int):=by omega
    have dx:(0:Int)<=(j:Int):=by omega
    have HC:Hid (∀ W,Below w.heap.size w W->M<W.heap.size/\W.cell? ⟨M,0,none⟩=some (.pointer (some ⟨E.bk,0,none⟩))/\W.cell? ⟨M,1,none⟩=some (.slice (some ⟨b,off,none⟩) E.n E.c)/\∀ i u,(fN P d)[i]?=some u->W.cell? ⟨b,off+j*10+i,none⟩=some u):=fun W Q=>
     ⟨(h.below Q).own.lt,by rw[(h.below Q).own.cell];rfl,by rw[(h.below Q).own.cell,<-b9];rfl,(hc W (h.below Q).pl).2⟩
    obtain⟨cL,bP⟩:∃ cL,d.cL=cL:=⟨_,rfl⟩
    have HT:Hid (∀ W,Below w.heap.size w W->∀ q,aa W q 285 #[.int .i64 2,.int .i64 (j:Int)]->W.cell? ⟨q,1,none⟩=some (.int .i64 (j:Int))):=fun W Q q hq=>by rw[hq.cell];rfl
    have bx:Hid (∀ W,Below w.heap.size w W->d.cL=true->Calls Tryz.prog 240 #[.pointer (some ⟨M,0,none⟩),.int .i64 (j:Int),.slice none 0 0] W fun x w'=>Mk.aY E w M Y (Mk.name E.D s t) x w'):=fun W Q hm=>by
     rw[hR,Fx hm]
     exact(BF E hE W M Y s bs f j none 0 0 [] (h.below Q) hf hs hj (aH.nil _ _) (fun z hz=>by cases hz) (Fz _) (bp j)).mono fun x w' q=>q.up Q
    have ba:Hid (∀ W,Below w.heap.size w W->d.cL=false->Calls Tryz.prog 35 #[.pointer (some ⟨E.bk,0,none⟩),.string d.name,.int .i64 d.sort] W fun e O=>∃ q1 q2:Int,e=.returned (.tuple #[.int .i64 q1,.int .i64 q2])/\(∀ k cs tt,w.heap.size<=k->aa W k tt cs->aa O k tt cs)/\O.cell? ⟨M,0,none⟩=some (.pointer (some ⟨E.bk,0,none⟩))/\Calls Tryz.prog 237 #[.pointer (some ⟨M,0,none⟩),.int .i64 q1,.int .i64 q2] O fun x w'=>Mk.aY E w M Y (Mk.name E.D s t) x w'/\(∀ k cs tt,w.heap.size<=k->aa W k tt cs->aa w' k tt cs)/\w'.cell? ⟨M,0,none⟩=some (.pointer (some ⟨E.bk,0,none⟩))):=fun W Q hm=>by
     rw[hR,FQ (by rw[hm];decide)]
     refine(zp W E.bk Y.Fb s.N (h.below Q).aO d.name d.sort (by omega) ((h.below Q).pow hE)).mono fun e O q=>?_
     obtain⟨e1,e2⟩:=Mk.dC (h.below Q) q
     refine⟨_,_,e1,fun k cs tt hk hl=>Mk.cp e2 hl (h.out k hk),?_,(Mk.given e2 hf hs).mono fun x w' q=>⟨q.up Q,fun k cs tt hk hl=>Mk.cp q.2 hl (h.out k hk),?_⟩⟩
     ·obtain⟨Y',r1,_⟩:=e2
      rw[r1.own.cell]
      rfl
     ·obtain⟨Y',r1,_⟩:=q.2
      rw[r1.own.cell]
      rfl
    have HB:Hid (∀ W,Below w.heap.size w W->w.heap.size<=W.heap.size):=fun W Q=>Q.size
    have cR:=fN P d
    clear cR
    obtain⟨x0,b5⟩:∃ x0,d.name=x0:=⟨_,rfl⟩
    obtain⟨x1,b6⟩:∃ x1,d.sort=x1:=⟨_,rfl⟩
    obtain⟨y3,cE⟩:∃ y3,P.A=y3:=⟨_,rfl⟩
    obtain⟨m3,cj⟩:∃ m3,d.par.length=m3:=⟨_,rfl⟩
    obtain⟨z3,cN⟩:∃ z3,P.c=z3:=⟨_,rfl⟩
    obtain⟨x4,cq⟩:∃ x4,d.body.list=x4:=⟨_,rfl⟩
    obtain⟨x5,cv⟩:∃ x5,d.body.k=x5:=⟨_,rfl⟩
    obtain⟨x6,cx⟩:∃ x6,d.body.T=x6:=⟨_,rfl⟩
    obtain⟨x7,cy⟩:∃ x7,d.body.ta=x7:=⟨_,rfl⟩
    obtain⟨x8,cz⟩:∃ x8,d.body.at_=x8:=⟨_,rfl⟩
    obtain⟨y9,cF⟩:∃ y9,P.B=y9:=⟨_,rfl⟩
    obtain⟨m9,cl⟩:∃ m9,d.body.L.length=m9:=⟨_,rfl⟩
    obtain⟨z9,cP⟩:∃ z9,P.d=z9:=⟨_,rfl⟩
    obtain⟨En,b3⟩:∃ En,E.n=En:=⟨_,rfl⟩
    obtain⟨Ec,ca⟩:∃ Ec,E.c=Ec:=⟨_,rfl⟩
    obtain⟨bk,bl⟩:∃ bk,E.bk=bk:=⟨_,rfl⟩
    have HD:Hid (∀ W,Below w.heap.size w W->∀ w2,aa W w2 285 #[.int .i64 2,.int .i64 (j:Int)]->W.cell? ⟨M,1,none⟩=some (.slice (some ⟨b,off,none⟩) En Ec)/\W.cell? ⟨w2,1,none⟩=some (.int .i64 (j:Int))/\W.cell? ⟨b,off+j*10,none⟩=some (.string x0)/\W.cell? ⟨b,off+j*10+1,none⟩=some (.int .i64 x1)/\W.cell? ⟨b,off+j*10+2,none⟩=some (.bool cL)/\W.cell? ⟨b,off+j*10+3,none⟩=some (.slice y3 m3 z3)/\W.cell? ⟨b,off+j*10+4,none⟩=some (.bool x4)/\W.cell? ⟨b,off+j*10+5,none⟩=some (.int .i64 x5)/\W.cell? ⟨b,off+j*10+6,none⟩=some (.string x6)/\W.cell? ⟨b,off+j*10+7,none⟩=some (.int .i64 x7)/\W.cell? ⟨b,off+j*10+8,none⟩=some (.int .i64 x8)/\W.cell? ⟨b,off+j*10+9,none⟩=some (.slice y9 m9 z9)):=fun W Q w2 hq=>by
     obtain⟨_,_,q2,q3⟩:=HC.out W Q
     rw[b3,ca] at q2
     rw[<-b5,<-b6,<-bP,<-cE,<-cj,<-cN,<-cq,<-cv,<-cx,<-cy,<-cz,<-cF,<-cl,<-cP]
     exact⟨q2,HT.out W Q w2 hq,by have:=q3 0 _ rfl;rwa [Ho] at this,q3 1 _ rfl,q3 2 _ rfl,q3 3 _ rfl,q3 4 _ rfl,q3 5 _ rfl,q3 6 _ rfl,q3 7 _ rfl,q3 8 _ rfl,q3 9 _ rfl⟩
    have bz:Hid (∀ W,Below w.heap.size w W->M<W.heap.size/\W.cell? ⟨M,0,none⟩=some (.pointer (some ⟨bk,0,none⟩))):=fun W Q=>by rw[<-bl];exact⟨(HC.out W Q).1,(HC.out W Q).2.1⟩
    rw[bP] at bx ba
    rw[b5,b6,bl] at ba
    rw[b3] at cY
    clear h hf hs ha ht bp hR bC bn bo av Z c0 zM J b1 hq hj b9 hD cX hc HC bP b5 b6 cE cj cN cq cv cx cy cz cF cl cP b3 ca bl HT
    cases cL with
    |true=>
     have bb:Hid (∀ W,Below w.heap.size w W->Calls Tryz.prog 240 #[.pointer (some ⟨M,0,none⟩),.int .i64 (j:Int),.slice none 0 0] W fun x w'=>Mk.aY E w M Y (Mk.name E.D s t) x w'):=fun W Q=>bx.out W Q rfl
     generalize Mk.name E.D s t=R at bb ⊢
     clear bx ba
     go_enter Tryz.func246,Tryz.ntmps246
     go_wp2_with fail
     refine ad.out.mono ?_
     rintro e O ⟨rfl,rfl⟩
     clear ad
     go_wp2_with fail
     refine HS.out.mono ?_
     rintro e w2 ⟨rfl,b2⟩
     obtain⟨r,bL⟩:∃ r,w2.alloc (.cells #[.int .i64 2,.int .i64 (j:Int)] 285)=r:=⟨_,rfl⟩
     have ao:aa r w2.heap.size 285 #[.int .i64 2,.int .i64 (j:Int)]:=by rw[<-bL];exact aa.new w2 _ _
     have U:Below O.heap.size O r:=by rw[<-bL];exact b2.alloc b2.size _
     have I:Below O.heap.size O r.drew:=⟨U.os,U.tape,U.output,U.size,U.block⟩
     have bD:=Gn (HD.out r.drew I _ ao)
     have bE:=Gn fun(o:Obj)=>HD.out (r.drew.alloc o) (I.alloc I.size o) w2.heap.size (((ae.refl (fun _=>False) r.drew).alloc o).lies (show aa r.drew _ _ _ from ao) id)
     have k0:=ao.cell 0
     have kl:=ao.lt
     simp at k0
     have mM:=(bz.out r.drew I).1
     clear HS b2 U
     go_wp2_with fail
     go_region_held3 (fun W=>W.cell? ⟨M,1,none⟩=some (.slice (some ⟨b,off,none⟩) En Ec)/\W.cell? ⟨w2.heap.size,1,none⟩=some (.int .i64 (j:Int))/\W.cell? ⟨b,off+j*10,none⟩=some (.string x0)/\W.cell? ⟨b,off+j*10+1,none⟩=some (.int .i64 x1)/\W.cell? ⟨b,off+j*10+2,none⟩=some (.bool true)/\W.cell? ⟨b,off+j*10+3,none⟩=some (.slice y3 m3 z3)/\W.cell? ⟨b,off+j*10+4,none⟩=some (.bool x4)/\W.cell? ⟨b,off+j*10+5,none⟩=some (.int .i64 x5)/\W.cell? ⟨b,off+j*10+6,none⟩=some (.string x6)/\W.cell? ⟨b,off+j*10+7,none⟩=some (.int .i64 x7)/\W.cell? ⟨b,off+j*10+8,none⟩=some (.int .i64 x8)/\W.cell? ⟨b,off+j*10+9,none⟩=some (.slice y9 m9 z9))
      (first|(with_reducible exact bD.out)|exact bE.out _)
      (fail)
     all_goals
      obtain⟨W5,a7⟩:∃ W5,W5=(r.alloc (.cells #[.string x0,.int .i64 x1,.bool true,.slice y3 m3 z3,.bool x4,.int .i64 x5,.string x6,.int .i64 x7,.int .i64 x8,.slice y9 m9 z9] 56)).drew:=⟨_,rfl⟩
      rw[<-a7]
      have bB:Below r.heap.size r W5:=by
       have:=(Gp r.heap.size r).alloc (Fm _) (.cells #[.string x0,.int .i64 x1,.bool true,.slice y3 m3 z3,.bool x4,.int .i64 x5,.string x6,.int .i64 x7,.int .i64 x8,.slice y9 m9 z9] 56)
       rw[a7]
       exact⟨this.os,this.tape,this.output,this.size,this.block⟩
      have X:aa W5 r.heap.size 56 #[.string x0,.int .i64 x1,.bool true,.slice y3 m3 z3,.bool x4,.int .i64 x5,.string x6,.int .i64 x7,.int .i64 x8,.slice y9 m9 z9]:=by rw[a7];exact aa.new r _ _
      have ah:Below O.heap.size O W5:=(show Below O.heap.size O r from⟨I.os,I.tape,I.output,I.size,I.block⟩).trans (bB.mono I.size)
      have l0:=X.cell 0
      have l1:=X.cell 1
      have l2:=X.cell 2
      have c6:=X.lt
      simp at l0 l1 l2
      have q5:=(HD.out W5 ah w2.heap.size ((ae.af (F:=fun _=>False) bB).lies ao id)).2.1
      have b8:=Gn (bb.out W5 ah)
      clear bB X ah bb HD a7 bz HB bD bE k0 I ao
      go_wp2_with fail
      refine b8.out.mono ?_
      rintro e w6 ⟨rfl,v⟩
      have V:=Gn v
      clear b8 v l0 l1 l2 q5
      go_wp2
      go_ret
      exact⟨rfl,V.out⟩
    |false=>
     have bb:=Gn fun(W:World) (Q:Below w.heap.size w W)=>ba.out W Q rfl
     generalize Mk.name E.D s t=R at bb ⊢
     clear bx ba
     go_enter Tryz.func246,Tryz.ntmps246
     go_wp2_with fail
     refine ad.out.mono ?_
     rintro e O ⟨rfl,rfl⟩
     clear ad
     go_wp2_with fail
     refine HS.out.mono ?_
     rintro e w2 ⟨rfl,b2⟩
     obtain⟨r,bL⟩:∃ r,w2.alloc (.cells #[.int .i64 2,.int .i64 (j:Int)] 285)=r:=⟨_,rfl⟩
     have ao:aa r w2.heap.size 285 #[.int .i64 2,.int .i64 (j:Int)]:=by rw[<-bL];exact aa.new w2 _ _
     have U:Below O.heap.size O r:=by rw[<-bL];exact b2.alloc b2.size _
     have I:Below O.heap.size O r.drew:=⟨U.os,U.tape,U.output,U.size,U.block⟩
     have bD:=Gn (HD.out r.drew I _ ao)
     have bE:=Gn fun(o:Obj)=>HD.out (r.drew.alloc o) (I.alloc I.size o) w2.heap.size (((ae.refl (fun _=>False) r.drew).alloc o).lies (show aa r.drew _ _ _ from ao) id)
     have k0:=ao.cell 0
     have kl:=ao.lt
     simp at k0
     have mM:=(bz.out r.drew I).1
     clear HS b2 U
     go_wp2_with fail
     go_region_held3 (fun W=>W.cell? ⟨M,1,none⟩=some (.slice (some ⟨b,off,none⟩) En Ec)/\W.cell? ⟨w2.heap.size,1,none⟩=some (.int .i64 (j:Int))/\W.cell? ⟨b,off+j*10,none⟩=some (.string x0)/\W.cell? ⟨b,off+j*10+1,none⟩=some (.int .i64 x1)/\W.cell? ⟨b,off+j*10+2,none⟩=some (.bool false)/\W.cell? ⟨b,off+j*10+3,none⟩=some (.slice y3 m3 z3)/\W.cell? ⟨b,off+j*10+4,none⟩=some (.bool x4)/\W.cell? ⟨b,off+j*10+5,none⟩=some (.int .i64 x5)/\W.cell? ⟨b,off+j*10+6,none⟩=some (.string x6)/\W.cell? ⟨b,off+j*10+7,none⟩=some (.int .i64 x7)/\W.cell? ⟨b,off+j*10+8,none⟩=some (.int .i64 x8)/\W.cell? ⟨b,off+j*10+9,none⟩=some (.slice y9 m9 z9))
      (first|(with_reducible exact bD.out)|exact bE.out _)
      (fail)
     all_goals
      obtain⟨W5,a7⟩:∃ W5,W5=(r.alloc (.cells #[.string x0,.int .i64 x1,.bool false,.slice y3 m3 z3,.bool x4,.int .i64 x5,.string x6,.int .i64 x7,.int .i64 x8,.slice y9 m9 z9] 56)).drew:=⟨_,rfl⟩
      rw[<-a7]
      have bB:Below r.heap.size r W5:=by
       have:=(Gp r.heap.size r).alloc (Fm _) (.cells #[.string x0,.int .i64 x1,.bool false,.slice y3 m3 z3,.bool x4,.int .i64 x5,.string x6,.int .i64 x7,.int .i64 x8,.slice y9 m9 z9] 56)
       rw[a7]
       exact⟨this.os,this.tape,this.output,this.size,this.block⟩
      have X:aa W5 r.heap.size 56 #[.string x0,.int .i64 x1,.bool false,.slice y3 m3 z3,.bool x4,.int .i64 x5,.string x6,.int .i64 x7,.int .i64 x8,.slice y9 m9 z9]:=by rw[a7];exact aa.new r _ _
      have ah:Below O.heap.size O W5:=(show Below O.heap.size O r from⟨I.os,I.tape,I.output,I.size,I.block⟩).trans (bB.mono I.size)
      have l0:=X.cell 0
      have l1:=X.cell 1
      have l2:=X.cell 2
      have c6:=X.lt
      simp at l0 l1 l2
      have m5:=(bz.out W5 ah).2
      have cb:Below O.heap.size O W5.drew:=⟨ah.os,ah.tape,ah.output,ah.size,ah.block⟩
      have b7:O.heap.size<=r.heap.size:=I.size
      have HK:Hid (Calls Tryz.prog 35 #[.pointer (some ⟨bk,0,none⟩),.string x0,.int .i64 x1] W5.drew fun e w'=>∃ q1 q2:Int,e=.returned (.tuple #[.int .i64 q1,.int .i64 q2])/\(w'.cell? ⟨M,0,none⟩=some (.pointer (some ⟨bk,0,none⟩))/\w'.cell? ⟨r.heap.size,0,none⟩=some (.string x0)/\w'.cell? ⟨r.heap.size,1,none⟩=some (.int .i64 x1))/\Calls Tryz.prog 237 #[.pointer (some ⟨M,0,none⟩),.int .i64 q1,.int .i64 q2] w' fun x bT=>Mk.aY E O M Y R x bT/\(bT.cell? ⟨M,0,none⟩=some (.pointer (some ⟨bk,0,none⟩))/\bT.cell? ⟨r.heap.size,0,none⟩=some (.string x0)/\bT.cell? ⟨r.heap.size,1,none⟩=some (.int .i64 x1))):=(bb.out W5.drew cb).mono fun e w' q=>by
       obtain⟨q1,q2,e1,e2,e3,e4⟩:=q
       have cf:=e2 r.heap.size _ _ b7 (show aa W5.drew r.heap.size _ _ from X)
       refine⟨q1,q2,e1,⟨e3,by rw[cf.cell];rfl,by rw[cf.cell];rfl⟩,e4.mono fun x bT ⟨f1,f2,f3⟩=>⟨f1,f3,?_⟩⟩
       have ch:=f2 r.heap.size _ _ b7 (show aa W5.drew r.heap.size _ _ from X)
       exact⟨by rw[ch.cell];rfl,by rw[ch.cell];rfl⟩
      have HS:Hid (W5.drew.cell? ⟨M,0,none⟩=some (.pointer (some ⟨bk,0,none⟩))/\W5.drew.cell? ⟨r.heap.size,0,none⟩=some (.string x0)/\W5.drew.cell? ⟨r.heap.size,1,none⟩=some (.int .i64 x1)):=⟨m5,l0,l1⟩
      have dS:=(bz.out W5 ah).1
      clear bB X ah bb HD a7 bz HB bD bE k0 I ao m5 cb b7
      go_wp2_with fail
      go_region_held3 (fun W=>W.cell? ⟨M,0,none⟩=some (.pointer (some ⟨bk,0,none⟩))/\W.cell? ⟨r.heap.size,0,none⟩=some (.string x0)/\W.cell? ⟨r.heap.size,1,none⟩=some (.int .i64 x1))
       (first|exact HS.out|assumption)
       (first|(go_at_call 35;refine HK.out.mono ?_;rintro e w6 ⟨q1,q2,rfl,dN,hg⟩)|(go_at_call 237;refine Calls.mono (by assumption) ?_;rintro e w7 ⟨⟨rfl,v⟩,dO⟩))
      all_goals
       have V:=Gn v
       clear v
       go_wp2
       go_ret
       exact⟨rfl,V.out⟩
theorem Lt.rW (R:List (Int×Int)) (z:Int):R.length<=(Lt.dy R z).length:=by
 unfold Lt.dy
 cases h:R.getLast? with
 |none=>
  rw[List.getLast?_eq_none_iff.1 h]
  simp
 |some x=>
  have r:R≠[]:=fun e=>by rw[e] at h;cases h
  have:=FR.2 r
  simp only
  split
  ·simp
   omega
  ·simp
theorem Lt.uw (a b:List Int):(Lt.runs a).length<=(Lt.runs (a++b)).length:=by
 have:∀ n (b:List Int),b.length=n->(Lt.runs a).length<=(Lt.runs (a++b)).length:=by
  intro n
  induction n with
  |zero=>
   intro b hb
   rw[IJ.1 hb,GH]
   exact Fm _
  |succ n h=>
   intro b hb
   obtain⟨c,z,rfl⟩:∃ c z,b=c++[z]:=⟨b.dropLast,b.getLast (fun e=>by rw[e] at hb;simp at hb),(IK _).symm⟩
   rw[<-F3,Lt.fh]
   exact Fo (h c (by simpa using hb)) (Lt.rW _ _)
 exact this b.length b rfl
theorem Lt.qT {l:List Int} (h:l.all Lt.pt=false):Lt.aA l=Lt.eY l:=by
 unfold Lt.aA Lt.eY
 rw[FQ (by rw[h];decide),FQ (by rw[h];decide)]
theorem Lt.nk {l:List Int} (h:l.all Lt.pt=true) (hl:(Lt.runs l).length<=65536):Lt.aA l=Lt.eY l:=by
 unfold Lt.aA Lt.eY
 rw[Fx h,Fx h,Fx hl]
theorem Lt.nG {l:List Int} (h:l.all Lt.pt=true) (hl:65536<(Lt.runs l).length):Lt.aA l=(2,[]):=by
 unfold Lt.aA
 rw[Fx h,FQ (by omega)]
theorem AL (w:World) (A:Option Addr) (n c:Nat) (l:List Int) (h:aH w A n l) (hn:n<=10000000):
  Calls Tryz.prog 243 #[.slice A n c] w fun e w'=>aU w (Lt.aA l) e w':=by
 obtain⟨bl,U⟩:∃ bl:Ending->World->Prop,bl=fun e w'=>aU w (Lt.aA l) e w':=⟨_,rfl⟩
 rw[<-U]
 have ad:=Gn U
 have HH:=Gn h
 have HC:=Gn (Dh w A n c l h (by omega))
 clear U h
 cases r:l.all Lt.pt with
 |false=>
  rw[r] at HC
  have X:=aU.bad r (Gp w.heap.size w)
  rw[<-Lt.qT r] at X
  replace X:=Gn X
  clear r HH
  go_enter Tryz.func243,Tryz.ntmps243
  go_wp2_with (go_at_call 276;refine HC.out.mono ?_;rintro e w1 ⟨rfl,ba⟩;rw[ba];clear ba w1)
  first
   |(rw[ad.out];exact X.out)
   |exact GD (by simp[results,Tryz.results243,go_sem]) rfl (by rw[ad.out];exact X.out)
 |true=>
  rw[r] at HC
  have ao:=Gn r
  clear r
  go_enter Tryz.func243,Tryz.ntmps243
  go_wp2_with (go_at_call 276;refine HC.out.mono ?_;rintro e w1 ⟨rfl,ba⟩;rw[ba];clear ba w1)
  go_loopw [4,11] (fun ov iv wr=>∃ (i m:Nat) (A':Option Addr) (c':Nat) (R:List (Int×Int)),i<=n/\m<=i/\m<=65536/\iv=.int .i64 (i:Nat)/\ov=.slice A' m c'/\Hid (Below w.heap.size w wr/\bj wr w.heap.size A' c' R/\R.length=m/\R=Lt.runs (l.take i))) (fun _ iv _=>n-(intOf iv).toNat)
  case atStart=>exact⟨0,0,none,0,[],Fz _,Fm _,Fz _,rfl,rfl,Gp _ _,bj.nil _ _,rfl,rfl⟩
  case round=>
   obtain⟨i,m,A',c',R,hi,cv,bT,rfl,rfl,HI⟩:=hrel
   obtain⟨I,O,J,L⟩:=HI.out
   have HB:=Gn I
   have HO:=Gn O
   have HM:=Gn J
   have b8:w.heap.size<=wr.heap.size:=I.size
   by_cases bL:i<n
   ·obtain⟨b,off,z,rfl,hz,Z,_,hc⟩:=HH.out.get bL
    obtain⟨q1,q2⟩:=hc wr I
    have b5:(i:Int)<(n:Int):=by omega
    have h0:(0:Int)<=(i:Int):=by omega
    have V:Lt.runs (l.take (i+1))=Lt.dy (Lt.runs (l.take i)) z:=by rw[take_one hz,Lt.fh]
    by_cases av:i=0
    ·have hR:R=[]:=by rw[L,av];rfl
     subst hR
     obtain rfl:m=0:=J.symm
     have cy:¬0<i:=by omega
     have Q:Hid ([]++[(z,(1:Int))]=Lt.runs (l.take (i+1))):=by
      show _=_
      rw[V,<-L]
      rfl
     clear I O J L HI hz Z hc V av HC
     go_wp2_with (at_builtin;refine s9 _ rfl (.tmp 40) (.tmp 43) rfl w.heap.size A' c' [] 0 rfl z 1 _ (by simp) rfl HO.out rfl (by omega) HB.out.size ?_;intro A3 c3 w3 o3 g3;have O3:=Gn o3;have B3:=Gn (HB.out.grown g3 HB.out.size (fun q hq=>(HO.out.lt rfl hq).1));clear o3 g3)
     go_roundw
     case rel=>exact⟨i+1,1,A3,c3,[]++[(z,1)],by omega,by omega,by omega,by go_num,rfl,B3.out,O3.out,rfl,Q.out⟩
     case measure=>simp[intOf];omega
    ·obtain⟨j,hj⟩:∃ j,i=j+1:=⟨i-1,by omega⟩
     obtain⟨b',b6,y,e,hy,_,_,bb⟩:=HH.out.get (i:=j) (by omega)
     injection e with e
     injection e with e1 e2
     subst e1
     subst e2
     obtain⟨_,q3⟩:=bb wr I
     obtain⟨S,k,hS,bo,cj,cl⟩:=Lt.mJ hy
     rw[hj,hS] at L
     subst L
     have bp:S.length+1=m:=by simpa using J
     have ca:(i:Int)-1=(j:Int):=by omega
     have cb:0<i:=by omega
     have ch:(j:Int)<(n:Int):=by omega
     have cc:(0:Int)<=(j:Int):=by omega
     obtain⟨sl,ah⟩:∃ sl,S.length=sl:=⟨_,rfl⟩
     have bn:=Gn ah
     obtain⟨g,hg,b9,b4,c0,c1,cf,b2,a7⟩:=bj.last ah O
     subst hg
     have cq:(m:Int)-1=(sl:Int):=by omega
     have b1:sl+1=m:=by omega
     subst b1
     by_cases bx:y=z
     ·subst bx
      have Q:Hid (S++[(y,k+1)]=Lt.runs (l.take (i+1))):=by
       show _=_
       rw[V,hj,hS,Lt.gz]
      have bB:Hid (∀ k',bj (wr.setCell ⟨g,sl*2+1,none⟩ (.int .i64 k')) w.heap.size (some ⟨g,0,none⟩) c' (S++[(y,k')])/\Below w.heap.size w (wr.setCell ⟨g,sl*2+1,none⟩ (.int .i64 k'))):=fun k'=>by
       obtain⟨g',e',b3,_,_,_,_,_,bD⟩:=bj.last bn.out HO.out
       injection e' with e'
       injection e' with e' _
       subst e'
       exact⟨(bD k').1,HB.out.grown (bD k').2 HB.out.size (fun q hq=>by injection hq with hq;omega)⟩
      have bz:Hid ((S++[(y,k+1)]).length=sl+1):=by
       show _=_
       rw[<-ah]
       simp
      clear I O J HI hz Z hc V av hy bb hS bo a7 hj HO HM bp ah HB HC
      go_wp2
      go_roundw
      case rel=>exact⟨i+1,sl+1,some ⟨g,0,none⟩,c',S++[(y,k+1)],by omega,by omega,by omega,by go_num,rfl,(bB.out _).2,(bB.out _).1,bz.out,Q.out⟩
      case measure=>simp[intOf];omega
     ·have cx:(z == y)=false:=Gx.2 fun e=>bx e.symm
      have Q:Hid (S++[(y,k)]++[(z,1)]=Lt.runs (l.take (i+1))):=by
       show _=_
       rw[V,hj,hS,Lt.iP S k bx]
      by_cases bC:sl+1=65536
      ·have bP:(((sl+1:Nat):Int) == 65536)=true:=Gw.2 (by omega)
       have a1:65536<(Lt.runs l).length:=by
        have h1:=Q.out
        have h2:=Lt.uw (l.take (i+1)) (l.drop (i+1))
        rw[FM,<-h1] at h2
        simp at h2
        omega
       have X:Hid (aU w (Lt.aA l) (.returned (.tuple #[.slice none 0 0,.int .i64 2])) wr):=by
        show aU _ _ _ _
        rw[Lt.nG ao.out a1]
        exact⟨⟨none,0,rfl,bj.nil _ _⟩,HB.out⟩
       clear I O J HI hz Z hc V av hy bb hS bo a7 hj bn bp ah c0 c1 cf HC a1 bC Q
       go_wp2
       first
        |(rw[ad.out];exact X.out)
        |exact GD (by simp[results,Tryz.results243,go_sem]) rfl (by rw[ad.out];exact X.out)
      have bP:(((sl+1:Nat):Int) == 65536)=false:=Gx.2 (by omega)
      have b7:sl+2<=65536:=by omega
      clear I O J HI hz Z hc V av hy bb hS bo a7 hj bn bp ah c0 c1 cf HC bC
      go_wp2_with (at_builtin;refine s9 _ rfl (.tmp 40) (.tmp 43) rfl w.heap.size (some ⟨g,0,none⟩) c' (S++[(y,k)]) (sl+1) HM.out z 1 _ (by simp) rfl HO.out rfl (by omega) HB.out.size ?_;intro A3 c3 w3 o3 g3;have O3:=Gn o3;have B3:=Gn (HB.out.grown g3 HB.out.size (fun q hq=>(HO.out.lt HM.out hq).1));clear o3 g3)
      go_roundw
      case rel=>exact⟨i+1,sl+2,A3,c3,S++[(y,k)]++[(z,1)],by omega,by omega,by omega,by go_num,rfl,B3.out,O3.out,by rw[Gb,HM.out];rfl,Q.out⟩
      case measure=>simp[intOf];omega
   ·obtain rfl:i=n:=by omega
    have bE:l.take i=l:=Gr (by rw[HH.out.len];exact Fm _)
    rw[bE] at L
    have X:=aU.good ao.out L J O I
    rw[<-Lt.nk ao.out (by rw[<-L,J];exact bT)] at X
    replace X:=Gn X
    clear I O J L HI bE HO HC
    go_wp2
    first
     |(rw[ad.out];exact X.out)
     |exact GD (by simp[results,Tryz.results243,go_sem]) rfl (by rw[ad.out];exact X.out)
theorem uB (s:ByteArray) (w:World) (hs:s.size<=10000000) (hG:Gl w):
  Calls Tryz.prog 244 #[.string s] w fun e w'=>eL w (Lt.ir s.data.toList) e w':=by
 obtain⟨X,HX⟩:∃ X,Hid (Lt.ir s.data.toList=X):=⟨_,rfl⟩
 rw[HX.out]
 obtain⟨U,h⟩:∃ U:Ending->World->Prop,U=fun e w'=>eL w X e w':=⟨_,rfl⟩
 rw[<-h]
 have av:=Gn h
 have ao:=Gn hG
 clear h hG
 go_enter Tryz.func244,Tryz.ntmps244
 go_wp2
 go_loopw [0,3] (fun sv ov wr=>∃ (T:ByteArray) (m:Nat) (A:Option Addr) (c:Nat) (l:List Int),T.size+m<=s.size/\sv=.string T/\ov=.slice A m c/\Hid (Below w.heap.size w wr/\dV wr w.heap.size A c l/\l.length=m/\X=l++Lt.ir T.data.toList)) (fun sv _ _=>CL sv)
 case atStart=>exact⟨s,0,none,0,[],Fm _,rfl,rfl,Gp _ _,dV.nil _ _,rfl,HX.out.symm⟩
 case round=>
  obtain⟨T,m,A,c,l,bn,rfl,rfl,HI⟩:=hrel
  obtain⟨J,O,Q,L⟩:=HI.out
  have HB:=Gn J
  have HO:=Gn O
  have HM:=Gn Q
  by_cases ba:0<T.size
  ·obtain⟨d,r,hl⟩:∃ d r,T.data.toList=d::r:=⟨_,_,(Hw (l:=T.data.toList)).symm.trans (Lt.aD T ba)⟩
   have bb:r.length+1=T.size:=by rw[<-Lt.ar,hl];rfl
   have HN:=Gn (zJ T d r hl wr (by omega) (ao.out.below J))
   have bl:(0:Int)<(T.size:Int):=by omega
   have HV:=Gn L
   have HL:=Gn hl
   clear J O Q L HI HX hl
   go_wp2_with fail
   refine HN.out.mono ?_
   rintro e w1 ⟨⟨x,k,rfl,bo,bp,V⟩,hb⟩
   have ah:k<=T.size:=by omega
   have I:Hid ((T.extract k T.size).data.toList=(d::r).drop k/\(T.extract k T.size).size=T.size-k):=by
    obtain⟨c1,c2⟩:=Lt.bM T k T.size (Fm _) ah
    refine⟨?_,c2⟩
    rw[c1,HL.out,Gr (by rw[FU,FG];omega)]
   have a1:Hid (X=(l++[(x:Int)])++Lt.ir (T.extract k T.size).data.toList):=by
    show _=_
    rw[I.out.1,HV.out,HL.out,Lt.lz,V,F3]
    rfl
   have bx:=fun W=>Lt.pH T k ah W
   have Z:=Gn (HB.out.trans (hb.mono HB.out.size))
   have ad:=Gn (HO.out.kept hb)
   have a7:w.heap.size<=w1.heap.size:=Z.out.size
   have bz:=I.out.2
   clear V HN HV HL hb HB HO I bb
   go_wp2_with (at_builtin;refine sV _ rfl (.tmp 14) (.tmp 16) rfl w.heap.size A c l m HM.out (x:Int) rfl ad.out rfl (by omega) a7 ?_;intro A3 c3 w3 o3 g3;have O3:=Gn o3;have B3:=Gn (Z.out.grown g3 Z.out.size (fun q hq=>(ad.out.lt HM.out hq).1));clear o3 g3)
   go_roundw
   case rel=>exact⟨T.extract k T.size,m+1,A3,c3,l++[(x:Int)],by omega,rfl,rfl,B3.out,O3.out,by rw[Gb,HM.out];rfl,a1.out⟩
   case measure=>
    show(T.extract k T.size).size<T.size
    omega
  ·have hz:T.size=0:=by omega
   have he:T.data.toList=[]:=FV ((Lt.ar T).trans hz)
   rw[he,Lt.tx,GH] at L
   have HE:=Gn (eL.mk Q L O J)
   clear J O Q L HI HX he
   go_wp2
   rw[av.out]
   exact HE.out
end Go.Proofs.YtdbgiijdgedggaaGreatDoor
