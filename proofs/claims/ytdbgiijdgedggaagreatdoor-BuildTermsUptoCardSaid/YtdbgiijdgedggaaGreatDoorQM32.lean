import Derived.Test.YtdbgiijdgedggaaGreatDoorQM31
import Derived.StillTailTactics
import Derived.Deep.QuietTactic
import Derived.Deep.RegionHeld3
import Derived.Deep.LoopGhost
import Derived.Test.YtdbgiijdgedggaaGreatDoorRows
import Derived.Stop.LaidErr
import Derived.Lib.LaidTab
import Derived.Shelf.Vars
set_option linter.unusedSimpArgs false
set_option linter.unusedVariables false
set_option maxRecDepth 100000
set_option maxHeartbeats 25600000
namespace Go.Proofs.YtdbgiijdgedggaaGreatDoor
open Go.RowKit
theorem CB {A:Option Addr} {n c k:Nat} (W:World) (hA:A.map (·.add 0)=A) (h:k<=c):(Instr.slice 22 (.slice A n c) none (some (.int .i64 (k:Nat))) none).run Tryz.prog W=.ok (.slice A k c) W:=by
 have hz:(sizeOf (Tryz.prog.elem 22)).run Tryz.prog W=.ok 10 W:=by kernel_rfl
 rw[run_slice_h W 22 A n c (by kernel_rfl) .i64 (k:Nat) (by omega) (by omega),hz]
 simp only[Result.andThen,sliced]
 have e:(if c=0 then A else A.map (·.add (0*10)))=A:=by
  split
  ·rfl
  ·rw[Hx];exact hA
 rw[e]
 simp
theorem Rf.aF.entry {E:Rf.Env} {w:World} {Y:Rf.Lay} {s:Rf.St} (h:Rf.aF E w Y s) {t:Nat} {q:Md} (O:s.made[t]?=some q):∃ (g:Nat) (p:El),Y.dA=some ⟨g,0,none⟩/\aH w p.1 q.2.1.length q.2.1/\∀ W,Below w.heap.size w W->g<W.heap.size/\W.cell? ⟨g,t*3,none⟩=some (.int .i64 (q.1:Int))/\W.cell? ⟨g,t*3+1,none⟩=some (.slice p.1 q.2.1.length p.2)/\W.cell? ⟨g,t*3+2,none⟩=some (.int .i64 q.2.2):=by
 rw[<-h.ml,Fj] at O
 obtain⟨⟨p,Q⟩,J,rfl⟩:=FT.1 O
 have Z:=(Fg.1 J).1
 have hlen:Y.M.length=s.made.length:=by rw[<-h.ml,Fi]
 rcases h.row.2 with⟨_,e⟩|⟨g,cap,cur,e,_,U,_⟩
 ·omega
 ·injection e with L _ X
  have r:=(Fl.1 U).1
  have hcell:∀ j u,j<3->(BS (p,Q))[j]?=some u->w.cell? ⟨g,t*3+j,none⟩=some u:=fun j u V hu=>by
   have:=h.row.cells (g:=g) (by rw[L];rfl) (t*3+j) u (by rw[fg (k:=3) (fun _=>rfl) Y.M t j (p,Q) J V];exact hu)
   rw[addr_add,FA] at this
   exact this
  refine⟨g,p,L,(h.each _ (FP J)).1,fun W I=>⟨Fp r I.size,?_,?_,?_⟩⟩
  ·have:=hcell 0 _ (by decide) rfl
   rw[Ho] at this
   exact(I.cell (p:=⟨g,t*3,none⟩) r).trans this
  ·exact(I.cell (p:=⟨g,t*3+1,none⟩) r).trans (hcell 1 _ (by decide) rfl)
  ·exact(I.cell (p:=⟨g,t*3+2,none⟩) r).trans (hcell 2 _ (by decide) rfl)
theorem Rf.aF.at_ {E:Rf.Env} {w:World} {Y:Rf.Lay} {s:Rf.St} (h:Rf.aF E w Y s):w.cell? ⟨E.mb,0,none⟩=some (.slice Y.bA s.N.length Y.bc)/\w.cell? ⟨E.mb,1,none⟩=some (.slice E.A s.k E.c)/\w.cell? ⟨E.mb,2,none⟩=some (.slice Y.iA s.sc.length Y.ic)/\w.cell? ⟨E.mb,3,none⟩=some (.slice Y.dA s.made.length Y.dc):=
 ⟨h.own.cell 0,h.own.cell 1,h.own.cell 2,h.own.cell 3⟩
theorem tD (E:Rf.Env) (i S:Nat) (hS:Bd.je E.D i E.n+(Bd.gb E.D i E.n+S)<=3200000000000) (hG:E.n<=E.c) (w:World) (Y:Rf.Lay) (s:Rf.St) (more rest j:Nat) (A:Option Addr) (m c:Nat) (ids:List Int) (d:Dc) (hj:j<s.k) (hd:E.D[j]?=some d) (cb:d.cL=true)
  (j4:Rf.Term E i S j d.body) (hF:Sx.bH d.body) (cl:d.body.size<=90000) (hp:∀ d∈E.D,d.par.length<=1000) (h:Rf.aF E w Y s) (hO:Rf.Ok E.D E.n i S s more rest) (er:ids.length=d.par.length->(if i<d.par.length then 1+Bd.body E.D i s.k j else 0)<=more) (ha:aH w A m ids) (hg:Gs (Rf.free E Y) A m) (hm:m<=1000) (la:Bd.In s.N ids) (lb:E.n<=1000):
  Calls Tryz.prog 139 #[.pointer (some ⟨E.mb,0,none⟩),.int .i64 (j:Int),.slice A m c] w fun e w'=>Rf.aY E i S w Y s (Bd.fn E.D j ids s.N) rest e w':=by
 obtain⟨b,off,P,d',hA,hb,l7,hV,j2,hc⟩:=h.decl.get (i:=j) (by have:=h.kn;omega)
 obtain rfl:d'=d:=by rw[hd] at hV;exact(Fk hV).symm
 obtain⟨J,cN⟩:∃ J,w.alloc (DE P d')=J:=⟨_,rfl⟩
 have k6:Below w.heap.size w J:=by rw[<-cN];exact(Gp _ w).alloc (Fm _) _
 have hY:aa J w.heap.size 56 #[.string d'.name,.int .i64 d'.sort,.bool d'.cL,.slice P.A d'.par.length P.c,.bool d'.body.list,.int .i64 d'.body.k,.string d'.body.T,.int .i64 d'.body.ta,.int .i64 d'.body.at_,.slice P.B d'.body.L.length P.d]:=by rw[<-cN];exact aa.new w _ _
 obtain⟨m0,m1,m2,m3⟩:=h.at_
 obtain⟨na,hcell⟩:=hc w (ae.refl _ _)
 have c0:=hcell 0 _ rfl
 have c1:=hcell 1 _ rfl
 have c2:=hcell 2 _ rfl
 have c3:=hcell 3 _ rfl
 have c4:=hcell 4 _ rfl
 have c5:=hcell 5 _ rfl
 have c6:=hcell 6 _ rfl
 have c7:=hcell 7 _ rfl
 have c8:=hcell 8 _ rfl
 have c9:=hcell 9 _ rfl
 rw[Ho] at c0
 rw[hA] at m1
 have mm:(j:Int)<(s.k:Int):=by omega
 have nc:(0:Int)<=(j:Int):=by omega
 have O:=ha.len
 obtain⟨pn,cR⟩:∃ pn,d'.par.length=pn:=⟨_,rfl⟩
 have ah:=Gn hp
 have bE:=Gn cl
 have HS:=Gn hS
 have HD:=Gn (Ig hd cb)
 have b9:=Gn j4
 have HF:=Gn hF
 have HR:=Gn h
 have HO:=Gn hO
 have bP:=Gn er
 have HA:=Gn (Ig ha hg)
 have bx:=Gn la
 have bp:=Gn j2
 have Z:=Gn cR
 have I:=Gn k6
 have cf:=Gn hY
 have ba:=Gn hA
 have HJ:=Gn (Ig hj lb)
 have HC:=Gn hG
 obtain⟨sk,h9⟩:∃ sk,s.k=sk:=⟨_,rfl⟩
 have bz:=Gn h9
 rw[h9] at m1 mm
 obtain⟨nm,fz⟩:∃ nm,d'.name=nm:=⟨_,rfl⟩
 obtain⟨so,bB⟩:∃ so,d'.sort=so:=⟨_,rfl⟩
 obtain⟨bo,dO⟩:∃ bo,d'.body=bo:=⟨_,rfl⟩
 obtain⟨bl,bk,bT,j1,jv,bL⟩:=bo
 obtain⟨bn,dN⟩:∃ bn,bL.length=bn:=⟨_,rfl⟩
 have b8:=Gn dO
 have b7:=Gn dN
 obtain⟨pA,pc,bA,bc⟩:=P
 rw[fz] at c0
 rw[bB] at c1
 rw[cb] at c2
 rw[cR] at c3
 rw[dO] at c4 c5 c6 c7 c8 c9
 simp only at c3 c4 c5 c6 c7 c8 c9
 rw[dN] at c9
 have ks:w.alloc (.cells #[.string nm,.int .i64 so,.bool true,.slice pA pn pc,.bool bl,.int .i64 bk,.string bT,.int .i64 j1,.int .i64 jv,.slice bA bn bc] 56)=J:=by
  rw[<-cN]
  unfold DE
  rw[fz,bB,cb,cR,dO]
  simp only
  rw[dN]
 have HX:Hid (∀ W,Below J.heap.size J W->aa W w.heap.size 56 #[.string nm,.int .i64 so,.bool true,.slice pA pn pc,.bool bl,.int .i64 bk,.string bT,.int .i64 j1,.int .i64 jv,.slice bA bn bc]):=fun W hW=>by
  have:=(ae.af (F:=fun _=>False) hW).lies hY id
  rw[fz,bB,cb,cR,dO] at this
  simp only at this
  rwa [dN] at this
 have x3:=(HX.out J (Gp _ _)).cell 3
 simp at x3
 clear hp cl hS j4 hF h hO er ha hg la j2 k6 hY hA lb hG cN hc hcell hd hV l7 fz bB dO dN h9 cb hj
 obtain⟨R,hR⟩:∃ R,Bd.fn E.D j ids s.N=R:=⟨_,rfl⟩
 have a7:=Gn hR
 rw[hR]
 clear hR
 by_cases fy:m=pn
 case neg=>
  have hr:R=(s.N,0,1):=a7.out.symm.trans (Bd.yG HD.out.1 (by rw[O,Z.out];exact fy))
  have d1:((m:Int) != (pn:Int))=true:=by simpa using (fun e:(m:Int)=pn=>fy (by omega))
  have HV:Hid (Rf.aY E i S w Y s R rest (.returned (.tuple #[.int .i64 0,.int .i64 1])) J):=by rw[hr];exact⟨rfl,s.made,Rf.Left.same HR.out I.out,fun e=>absurd e (by show ¬(1:Int)=0;decide),fun _=> .inl⟩
  clear ah bE a7 HS HD b9 HF HR HO bP HA bx bp Z I cf ba HJ HC bz b8 b7 HX fy hr cR O m0 m2 m3
  go_enter Tryz.func139,Tryz.ntmps139
  go_wp2
  exact GD (by simp[results,Tryz.results139,go_sem]) rfl HV.out
 case pos=>
  subst fy
  obtain⟨z,hz⟩:∃ z,List.zip (d'.par.map (·.1)) ids=z:=⟨_,rfl⟩
  have HZ:=Gn hz
  obtain⟨nl,h7⟩:∃ nl,s.N.length=nl:=⟨_,rfl⟩
  obtain⟨e5,eP⟩:∃ e5,s.sc.length=e5:=⟨_,rfl⟩
  obtain⟨ml,h5⟩:∃ ml,s.made.length=ml:=⟨_,rfl⟩
  have b1:=Gn (Ig h7 (Ig eP h5))
  have HM:Hid (∀ W,Below w.heap.size w W->W.cell? ⟨E.mb,0,none⟩=some (.slice Y.bA nl Y.bc)/\W.cell? ⟨E.mb,1,none⟩=some (.slice (some ⟨b,off,none⟩) sk E.c)/\W.cell? ⟨E.mb,2,none⟩=some (.slice Y.iA e5 Y.ic)/\W.cell? ⟨E.mb,3,none⟩=some (.slice Y.dA ml Y.dc)):=fun W hW=>by
   have:=(HR.out.below hW).at_
   rw[h7,eP,h5,bz.out,ba.out] at this
   exact this
  clear hz h7 eP h5 cR m0 m2 m3
  go_enter Tryz.func139,Tryz.ntmps139
  go_wp2
  clear c0 c1 c2 c3 c4 c5 c6 c7 c8 c9 x3 m1 ks
  go_loopw [9,10] (fun sv iv wr=>∃ (q d1:Nat) (B:Option Addr),q<=m/\sv=.slice B q d1/\iv=.int .i64 (q:Nat)/\Hid (Below J.heap.size J wr/\dU wr J.heap.size B q d1 (z.take q)/\∀ (t:Nat) x p,t<q->ids[t]?=some x->d'.par[t]?=some p->Bd.aC s.N x=p.2)) (fun _ iv _=>m-(intOf iv).toNat)
  case atStart=>exact⟨0,0,none,Fz _,rfl,rfl,Gp _ _,dU.dI _ _,fun t x p ht=>absurd ht (Gv _)⟩
  case round=>
   obtain⟨q,d1,B,hq,rfl,rfl,HI⟩:=hrel
   by_cases en:q<m
   ·obtain⟨ab,ao,x,rfl,hx,k5,hU⟩:=tH HA.out.1 en
    obtain⟨l2,l3⟩:=bx.out x (FP hx)
    obtain⟨xn,rfl⟩:∃ xn:Nat,x=xn:=⟨x.toNat,by omega⟩
    obtain⟨nb,hL,y,Q,hQ,hy,ld,_,h6⟩:=HR.out.aO.get (i:=xn) (by omega)
    obtain⟨pb,av,p,ll,eA,ga⟩:=bp.out.par.get (i:=q) (by rw[Z.out];exact en)
    simp only at ll
    subst ll
    obtain⟨hB,cj,bB⟩:=HI.out
    have ad:=I.out.trans (hB.mono I.out.size)
    have b6:Bd.aC s.N (xn:Int)=y.sort:=by unfold Bd.aC;rw[Ih,hy];rfl
    obtain⟨p1,p2⟩:=p
    simp only at ga
    have bC:Hid (∀ W,Below J.heap.size J W->W.cell? ⟨E.mb,0,none⟩=some (.slice (some ⟨nb,hL,none⟩) nl Y.bc)/\W.cell? ⟨ab,ao+q,none⟩=some (.int .i64 (xn:Int))/\W.cell? ⟨nb,hL+xn*7+1,none⟩=some (.int .i64 y.sort)/\W.cell? ⟨w.heap.size,3,none⟩=some (.slice (some ⟨pb,av,none⟩) m pc)/\W.cell? ⟨pb,av+q*2,none⟩=some (.string p1)/\W.cell? ⟨pb,av+q*2+1,none⟩=some (.int .i64 p2)):=fun W hW=>by
     have ff:=I.out.trans (hW.mono I.out.size)
     have h0:=(HM.out W ff).1
     rw[hQ] at h0
     have h3:=(HX.out W hW).cell 3
     obtain⟨_,k1,k2⟩:=ga W (ae.af ff)
     exact⟨h0,hU W ff,(h6 W ff).2.1,h3,k1,k2⟩
    obtain⟨f0,f1,f2,f3,f4,f5⟩:=bC.out wr hB
    have nn:(q:Int)<(m:Int):=by omega
    have nd:(0:Int)<=(q:Int):=by omega
    have n4:(xn:Int)<(nl:Int):=by have:=b1.out.1;omega
    have mM:(0:Int)<=(xn:Int):=by omega
    have HW:=Gn ad
    by_cases hs:y.sort=p2
    ·have e1:(y.sort != p2)=false:=by rw[hs];simp
     have l4:Hid (∀ W A' c',Below J.heap.size J W->dU W J.heap.size A' (q+1) c' (z.take q++[(p1,(xn:Int))])->Below J.heap.size J W/\dU W J.heap.size A' (q+1) c' (z.take (q+1))/\∀ (t:Nat) x p,t<q+1->ids[t]?=some x->d'.par[t]?=some p->Bd.aC s.N x=p.2):=fun W A' c' cN ma=>by
      refine⟨cN,?_,fun t x' p' ht ih h8=>?_⟩
      ·rw[pU (s:=p1) HZ.out (by rw[Fj,eA];rfl) hx]
       exact ma
      ·rcases GX t q with e|e
       ·exact bB t x' p' e ih h8
       ·obtain rfl:t=q:=by omega
        rw[hx] at ih
        rw[eA] at h8
        obtain rfl:=Fk ih
        obtain rfl:=Fk h8
        rw[b6,hs]
     have ch:=Gn cj
     have bD:=Gn hB
     have mj:IntKind.i64.wrap ((q:Int)+1)=(q:Int)+1:=GR _ (by omega)
     have hZ:q+1<=maxLen:=by unfold maxLen;omega
     have h4:(q+1)*24<=140737488355328:=by omega
     have mv:q+1<=m:=by omega
     obtain⟨i0,hi,im,iI,iN⟩:=Gj gQ
     clear ah bE a7 HS HD b9 HF HR HO bP HA bx bp Z I cf ba HJ HC bz b8 b7 HX HI HZ b1 HM HW hx l2 l3 k5 hU hQ hy ld h6 eA ga hB cj bB ad b6 hs O
     go_wp2_with fail
     go_quiet (fail)
     clear f0 f1 f2 f3 f4 f5
     have ca:Below J.heap.size J (wr.drewN nq):=below_drewN bD.out nq
     have fb:dU (wr.drewN nq) J.heap.size B q d1 (z.take q):=⟨ch.out.1,(ae.af (F:=fun _=>False) (below_drewN (Gp _ wr) nq)).own ch.out.2 fun _ _=>id⟩
     clear ch bD
     generalize wr.drewN nq=D at ca fb ⊢
     obtain⟨f0,f1,f2,f3,f4,f5⟩:=bC.out D ca
     have b5:Below J.heap.size J D.drew:=⟨ca.os,ca.tape,ca.output,ca.size,ca.block⟩
     have iU:=Gn b5
     have ch:Hid (dU D.drew J.heap.size B q d1 (z.take q)):=⟨fb.1,fb.2.drew⟩
     have cl:J.heap.size<=(D.drew.alloc (.cells #[.string p1,.int .i64 (xn:Int)] 120)).heap.size:=(b5.alloc b5.size _).size
     have l5:Hid (D.drew.cell? ⟨ab,ao+q,none⟩=some (.int .i64 (xn:Int))/\D.drew.cell? ⟨w.heap.size,3,none⟩=some (.slice (some ⟨pb,av,none⟩) m pc)/\D.drew.cell? ⟨pb,av+q*2,none⟩=some (.string p1)):=⟨(bC.out _ b5).2.1,(bC.out _ b5).2.2.2.1,(bC.out _ b5).2.2.2.2.1⟩
     have iX:Hid (∀ W,Below J.heap.size J W->W.cell? ⟨ab,ao+q,none⟩=some (.int .i64 (xn:Int))/\W.cell? ⟨w.heap.size,3,none⟩=some (.slice (some ⟨pb,av,none⟩) m pc)/\W.cell? ⟨pb,av+q*2,none⟩=some (.string p1)):=fun W hW=>⟨(bC.out _ hW).2.1,(bC.out _ hW).2.2.2.1,(bC.out _ hW).2.2.2.2.1⟩
     have l6:=Gn (iX.out _ (b5.alloc b5.size (.cells #[.string p1,.int .i64 (xn:Int)] 120)))
     clear ca fb bC b5 f0 f2 f5
     go_wp2_with fail
     go_region_held3 (fun W=>W.cell? ⟨ab,ao+q,none⟩=some (.int .i64 (xn:Int))/\W.cell? ⟨w.heap.size,3,none⟩=some (.slice (some ⟨pb,av,none⟩) m pc)/\W.cell? ⟨pb,av+q*2,none⟩=some (.string p1))
      (first|(with_reducible exact l5.out)|(with_reducible exact l6.out)|assumption)
      ((refine ay rfl (.tmp 54) (.tmp 66) 99 (by rfl) J.heap.size 120 i0 (.agg #[.string ByteArray.empty,.int .i64 0]) 2 24 Tryz.underlying99 hi im iI iN rfl (by decide) (.slice B q d1) q ((z.take q).flatMap qV) (by rfl) (ch.out.2.alloc _) ⟨D.drew.heap.size,0,none⟩ 1 1 (qV (p1,(xn:Int))) (by rfl) rfl (fH rfl) (by intro u hu;simp at hu;rcases hu with rfl|rfl <;> rfl) hZ h4 cl ?_;intro A4 c4 w4 o4 g4 _;have b4:Below J.heap.size J w4:=(iU.out.alloc iU.out.size _).grown g4 cl (fun k hk=>(ch.out.2.lt k hk).1);have S3:=Gn (l4.out w4 A4 c4 b4 (dU.snoc (p:=(p1,(xn:Int))) ch.out.1 o4));have k4:=iX.out w4 b4;clear o4 g4 b4))
     go_wp2
     go_roundw
     case rel=>exact⟨q+1,c4,A4,mv,by go_num,by go_num,S3.out⟩
     case measure=>simp[intOf];omega
    ·have hr:R=(s.N,0,90):=a7.out.symm.trans (Bd.AB HD.out.1 (by rw[O,Z.out]) hx eA (by rw[b6];exact hs))
     have e1:(y.sort != p2)=true:=by simpa using hs
     have HV:Hid (∀ W,Below wr.heap.size wr W->Rf.aY E i S w Y s R rest (.returned (.tuple #[.int .i64 0,.int .i64 90])) W):=fun W hW=>by rw[hr];exact⟨rfl,s.made,Rf.Left.same HR.out (ad.trans (hW.mono ad.size)),fun e=>absurd e (by show ¬(90:Int)=0;decide),fun _=> .inl⟩
     clear ah bE a7 HS HD b9 HF HR HO bP HA bx bp Z I cf ba HJ HC bz b8 b7 HX HI HZ b1 HM bC HW hx l2 l3 k5 hU hQ hy ld h6 eA ga hB cj bB ad b6 hs hr O
     go_wp2_with fail
     go_quiet (fail)
     go_wp2
     exact GD (by simp[results,Tryz.results139,go_sem]) rfl (HV.out _ (below_drewN (Gp _ wr) nq))
   ·obtain rfl:q=m:=by omega
    obtain⟨hB,cj,bB⟩:=HI.out
    have mB:z.length=q:=by
     rw[<-HZ.out,List.length_zip,Fi,Z.out,O,Nat.min_self]
    rw[Gr (by omega)] at cj
    have ad:=I.out.trans (hB.mono I.out.size)
    have hr:R=Bd.tm E.D j z s.N d'.body:=a7.out.symm.trans (by
     rw[Bd.Bg HD.out.1 (by rw[O,Z.out]) fun t x p hx hp=>bB t x p (by have:=(Fg.1 hx).1;omega) hx hp,HZ.out])
    have bD:=Gn hB
    have a1:=Gn ad
    have cy:=Gn cj
    have cz:=Gn hr
    have kl:=HR.out.below ad
    have dx:=Gn kl
    have mo:s.made.length=ml:=b1.out.2.2
    have mE:(ml:Int)<=3200000000000:=by
     have:=Bd.ck.room HO.out.apart HO.out.fits
     have:=HS.out
     omega
    clear HI hB cj bB mB ad hr kl en hq
    go_wp2_with fail
    obtain⟨wo,rfl⟩:∃ wo,wo=wr:=⟨_,rfl⟩
    go_loopw [11] (fun iv wr=>∃ t:Nat,t<=ml/\iv=.int .i64 (t:Nat)/\Hid (Below wo.heap.size wo wr/\∀ r∈s.made.take t,¬(r.1=j/\r.2.1=ids))) (fun iv _=>ml-(intOf iv).toNat)
    case atStart=>exact⟨0,Fz _,rfl,Gp _ _,fun r hr=>by simp at hr⟩
    case round=>
     obtain⟨t,ht,rfl,HI⟩:=hrel
     by_cases en:t<ml
     ·obtain⟨r,hr⟩:∃ r,s.made[t]?=some r:=⟨_,Ge (by omega)⟩
      obtain⟨g,p,k3,hI,k7⟩:=dx.out.entry hr
      obtain⟨hB,cP⟩:=HI.out
      have lx:r.2.1.length<=1000000000:=by
       have h1:=(HO.out.apart.fn r (FP hr)).2
       unfold Bd.arity at h1
       cases hd:E.D[r.1]? with
       |none=>rw[hd] at h1;cases h1
       |some d2=>
        rw[hd] at h1
        simp only at h1
        split at h1
        ·have:=Fk h1
         have:=ah.out d2 (FP hd)
         omega
        ·cases h1
      have e7:=Gn (BU wr p.1 r.2.1.length p.2 r.2.1 A q c ids (hI.below hB) (HA.out.1.below (a1.out.trans (hB.mono a1.out.size))) lx)
      have cx:Hid (∀ W,Below wr.heap.size wr W->W.cell? ⟨E.mb,3,none⟩=some (.slice (some ⟨g,0,none⟩) ml Y.dc)/\g<W.heap.size/\W.cell? ⟨g,t*3,none⟩=some (.int .i64 (r.1:Int))/\W.cell? ⟨g,t*3+1,none⟩=some (.slice p.1 r.2.1.length p.2)/\W.cell? ⟨g,t*3+2,none⟩=some (.int .i64 r.2.2)):=fun W hW=>by
       have k0:=hB.trans (hW.mono hB.size)
       have h3:=(HM.out W (a1.out.trans (k0.mono a1.out.size))).2.2.2
       rw[k3] at h3
       exact⟨h3,k7 W k0⟩
      obtain⟨m3,mc,e0,e1,e2⟩:=cx.out wr (Gp _ _)
      obtain⟨rn,l0⟩:∃ rn,r.2.1.length=rn:=⟨_,rfl⟩
      obtain⟨ra,eD⟩:∃ ra,r.1=ra:=⟨_,rfl⟩
      obtain⟨rz,gA⟩:∃ rz,r.2.2=rz:=⟨_,rfl⟩
      obtain⟨bb,fv⟩:∃ bb,kK r.2.1 ids=bb:=⟨_,rfl⟩
      rw[l0] at e1 e7 cx
      rw[eD] at e0 cx
      rw[gA] at e2 cx
      rw[fv] at e7
      have n0:(t:Int)<(ml:Int):=by omega
      have nA:(0:Int)<=(t:Int):=by omega
      have mj:IntKind.i64.wrap ((t:Int)+1)=(t:Int)+1:=GR _ (by omega)
      have hM:=Gn hB
      have b3:Hid (bb=false\/ra≠j->∀ r'∈s.made.take (t+1),¬(r'.1=j/\r'.2.1=ids)):=fun hc r' lv=>by
       rw[take_one hr] at lv
       rcases F7.1 lv with h1|h1
       ·exact cP r' h1
       ·obtain rfl:=F0.1 h1
        rintro⟨h2,h3⟩
        rcases hc with hc|hc
        ·rw[<-fv,h3] at hc
         rw[show kK ids ids=true from FW rfl] at hc
         cases hc
        ·exact hc (eD.symm.trans h2)
      have cq:Hid (bb=true->ra=j->R=(s.N,rz,0)):=fun h1 h2=>by
       have h3:r.2.1=ids:=FX (fv.trans h1)
       obtain⟨r1,r2,r3⟩:=r
       simp only at h3 eD gA
       subst h3 eD gA h2
       exact a7.out.symm.trans (HO.out.cD.hit (FP hr))
      clear hr k3 hI k7 hB cP lx l0 eD gA fv HI
      go_wp2_with fail
      refine e7.out.mono ?_
      rintro e w2 ⟨rfl,b2⟩
      have e6:=Gn (hM.out.trans (b2.mono hM.out.size))
      clear m3 e0 e1 e2
      obtain⟨m3,mc,e0,e1,e2⟩:=cx.out w2 b2
      clear e7 cx b2 hM
      cases bb with
      |false=>
       have dd:=Gn (b3.out (.inl rfl))
       clear cq b3
       clear ah bE a7 HS HD b9 HF HR HO bP HA bx bp Z I cf ba HJ HC bz b8 b7 HX HZ b1 HM cy cz dx bD a1 O
       go_wp2
       go_roundw
       case rel=>exact⟨t+1,by omega,by go_num,e6.out,dd.out⟩
       case measure=>simp[intOf];omega
      |true=>
       by_cases gf:ra=j
       ·have hR:=cq.out rfl gf
        subst gf
        have HV:Hid (Rf.aY E i S w Y s R rest (.returned (.tuple #[.int .i64 rz,.int .i64 0])) w2):=by
         rw[hR]
         exact⟨rfl,s.made,Rf.Left.same HR.out (a1.out.trans (e6.out.mono a1.out.size)),fun _=>HO.out.less (Fz _),fun _=> .inl⟩
        clear cq b3 hR ah bE a7 HS HD b9 HF HR HO bP HA bx bp Z I cf ba HJ HC bz b8 b7 HX HZ b1 HM cy cz dx bD a1 e6 O
        go_wp2
        exact GD (by simp[results,Tryz.results139,go_sem]) rfl HV.out
       ·have e3:((ra:Int) == (j:Int))=false:=Gx.2 (by omega)
        have dd:=Gn (b3.out (.inr gf))
        clear cq b3
        clear ah bE a7 HS HD b9 HF HR HO bP HA bx bp Z I cf ba HJ HC bz b8 b7 HX HZ b1 HM cy cz dx bD a1 O gf
        go_wp2
        go_roundw
        case rel=>exact⟨t+1,by omega,by go_num,e6.out,dd.out⟩
        case measure=>simp[intOf];omega
     ·obtain rfl:t=ml:=by omega
      obtain⟨hB,cP⟩:=HI.out
      rw[Gr (by omega)] at cP
      have ad:=a1.out.trans (hB.mono a1.out.size)
      have j3:=bD.out.trans (hB.mono bD.out.size)
      have cv:=HR.out.below ad
      have ev:dU wr J.heap.size B q d1 z:=⟨cy.out.1,(ae.af (F:=fun _=>False) hB).own cy.out.2 fun _ _=>id⟩
      have mA:=I.out.size
      have hK:eQ wr (Rf.free E Y) B q d1 z:=ev.Er fun k hk _=>⟨fun e=>by have:=HR.out.lt k e;omega,fun e=>by have:=HR.out.vY k e;omega⟩
      have fx:=cv.Bm hK
      have hX:=fx.D0 (k:=j) (by have:=HR.out.kn;have:=HJ.out.1;omega)
      have hE:=HX.out wr j3
      have mC:=HR.out.own.lt
      have T1:ae (Rf.ag E Y) w (wr.setCell ⟨E.mb,2,none⟩ (.slice B q d1)):=(ae.af ad).put (p:=⟨E.mb,2,none⟩) (.inl (.inl rfl)) _
      have T2:=T1.put (p:=⟨E.mb,1,none⟩) (.inl (.inl rfl)) (.slice E.A j E.c)
      have U:aa ((wr.setCell ⟨E.mb,2,none⟩ (.slice B q d1)).setCell ⟨E.mb,1,none⟩ (.slice E.A j E.c)) w.heap.size 56 _:=(((ae.refl (fun k=>k=E.mb) wr).put (p:=⟨E.mb,2,none⟩) (.inl rfl) (.slice B q d1)).put (p:=⟨E.mb,1,none⟩) (.inl rfl) (.slice E.A j E.c)).lies hE fun e=>by omega
      have f2:=cv.own.free 2
      have c2:=cv.own.cell 2
      have f1:=fx.own.free 1
      have c1:=fx.own.cell 1
      obtain⟨m0,m1,m2,m3⟩:=HM.out wr ad
      rw[ba.out] at hX U T2
      obtain⟨e4,dS,ea⟩:=Bd.Fits.call (D:=E.D) (i:=i) (S:=S) (m:=s.made) (k:=s.k) (rest:=rest) (n:=d'.par.length) HJ.out.1 HD.out.1 (by unfold Bd.arity;rw[HD.out.1];simp only;rw[Fx HD.out.2]) (by have h1:=HO.out.fits;have h2:=bP.out (by rw[O,Z.out]);unfold Bd.Fits at h1 ⊢;omega)
      have hJ:Rf.Ok E.D E.n i S ⟨s.N,j,z,s.made⟩ (Bd.makes E.D i j d'.body) e4:=⟨HO.out.inv,HO.out.len,by have:=Bd.jU (l:=d'.par.map (·.1)) bx.out;rw[HZ.out] at this;exact this,HO.out.cD,HO.out.apart,dS⟩
      have HT:=Gn fun(W3:World) (hr:Rf.aF E W3 { Y with iA:=B,ic:=d1 } ⟨s.N,j,z,s.made⟩) (hT:ae (Rf.ag E Y) w W3)=>b9.out W3 { Y with iA:=B,ic:=d1 } ⟨s.N,j,z,s.made⟩ e4 bA bc rfl hr hJ ⟨bp.out.body.le,bp.out.body.tree.bR hT fun k _ hk=>⟨hk.1,hk.1⟩⟩ HF.out (by show z.length+_<=_;have:=bE.out;have:=ev.1;omega)
      simp only at HT
      rw[<-cz.out,b8.out] at HT
      unfold aX at HT
      simp only[b7.out] at HT
      have b3:=Gn cP
      have cY:=Gn ea
      have nv:∀ W,(Instr.slice 22 (.slice (some ⟨b,off,none⟩) sk E.c) none (some (.int .i64 (j:Nat))) none).run Tryz.prog W=.ok (.slice (some ⟨b,off,none⟩) j E.c) W:=fun W=>CB W rfl (by have:=HJ.out.1;have:=HR.out.kn;have:=HC.out;omega)
      have hP:=Gn hX
      have cX:=Gn U
      have e8:=Gn T2
      have l1:w.heap.size<=wr.heap.size:=ad.size
      obtain⟨W3,kv⟩:∃ W3,(wr.setCell ⟨E.mb,2,none⟩ (.slice B q d1)).setCell ⟨E.mb,1,none⟩ (.slice (some ⟨b,off,none⟩) j E.c)=W3:=⟨_,rfl⟩
      have e9:=Gn (HT.out _ hX T2)
      have hN:Hid (w.heap.size<=W3.heap.size):=by rw[<-kv];show _<=_;simpa [World.setCell] using l1
      rw[kv] at e9 cX e8 hP U
      have x4:=U.cell 4
      have x5:=U.cell 5
      have x6:=U.cell 6
      have x7:=U.cell 7
      have x8:=U.cell 8
      have x9:=U.cell 9
      simp at x4 x5 x6 x7 x8 x9
      clear HI hB cP ad j3 cv ev mA hK fx hE T1 T2 U dS ea hJ l1 HT b9 HF b8 b7 HX cf cy bD dx
      go_wp2_with fail
      refine e9.out.mono ?_
      rintro e w4 ⟨rfl,m',⟨Y4,r4,y4,t4,f4⟩,iR,hh⟩
      have fa:ae (Rf.ag E Y) w w4:=e8.out.trans t4 fun _ e=> .inl e
      have cc:∀ k,Rf.ag E Y4 k->Rf.ag E Y k\/w.heap.size<=k:=fun k hk=>(f4 k hk).imp id fun e=>Fo hN.out e
      have eO:eQ w4 (Rf.free E Y4) Y.iA s.sc.length Y.ic s.sc:=HR.out.scope.turn fa fun k en hk=>⟨hk.1,⟨fun e=>(cc k e).elim hk.1 fun e2=>by omega,by rw[y4];exact hk.2⟩⟩
      have r5:=r4.Bm eO
      have r6:=r5.D0 (k:=s.k) HR.out.kn
      have cE:=(fa.put (p:=⟨E.mb,2,none⟩) (.inl (.inl rfl)) (.slice Y.iA s.sc.length Y.ic)).put (p:=⟨E.mb,1,none⟩) (.inl (.inl rfl)) (.slice E.A s.k E.c)
      have g2:=r4.own.free 2
      have n2:=r4.own.cell 2
      have g1:=r5.own.free 1
      have n1:=r5.own.cell 1
      rw[ba.out,bz.out] at cE
      obtain⟨W6,ky⟩:∃ W6,(w4.setCell ⟨E.mb,2,none⟩ (.slice Y.iA s.sc.length Y.ic)).setCell ⟨E.mb,1,none⟩ (.slice (some ⟨b,off,none⟩) sk E.c)=W6:=⟨_,rfl⟩
      rw[ky] at cE
      have eW:Rf.aF E W6 { Y4 with iA:=Y.iA,ic:=Y.ic } ⟨R.1,s.k,s.sc,m'⟩:=by
       rw[<-ky,<-ba.out,<-bz.out]
       exact r6
      have fE:Rf.lf s m':=fun x hx=>(hh x hx).imp id fun e=>by have:x.1<j:=e;have:=HJ.out.1;omega
      by_cases he:R.2.2=0
      case neg=>
       have d1:(R.2.2 == 0)=false:=Gx.2 he
       have HV:Hid (Rf.aY E i S w Y s R rest (.returned (.tuple #[.int .i64 R.2.1,.int .i64 R.2.2])) W6):=⟨rfl,m',⟨_,eW,y4,cE,cc⟩,fun e=>absurd e he,fE⟩
       clear ah bE a7 HS HD HR HO bP HA bx bp Z I ba HJ HC bz HZ b1 HM cz a1 b3 cY e9 hN e8 cX hP O r4 y4 t4 f4 iR hh fa cc eO r5 r6 cE eW fE he x4 x5 x6 x7 x8 x9 m0 m1 m2 m3
       go_wp2
       exact GD (by simp[results,Tryz.results139,go_sem]) rfl HV.out
      case pos=>
       have d1:(R.2.2 == 0)=true:=by rw[he];rfl
       obtain⟨i0,hi,im,iI,iN⟩:=Gj Cz
       have r7:=eW.alloc (.cells #[.int .i64 (j:Int),.slice A q c,.int .i64 R.2.1] 259)
       have cF:=cE.alloc (.cells #[.int .i64 (j:Int),.slice A q c,.int .i64 R.2.1] 259)
       obtain⟨W7,kL⟩:∃ W7,W6.alloc (.cells #[.int .i64 (j:Int),.slice A q c,.int .i64 R.2.1] 259)=W7:=⟨_,rfl⟩
       rw[kL] at r7 cF
       have fR:=iR he
       have hlen:=Bd.ck.room fR.apart fR.fits
       have hS:=HS.out
       have hZ:m'.length+1<=maxLen:=by unfold maxLen;simp only at hlen;omega
       have h4:(m'.length+1)*40<=140737488355328:=by simp only at hlen;omega
       have cl:=r7.base.size
       have k9:Bd.fn E.D j ids s.N=(R.1,R.2.1,0):=by rw[a7.out,<-he]
       have ka:=Rf.Ok.made (K:=E.n) HJ.out.1 HR.out.kn HD.out.1 HD.out.2 (by rw[O,Z.out]) fR HO.out.inv bx.out HO.out.nV k9 (fun x hx=>by
        rcases hh x hx with h1|h1
        ·exact b3.out x h1
        ·have h1:x.1<j:=h1
         exact fun h2=>by have:=h2.1;omega) cY.out
       have ln:aH W7 A ids.length ids/\Gs (fun k=>Rf.free E { Y4 with iA:=Y.iA,ic:=Y.ic } k/\k<W7.heap.size) A ids.length:=by
        rw[O]
        refine⟨HA.out.1.turn cF HA.out.2 fun k hk=>hk.1,(HA.out.1.inside HA.out.2).mono fun k hk=>⟨⟨fun e=>(cc k e).elim hk.1.1 fun e2=>by have:=hk.2;omega,fun e=>hk.1.2 (by have e:Y4.X k:=e;rw[y4] at e;exact e)⟩,Fp hk.2 cF.size⟩⟩
       have ho:Hid (∀ A8 c8 w8,W7.grownBy w8 (Value.slice Y4.dA m'.length Y4.dc).ownBlock->w8.ownsRow E.w0.heap.size 259 3 (.slice A8 (m'.length+1) c8) (m'.length+1) (Y4.M.flatMap BS++[.int .i64 (j:Int),.slice A q c,.int .i64 R.2.1])->((Value.slice A8 (m'.length+1) c8).ownBlock=(Value.slice Y4.dA m'.length Y4.dc).ownBlock\/(Value.slice A8 (m'.length+1) c8).ownBlock=some W7.heap.size)->
         (w8.cell? ⟨E.mb,3,none⟩=some (.slice Y4.dA m'.length Y4.dc)/\w8.frozen? ⟨E.mb,3,none⟩=false)/\Rf.aY E i S w Y s R rest (.returned (.tuple #[.int .i64 R.2.1,.int .i64 R.2.2])) (w8.setCell ⟨E.mb,3,none⟩ (.slice A8 (m'.length+1) c8))):=fun A8 c8 w8 gg oo qq=>by
        rw[aj] at gg
        rw[aj,aj] at qq
        obtain⟨n1,n2,n3⟩:=r7.note (p:=(A,c)) (q:=(j,ids,R.2.1)) gg (by
         show World.ownsRow _ _ _ 3 _ _ (Y4.M.flatMap BS++[.int .i64 (j:Int),.slice A ids.length c,.int .i64 R.2.1])
         rw[O]
         exact oo) qq ln
        have l8:=(ae.aB (F:=fun k=>ak Y4.dA=some k) gg fun _ e _=>e).lies r7.own r7.apart
        refine⟨⟨l8.cell 3,l8.free 3⟩,rfl,m'++[(j,ids,R.2.1)],⟨_,n1,y4,cF.trans n2 cc,fun k hk=>(n3 k hk).elim (cc k) fun e=> .inr (Fo cF.size e)⟩,fun _=>ka,fun x hx=>?_⟩
        rcases F7.1 hx with hx|hx
        ·exact fE x hx
        ·rw[F0.1 hx]
         exact .inr HJ.out.1
       have hD:=Gn r7.row
       have c3:=eW.own.cell 3
       clear ah bE a7 HS HD HR HO bP HA bx bp Z I ba HJ HC bz HZ b1 HM cz a1 b3 cY e9 hN e8 cX hP O r4 y4 t4 f4 iR hh fa cc eO r5 r6 cE eW fE he x4 x5 x6 x7 x8 x9 m0 m1 m2 m3 r7 cF fR hlen hS k9 ka ln
       go_wp2_with (at_builtin;refine Fw _ rfl (.tmp 147) (.tmp 152) 100 rfl E.w0.heap.size 259 i0 (.agg #[.int .i64 0,.slice none 0 0,.int .i64 0]) 3 40 Tryz.underlying100 hi im iI iN rfl (by decide) (.slice Y4.dA m'.length Y4.dc) m'.length (Y4.M.flatMap BS) (by simp[Act.eval]) hD.out ⟨W6.heap.size,0,none⟩ 1 1 [.int .i64 (j:Int),.slice A q c,.int .i64 R.2.1] (by simp[Act.eval]) rfl (by rw[<-kL];exact fH rfl) (by intro u hu;simp at hu;rcases hu with rfl|rfl|rfl <;> rfl) hZ h4 cl ?_;intro v8 w8 o8 g8 _ q8;obtain⟨A8,c8,rfl⟩:=aI o8;obtain⟨⟨k8,l8⟩,v⟩:=ho.out A8 c8 w8 g8 o8 q8;have V:=Gn v;clear v o8 g8 q8)
       clear ho hD
       go_wp2
       exact GD (by simp[results,Tryz.results139,go_sem]) rfl V.out
theorem Mk.Ok.all {D:List Dc} {s:Ms} (h:Mk.Ok D s):∀ f∈s.fr,Fr.Ok D s.N.length f:=fun f hf=>by
 obtain⟨bs,g,e,r,I⟩:=h.fr
 rw[e] at hf
 rcases F7.1 hf with hf|hf
 ·exact(r f hf).1
 ·rw[F0.1 hf];exact I
theorem Mk.Env.Ok.len {E:Mk.Env} (h:E.Ok):E.D.length=E.n:=by rw[<-h.dc.len];exact Fi _
theorem Ds (E:Mk.Env) (L:E.Ok) (U:Gl E.w0) (J:Mk.vU E.D) (w:World) (M:Nat) (Y:Mk.Lay) (s:Ms) (h:Mk.aF E w M Y s) (r:Mk.Ok E.D s) (hl:Mk.Live s) (hf:Mk.Fits s):
  Calls Tryz.prog 93 #[.pointer (some ⟨M,0,none⟩)] w fun e w'=>Mk.aY E w M Y (Mk.step E.D s) e w':=by
 have hs:Mk.Small s:=⟨by have:=hf.fr;omega,by have:=hf.sc;omega,fun f hm=>⟨by have:=r.all f hm;have:=this.le;have:=(r.all f hm).len;omega,by have:=hf.dp f hm;omega⟩,r.len⟩
 have Q:∀ (j:Nat) d,E.D[j]?=some d->d.par.length<=1000/\∀ p∈d.par,p.1.size<=maxLen:=fun j d hd=>⟨by have:=(J.par j d hd).1;omega,fun p hp=>by have:=(J.par j d hd).2 p hp;unfold maxLen;omega⟩
 rcases r.ways hl with⟨bs,f,x,e,I,V,O,hw⟩|⟨bs,g,f,e,I,hle,hn,hw⟩
 ·exact r9 E L U w M Y s bs f x h e hs (fun y hy=>by have:=(r.sc y hy).1;rw[L.len] at this;exact this) (hf.le f (by rw[e];simp)) V O I.len Q
 ·exact qY E L J w M Y s bs g f h e hs (hf.le f (by rw[e];simp)) hle I hn r.toBase
theorem Mk.aF.first {E:Mk.Env} {w:World} {M:Nat} {Y:Mk.Lay} {s:Ms} (h:Mk.aF E w M Y s) {g:Fr} {r:List Fr} (hf:s.fr=g::r):
  ∃ (O:Nat) (iA:Option Addr) (ic:Nat),w.cell? ⟨M,5,none⟩=some (.slice (some ⟨O,0,none⟩) s.fr.length Y.fc)/\O<w.heap.size/\w.cell? ⟨O,1,none⟩=some (.slice iA g.ids.length ic)/\aH w iA g.ids.length g.ids:=by
 obtain⟨q,FL,L⟩:∃ q FL,Y.FL=q::FL:=by
  have:=h.fl
  rw[hf] at this
  cases V:Y.FL with
  |nil=>rw[V] at this;cases this
  |cons q FL=>exact⟨q,FL,rfl⟩
 have U:q.2=g:=by
  have:=h.fl
  rw[hf,L] at this
  injection this
 have J:=h.fZ
 have I:=h.ids q (by rw[L];simp)
 rw[U] at I
 have hc:=h.own.cell 5
 rcases J.2 with⟨_,e⟩|⟨O,cap,cur,e,_,X,_⟩
 ·rw[hf] at e;simp at e
 ·injection e with Q _ _
  refine⟨O,q.1.iA,q.1.ic,by rw[hc,<-Q];rfl,(Fl.1 X).1,?_,aH.eX I rfl⟩
  have:=J.cells (g:=O) (by rw[Q];rfl) 1 (.slice q.1.iA g.ids.length q.1.ic) (by rw[L,GI,<-U];rfl)
  simpa [addr_add] using this
theorem Mk.yW {D:List Dc} {N:List Nd} {sc:Sc} {x:Sx} (I:Tm.Inv N) (J:N.length<=20000) (r:Bd.In N (sc.map (·.2))) (O:Sx.bH x):Mk.Ok D (Mk.start D N sc x):=
 ⟨⟨I,J,fun y hy=>by rw[F0.1 hy];exact⟨Fm _,fun q L=>r _ (Ir L)⟩,Bd.ck.nil _ _,fun _ h=>(FD h).elim⟩,
  ⟨[],⟨[x],[],.none,1,0⟩,rfl,fun _ h=>(FD h).elim,⟨Fz _,fun _ h=>(FD h).elim,by simp,fun y hy=>by rw[F0.1 hy];exact O,rfl⟩⟩,⟨⟨[x],[],.none,1,0⟩,[],rfl,rfl,fun _ h=>(FD h).elim⟩⟩
theorem Mk.Run.ways {D:List Dc} {n:Nat} {s s2:Ms} (h:Mk.Run D n s s2):(n=0/\s=s2)\/∃ m s1,n=m+1/\Mk.Live s/\Mk.Fits s/\Mk.step D s=(s1,0)/\Mk.Run D m s1 s2:=by
 cases h with
 |zero=>exact .inl ⟨rfl,rfl⟩
 |succ r I J L=>exact .inr ⟨_,_,rfl,r,I,J,L⟩
theorem Mk.Live.first {s:Ms} (h:Mk.Live s):∃ g r,s.fr=g::r/\g.ids=[]:=by
 unfold Mk.Live at h
 cases hf:s.fr with
 |nil=>rw[hf] at h;cases h
 |cons g r=>rw[hf] at h;exact⟨g,r,rfl,by simpa using h⟩
theorem DL (E:Mk.Env) (hE:E.Ok) (hG:Gl E.w0) (hD:Mk.vU E.D) (w:World) (M:Nat) (Y:Mk.Lay) (N:List Nd) (x:Sx) (A:Option Addr) (c:Nat) (mo:Option Nat) (sc:Sc)
  (h:Mk.aF E w M Y ⟨N,[],[],[]⟩) (hx:aJ w (fun b _=>¬Mk.ag M Y b) x A c) (ch:Sx.bH x) (hv:jB w (fun k=>¬Mk.ag M Y k) (.map mo) ⟨sc,true,E.n⟩) (hI:Tm.Inv N) (hN:N.length<=20000) (bp:Bd.In N (sc.map (·.2))) (bb:x.size+Mk.room E.D E.D.length<=4700):
  Calls Tryz.prog 45 #[.pointer (some ⟨M,0,none⟩),aX x A c,.map mo] w fun e w'=>e=.returned (.tuple #[.int .i64 (Bd.tm E.D E.D.length sc N x).2.1,.int .i64 (Bd.tm E.D E.D.length sc N x).2.2])/\∃ s',Mk.Left E w M Y s' w'/\s'.N=(Bd.tm E.D E.D.length sc N x).1:=by
 have Q:=Mk.runs E.D N sc x hI bp bb
 have X:=(Bd.good E.D E.D.length x sc N hI bp).2
 obtain⟨T,hT⟩:∃ T,Bd.tm E.D E.D.length sc N x=T:=⟨_,rfl⟩
 rw[hT] at Q X ⊢
 obtain⟨N',b6,err⟩:=T
 simp only at Q ⊢
 have bP:=Mk.yW (D:=E.D) hI hN bp ch
 obtain⟨sE,n0,bT,bL⟩:∃ sE n0,Mk.Run E.D n0 (Mk.start E.D N sc x) sE/\((err=0/\sE.N=N'/\sE.fr=[⟨[x],[b6],.none,1,0⟩])\/(err≠0/\b6=0/\Mk.Live sE/\Mk.Fits sE/\∃ ad,Mk.step E.D sE=(ad,err)/\ad.N=N')):=by
  by_cases he:err=0
  ·obtain⟨n,s',h1,h2,h3,_⟩:=Q.1 he
   exact⟨s',n,h1,.inl ⟨he,h2,h3⟩⟩
  ·obtain⟨n,s',ad,h1,h2,h3,h4,h5⟩:=Q.2 he
   exact⟨s',n,h1,.inr ⟨he,X.2 he,h2,h3,ad,h4,h5⟩⟩
 obtain⟨W0,bn⟩:∃ W0,w.alloc (dr x A c)=W0:=⟨_,rfl⟩
 have bl:Below w.heap.size w W0:=by rw[<-bn];exact(Gp _ w).alloc (Fm _) _
 have cv:mh W0 w.heap.size 0 x A c:=by rw[<-bn];exact eN w x A c
 have h0:=h.below bl
 have HB:Hid (Calls Tryz.prog 92 #[.pointer (some ⟨M,0,none⟩),aX x A c,.agg #[.map mo,.bool false,.int .i64 (E.n:Int)],.nilFunc] W0.drew fun e w'=>e=.returned (.tuple #[])/\Mk.Left E w M Y (Mk.start E.D N sc x) w'):=by
  have hq:Below W0.heap.size W0 W0.drew:=⟨rfl,rfl,rfl,Fm _,fun _ _=>rfl⟩
  have hb:=bl.trans (hq.mono bl.size)
  have ht:ae (fun _=>False) w W0.drew:=ae.af hb
  have:=BK E W0.drew M Y ⟨N,[],[],[]⟩ x A c (.map mo) false sc E.n .nilFunc .none (h.below hb) ⟨hx.le,hx.tree.bR ht fun k _ hk=>⟨id,hk⟩⟩ (hv.turn ht fun k _ hk=>⟨id,hk⟩) rfl (by simp) (by simp)
  refine this.mono fun e w' q=>⟨q.1,?_⟩
  have:=q.2.up hb
  rw[<-hE.len] at this
  exact this
 have I:=Gn fun(W:World) (Y':Mk.Lay) (s:Ms) (r:Mk.aF E W M Y' s) (ho:Mk.Ok E.D s) (hl:Mk.Live s) (hf:Mk.Fits s)=>Ds E hE hG hD W M Y' s r ho hl hf
 have O:=Gn fun(s s1:Ms) (ho:Mk.Ok E.D s) (hl:Mk.Live s) (hs:Mk.step E.D s=(s1,0))=>ho.step hD hl hs
 have c1:W0.cell? ⟨M,1,none⟩=some (.slice E.A E.n E.c):=by rw[h0.own.cell];rfl
 have zM:=h0.own.lt
 have ah:=Gn bL
 have bE:=Gn bT
 have b8:=Gn bP
 obtain⟨xn,bD⟩:∃ xn,x.L.length=xn:=⟨_,rfl⟩
 obtain⟨xl,bC⟩:∃ xl,x.list=xl:=⟨_,rfl⟩
 obtain⟨xk,bB⟩:∃ xk,x.k=xk:=⟨_,rfl⟩
 obtain⟨xT,bx⟩:∃ xT,x.T=xT:=⟨_,rfl⟩
 obtain⟨b7,ao⟩:∃ b7,x.ta=b7:=⟨_,rfl⟩
 obtain⟨xa,bz⟩:∃ xa,x.at_=xa:=⟨_,rfl⟩
 obtain⟨_,b0,b1,b2,b3,b4,b5⟩:=cv
 simp only[FA] at b0 b1 b2 b3 b4 b5
 obtain⟨EA,b9⟩:∃ EA,E.A=EA:=⟨_,rfl⟩
 obtain⟨En,cb⟩:∃ En,E.n=En:=⟨_,rfl⟩
 obtain⟨Ec,ca⟩:∃ Ec,E.c=Ec:=⟨_,rfl⟩
 unfold aX at HB ⊢
 rw[bD,bC,bB,bx,ao,bz] at HB ⊢
 rw[cb] at HB c1
 rw[b9,ca] at c1
 rw[bC] at b0
 rw[bB] at b1
 rw[bx] at b2
 rw[ao] at b3
 rw[bz] at b4
 rw[bD] at b5
 have cc:w.alloc (.cells #[.bool xl,.int .i64 xk,.string xT,.int .i64 b7,.int .i64 xa,.slice A xn c] 27)=W0:=by rw[<-bn,<-bC,<-bB,<-bx,<-ao,<-bz,<-bD]
 clear hG h hx ch hv hI hN bp bb Q X hT bP bT bL bl h0 bD bC bB bx ao bz b9 cb ca bn
 go_enter Tryz.func45,Tryz.ntmps45
 go_wp2_with fail
 clear cc
 go_still_tail 9,(by kernel_rfl)
 change wpList _ _ _ _ _ W0.drew
 go_wp2_with fail
 refine HB.out.mono ?_
 rintro e w1 ⟨rfl,l1⟩
 have L1:=Gn l1
 clear HB l1 b0 b1 b2 b3 b4 b5 c1 zM
 go_wp2_with fail
 go_loopg [8] n0 (fun gk ev wr=>∃ s,Mk.Run E.D gk s sE/\Hid (Mk.Left E w M Y s wr/\Mk.Ok E.D s))
 case atStart=>exact⟨_,bE.out,L1.out,b8.out⟩
 case round=>
  obtain⟨s,bo,HI⟩:=hrel
  obtain⟨⟨Y',r1,t1,y1⟩,av⟩:=HI.out
  clear L1 bE b8 HI
  rcases bo.ways with⟨rfl,rfl⟩|⟨m,s1,rfl,hl,a7,a1,cl⟩
  ·rcases ah.out with⟨rfl,hN,J⟩|⟨he,rfl,hl,a7,ad,a1,hN⟩
   ·obtain⟨gf,iA,ic,c5,cj,c1,ba⟩:=r1.first J
    have cf:s.fr.length=1:=by rw[J];rfl
    rw[cf] at c5
    simp only[Im] at c1 ba
    obtain⟨bi,oi,z,rfl,hz,_,_,hc⟩:=ba.get (i:=0) (by decide)
    obtain rfl:b6=z:=by simpa using hz
    obtain⟨cy,cz⟩:=hc wr (Gp _ _)
    rw[Ho] at cz
    have zM:=r1.own.lt
    have HE:Hid (∃ s',Mk.Left E w M Y s' wr/\s'.N=N'):=⟨s,⟨Y',r1,t1,y1⟩,hN⟩
    clear bo ah I O r1 t1 y1 av hN J cf ba hz hc hE hD
    go_wp2
    go_ret2
    exact⟨rfl,HE.out⟩
   ·obtain⟨g,r,J,U⟩:=hl.first
    obtain⟨gf,iA,ic,c5,cj,c1,_⟩:=r1.first J
    rw[U] at c1
    simp only[He] at c1
    obtain⟨sn,Z⟩:∃ sn,s.fr.length=sn:=⟨_,rfl⟩
    have cx:(0:Int)<(sn:Int):=by rw[<-Z,J];simp
    rw[Z] at c5
    have zM:=r1.own.lt
    have HS:=Gn (I.out wr Y' s r1 av hl a7)
    rw[a1] at HS
    have HE:Hid (∀ w',Mk.Left E wr M Y' ad w'->∃ s',Mk.Left E w M Y s' w'/\s'.N=N'):=fun w' q=>⟨ad,q.after t1 y1,hN⟩
    have cE:(err != 0)=true:=by simpa using he
    clear bo ah I O r1 t1 y1 av hN J U Z hl a7 a1 hE hD he
    go_wp2_with fail
    refine HS.out.mono ?_
    rintro e w2 ⟨rfl,v⟩
    have V:=Gn (HE.out w2 v)
    clear HS HE v c5 c1
    go_wp2
    go_ret2
    exact⟨rfl,V.out⟩
  ·obtain⟨g,r,J,U⟩:=hl.first
   obtain⟨gf,iA,ic,c5,cj,c1,_⟩:=r1.first J
   rw[U] at c1
   simp only[He] at c1
   obtain⟨sn,Z⟩:∃ sn,s.fr.length=sn:=⟨_,rfl⟩
   have cx:(0:Int)<(sn:Int):=by rw[<-Z,J];simp
   rw[Z] at c5
   have zM:=r1.own.lt
   have HS:=Gn (I.out wr Y' s r1 av hl a7)
   rw[a1] at HS
   have HE:Hid (∀ w',Mk.Left E wr M Y' s1 w'->Mk.Left E w M Y s1 w'/\Mk.Ok E.D s1):=fun w' q=>⟨q.after t1 y1,O.out s s1 av hl a1⟩
   have cq:=Gn cl
   clear bo ah I O r1 t1 y1 av J U Z hl a7 a1 hE hD cl
   go_wp2_with fail
   refine HS.out.mono ?_
   rintro e w2 ⟨rfl,v⟩
   have V:=Gn (HE.out w2 v)
   clear HS HE v c5 c1
   go_wp2
   go_roundg m
   case rel=>exact⟨s1,cq.out,V.out⟩
   case measure=>omega
theorem lL {P:Program} {x:String×DataW Unit}:∀ {l:List (String×DataW Unit)} {W:World},laidMet P l W->x∈l->∃ r,laidMet P (x::r) W
 |[],_,_,h=>absurd h FD
 |y::l,W,h,I=>by
  rcases FE.1 I with rfl|I
  ·exact⟨l,h⟩
  ·exact lL h.tail I
theorem pj: "*"++ "errors.errorString"= "*errors.errorString":=by decide
theorem rP (u:TypeId) (h:Tryz.prog.typeName? 3 u=some "*errors.errorString"):u=353:=
 typeName_ptr_named (nm:= "errors.errorString") (by rw[pj];kernel_rfl) (by kernel_rfl) (by decide) u (by rw[pj];exact h)
theorem Gl.jb {l:List (String×DataW Unit)} {W:World} (h:laidMet Tryz.prog l W) (r:("strconv.ErrSyntax",Rows.laid_strconv_ErrSyntax)∈l) (I:("math/bits.deBruijn64tab",Rows.laid_math_bits_deBruijn64tab)∈l)
  (hm:∃ m,W.cell? ⟨6,0,none⟩=some (.int .i64 m)):Gl W:=by
 obtain⟨Q,J⟩:=lL h r
 obtain⟨O,L⟩:=lL h I
 refine⟨?_,?_,hm⟩
 ·obtain⟨a,s,hv,_⟩:=laid_sentinel (P:=Tryz.prog) (g:=2) (ti:=317) (tp:=353) (te:=355) (ts:=9) J (by kernel_rfl) (by kernel_rfl) Tryz.underlying317 rP Tryz.underlying353 Tryz.underlying355 rfl rfl Tryz.underlying9 (by kernel_rfl) (by kernel_rfl)
  exact⟨_,World.var?_cell (by kernel_rfl) hv 0,.inr ⟨_,_,rfl⟩⟩
 ·have k:=Lib.tabIs_of_head (P:=Tryz.prog) (g:=5) (t:=350) (e:=5) (n:=64) (k:=.u8) (by kernel_rfl) (by kernel_rfl) (by kernel_rfl) Tryz.underlying5 (by kernel_rfl) (by kernel_rfl) (show laidMet Tryz.prog (("math/bits.deBruijn64tab",Lib.tabData .u8 [0,1,56,2,57,49,28,3,61,58,42,50,38,29,17,4,62,47,59,36,45,43,51,22,53,39,33,30,24,18,12,5,63,55,48,27,60,41,37,16,46,35,44,21,52,32,23,11,54,26,40,15,34,20,31,10,25,14,19,9,13,8,7,6])::O) W from L)
  exact k.cell (by kernel_rfl) 15 (by decide)
end Go.Proofs.YtdbgiijdgedggaaGreatDoor
