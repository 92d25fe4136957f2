import Derived.Test.YtdbgiijdgedggaaGreatDoorQM42
set_option linter.unusedSimpArgs false
set_option linter.unusedVariables false
set_option maxRecDepth 100000
set_option maxHeartbeats 25600000
namespace Go.Proofs.YtdbgiijdgedggaaGreatDoor
open Go.RowKit
theorem kg (w:World) (A:Option Addr) (n c:Nat) (L:List (iZ×Dc)) (x:Sx) (xA:Option Addr) (xc:Nat) (h:iF w A n c L x xA xc) (hc:n<=c) (hT:dD w) (hK:iJ w) (hG:Gl w):
  Calls Tryz.prog 3 #[.slice A n c,aX x xA xc] w fun e w'=>e=.returned (.bool true)/\Below w.heap.size w w':=by
 obtain⟨V,bl⟩:∃ V,w.alloc (dr x xA xc)=V:=⟨_,rfl⟩
 have ao:Below w.heap.size w V:=by rw[<-bl];exact(Gp _ w).alloc (Fm _) _
 have I:Hid (∀ W,Below V.heap.size V W->rU W w.heap.size x xA xc):=fun W hW=>Co w x xA xc (by rw[bl];exact hW)
 have h0:=h.below ao
 have cf:=hT.on ao
 have cb:=hK.below ao
 have ca:=hG.below ao
 have HA:=Gn (xZ V cf cb ca)
 have HF:=Gn fun(W:World) (hW:Below V.heap.size V W)=>(h0.below hW).few
 have X:=Gn fun(hf:Bd.uJ (L.map (·.2)) x) (W:World) (hW:Below V.heap.size V W)=>h0.begin hf cf cb hW
 have bB:=Gn fun(hf:Bd.uJ (L.map (·.2)) x) (W:World) (b:Nat) (F:Nat->Prop) (N:List Nd) (hB:Mk.eI V W b F N A n c L) (hI:Tm.Inv N) (hN:N.length<=20000)=>h0.term hf ca hB hI hN
 have bz:=Gn fun(hf:Bd.uJ (L.map (·.2)) x) (W:World) (hW:Below V.heap.size V W)=>zY V W A n c L x xA xc h0 hc hf hW
 have ad:=Gn ao
 have ah:=Gn (Bd.Cu (L.map (·.2)) n x [] [] (Fz _))
 obtain⟨_,b0,b1,b2,b3,b4,b5⟩:=(eN w x xA xc)
 rw[bl] at b0 b1 b2 b3 b4 b5
 simp only[FA] at b0 b1 b2 b3 b4 b5
 clear h h0 hT hK hG cf cb ca ao hc
 obtain⟨D,hD⟩:∃ D,L.map (·.2)=D:=⟨_,rfl⟩
 rw[hD] at HF X bB ah bz
 clear hD
 obtain⟨xl,xk,xT,cX,xa,xL⟩:=x
 unfold aX
 simp only at b0 b1 b2 b3 b4 b5 ⊢
 obtain⟨xn,bE⟩:∃ xn,xL.length=xn:=⟨_,rfl⟩
 rw[bE] at b5 ⊢
 have cN:w.alloc (.cells #[.bool xl,.int .i64 xk,.string xT,.int .i64 cX,.int .i64 xa,.slice xA xn xc] 27)=V:=by rw[<-bl,<-bE]
 have U:=Gn bE
 clear bl bE
 go_enter Tryz.func3,Tryz.ntmps3
 go_wp2_with fail
 refine HA.out.mono ?_
 rintro e w1 ⟨rfl,cv⟩
 have av:=Gn cv
 clear HA cv b0 b1 b2 b3 b4 b5 cN
 obtain⟨c0,c1,c2,c3,c4,c5⟩:=I.out w1 av.out
 simp only[U.out] at c0 c1 c2 c3 c4 c5
 have bx:=Gn (HF.out w1 av.out)
 unfold aX at bx
 simp only[U.out] at bx
 clear HF
 go_wp2_with fail
 refine bx.out.mono ?_
 rintro e w2 ⟨⟨bb,rfl,hb⟩,cx⟩
 have bp:=Gn (av.out.trans (cx.mono av.out.size))
 clear bx av cx c0 c1 c2 c3 c4 c5
 cases bb with
 |false=>
  have HE:=Gn (ad.out.trans (bp.out.mono ad.out.size))
  clear X bB bz ah I ad bp hb
  go_wp2
  go_ret
  exact⟨rfl,HE.out⟩
 |true=>
  have hf:=hb rfl
  have HB:=Gn (X.out hf w2 bp.out)
  have HT:=Gn (bB.out hf)
  have Q:=Gn (bz.out hf)
  obtain⟨W3,cP⟩:∃ W3,w2.alloc (.cells Z9 37)=W3:=⟨_,rfl⟩
  rw[cP] at HB
  obtain⟨c0,c1,c2,c3,c4,c5⟩:=I.out W3 HB.out.base
  simp only[U.out] at c0 c1 c2 c3 c4 c5
  have ba:=Gn (HT.out W3 w2.heap.size _ [] HB.out Tm.Inv.nil (Fz _))
  unfold aX at ba
  simp only[U.out] at ba
  obtain⟨T,cF⟩:∃ T,Bd.tm D n [] [] ⟨xl,xk,xT,cX,xa,xL⟩=T:=⟨_,rfl⟩
  rw[cF] at ba ah Q
  obtain⟨N1,e1,er⟩:=T
  simp only at ah Q
  clear X bB hf hb cF bp bz HT
  go_wp2_with fail
  refine ba.out.mono ?_
  rintro e w4 ⟨rfl,F4,k4,t4,f4⟩
  have ch:=HB.out.next k4 t4 f4
  have bL:=Gn ch
  have a7:=Gn (Q.out w4 ch.base)
  unfold aX at a7
  simp only[U.out] at a7
  clear ba HB k4 t4 f4 ch c0 c1 c2 c3 c4 c5 Q
  obtain⟨c0,c1,c2,c3,c4,c5⟩:=I.out w4 bL.out.base
  simp only[U.out] at c0 c1 c2 c3 c4 c5
  obtain⟨m,hm⟩:∃ m,N1.length=m:=⟨_,rfl⟩
  rw[hm] at a7
  simp only at ⊢
  go_wp2_with fail
  refine a7.out.mono ?_
  rintro e Z ⟨⟨bA,bc,rfl,hN⟩,cy⟩
  have bD:=bL.out.below cy
  have b8:=Gn (yO Z w2.heap.size F4 N1 bD.bk)
  rw[hm] at b8
  have bP:=Gn (ad.out.trans (bD.base.mono ad.out.size))
  have cl:=Gn (Ig bD.bk (Ig hN hm))
  have HM:Hid (m<=20000):=by show m<=20000;rw[<-hm];exact ah.out
  clear a7 bL cy bD hN hm ah I U ad c0 c1 c2 c3 c4 c5
  go_wp2_with fail
  refine b8.out.mono ?_
  rintro e w6 ⟨rfl,b6⟩
  have bT:=Gn (bP.out.trans (b6.mono bP.out.size))
  obtain⟨hK,hR,bo⟩:=cl.out
  have a1:=Gn (Ig (hK.below b6) (Ig (hR.below b6) bo))
  have cR:=HM.out
  clear b8 bP cl b6 hK hR bo cP HM
  go_wp2
  obtain⟨wo,rfl⟩:∃ wo,wo=w6:=⟨_,rfl⟩
  go_loopw [13] (fun jv wq=>∃ j:Nat,j<=m/\jv=.int .i64 (j:Nat)/\Hid (Below wo.heap.size wo wq)) (fun jv _=>m-(intOf jv).toNat)
  case atStart=>exact⟨0,Fz _,rfl,Gp _ _⟩
  case round=>
   obtain⟨j,hj,rfl,HQ⟩:=hrel
   by_cases bn:j<m
   ·have c6:(j:Int)<(m:Int):=by omega
    have eW:(0:Int)<=(j:Int):=by omega
    obtain⟨hK,hR,bo⟩:=a1.out
    obtain⟨x,hx⟩:∃ x,N1[j]?=some x:=⟨_,Ge (by rw[bo];exact bn)⟩
    have cj:=Gn (CJ wr w2.heap.size F4 N1 j x (hK.below HQ.out) hx)
    have Q:=Gn (hR.below HQ.out)
    have HX:=Gn hx
    have e0:IntKind.i64.wrap ((j:Int)+1)=(j:Int)+1:=GR _ (by omega)
    clear hK hR bo hx a1
    go_wp2_with fail
    refine cj.out.mono ?_
    rintro e Z ⟨⟨P,rfl,hP⟩,b5⟩
    obtain⟨r,bC⟩:∃ r,Z.alloc (.cells (P.cells x) 50)=r:=⟨_,rfl⟩
    have b9:Below wr.heap.size wr r:=by rw[<-bC];exact b5.alloc b5.size _
    have cc:aa r Z.heap.size 50 (P.cells x):=by rw[<-bC];exact aa.new Z _ _
    have cz:dk r (fun _=>True) P x:=by rw[<-bC];exact hP.below ((Gp _ Z).alloc (Fm _) _)
    obtain⟨b,off,y,R,rfl,hy,_,cE,hc⟩:=(Q.out.below b9).get bn
    obtain rfl:x=y:=by rw[HX.out] at hy;exact Fk hy
    have J:Hid (∀ s:cu r,rZ s.at_ b (off+j*7) R x):=fun s=>hc _ s.ok
    have O:Hid (∀ s:cu r,tN s.at_ Z.heap.size P x):=fun s=>aa.Bv ((s.ok.block _ cc.lt).trans cc)
    have cq:Hid (∀ s:cu r,Calls Tryz.prog 17 #[.agg (P.cells x),.agg (R.cells x)] s.at_ fun e w'=>e=.returned (.bool true)/\Below s.at_.heap.size s.at_ w'):=fun s=>by
     have:=xH s.at_ P R x x (cz.below s.ok) (cE.below s.ok)
     rwa [Nd.jj.2 rfl] at this
    have b7:=Gn (HQ.out.trans (b9.mono HQ.out.size))
    clear cj Q HX HQ hP b5 b9 cc cz hy cE hc
    go_wp2_with fail
    refine cB (C:=qG r) (by kernel_rfl) (by kernel_rfl) (dt (Gp _ r)) ?_
    have ea:∀ s:cu r,s.at_.cell? ⟨b,off+j*7,none⟩=some (.int .i64 x.op):=fun s=>(J.out s).1
    have en:∀ s:cu r,s.at_.cell? ⟨b,off+j*7+1,none⟩=some (.int .i64 x.sort):=fun s=>(J.out s).2.1
    have ev:∀ s:cu r,s.at_.cell? ⟨b,off+j*7+2,none⟩=some (.slice R.A R.n R.c):=fun s=>(J.out s).2.2.1
    have eA:∀ s:cu r,s.at_.cell? ⟨b,off+j*7+3,none⟩=some (.string x.name):=fun s=>(J.out s).2.2.2.1
    have eD:∀ s:cu r,s.at_.cell? ⟨b,off+j*7+4,none⟩=some (.bool R.g):=fun s=>(J.out s).2.2.2.2.1
    have eO:∀ s:cu r,s.at_.cell? ⟨b,off+j*7+5,none⟩=some (.slice R.B R.m R.d):=fun s=>(J.out s).2.2.2.2.2.1
    have eP:∀ s:cu r,s.at_.cell? ⟨b,off+j*7+6,none⟩=some (.slice R.C R.p R.f):=fun s=>(J.out s).2.2.2.2.2.2
    have c7:∀ s:cu r,s.at_.cell? ⟨Z.heap.size,0,none⟩=some (.int .i64 x.op):=fun s=>(O.out s).1
    have c8:∀ s:cu r,s.at_.cell? ⟨Z.heap.size,1,none⟩=some (.int .i64 x.sort):=fun s=>(O.out s).2.1
    have dd:∀ s:cu r,s.at_.cell? ⟨Z.heap.size,2,none⟩=some (.slice P.A P.n P.c):=fun s=>(O.out s).2.2.1
    have dx:∀ s:cu r,s.at_.cell? ⟨Z.heap.size,3,none⟩=some (.string x.name):=fun s=>(O.out s).2.2.2.1
    have dN:∀ s:cu r,s.at_.cell? ⟨Z.heap.size,4,none⟩=some (.bool P.g):=fun s=>(O.out s).2.2.2.2.1
    have dO:∀ s:cu r,s.at_.cell? ⟨Z.heap.size,5,none⟩=some (.slice P.B P.m P.d):=fun s=>(O.out s).2.2.2.2.2.1
    have dS:∀ s:cu r,s.at_.cell? ⟨Z.heap.size,6,none⟩=some (.slice P.C P.p P.f):=fun s=>(O.out s).2.2.2.2.2.2
    repeat(go_big_quiet_step ((go_at_call 17;with_reducible exact dw (cq.out _))))
    refine wpQuiet_nil ?_
    rintro _ ⟨s,rfl⟩
    have cY:=Gn (b7.out.trans (s.ok.mono b7.out.size))
    clear ea en ev eA eD eO eP c7 c8 dd dx dN dO dS J O cq b7 bC
    generalize s.at_=W8 at*
    clear s
    go_wp2
    go_roundw
    case rel=>exact⟨j+1,by omega,by go_num,cY.out⟩
    case measure=>simp[intOf];omega
   ·have c6:¬(j:Int)<(m:Int):=by omega
    have HV:=Gn (bT.out.trans (HQ.out.mono bT.out.size))
    clear a1 HQ bn hj cR bT
    go_wp2
    go_ret
    exact⟨rfl,HV.out⟩
end Go.Proofs.YtdbgiijdgedggaaGreatDoor
