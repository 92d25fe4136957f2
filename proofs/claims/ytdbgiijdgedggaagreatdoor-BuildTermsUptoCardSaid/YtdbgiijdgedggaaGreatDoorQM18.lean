import Derived.Test.YtdbgiijdgedggaaGreatDoorQM16
import Derived.Test.YtdbgiijdgedggaaGreatDoorQM17
import Derived.Deep.Slices
import Derived.Deep.Fields
import Derived.ChangeSame
set_option linter.unusedSimpArgs false
set_option linter.unusedVariables false
set_option maxRecDepth 100000
set_option maxHeartbeats 25600000
namespace Go.Proofs.YtdbgiijdgedggaaGreatDoor
open Go.RowKit
def Tm.aC (l:List Nd) (p:Int):Int:=(l[p.toNat]?.map (·.sort)).getD 0
theorem Tm.lj (l:List Nd) (a:List Int):a.map (Tm.a6 l)=(a.map (Tm.aC l)).map Tm.letter:=by rw[List.map_map];rfl
theorem Tm.iW {l:List Nd} {q:Nat} {x:Nd} (h:l[q]?=some x):Tm.aC l (q:Int)=x.sort:=by
 unfold Tm.aC
 rw[Ih,h]
 rfl
theorem Tm.uI {l:List Nd} (r:Tm.Inv l) {a:List Int} (ha:Tm.ct l a=true):∀ s∈a.map (Tm.aC l),1<=s/\s<=3:=fun s hs=>by
 obtain⟨p,hp,rfl⟩:=Hh.1 hs
 obtain⟨I,J⟩:=Tm.bV ha p hp
 obtain⟨q,rfl⟩:∃ q:Nat,p=q:=⟨p.toNat,by omega⟩
 obtain⟨x,h⟩:∃ x,l[q]?=some x:=⟨_,Ge (by omega)⟩
 rw[Tm.iW h]
 exact r.sort x (FP h)
theorem xB (w:World) (b:Nat) (F:Nat->Prop) (l:List Nd) (h:Bk w b F l) (hI:Tm.Inv l) (o:Nat) (A:Option Addr) (n c:Nat) (a:List Int) {G:Nat->Prop} (ha:aH w A n a) (cR:∀ z∈a,(Lit.int .i64 z).wf=true) (hg:Gs G A n) (hG:∀ k,G k->¬F k)
  (hn:n<=1000) (hV:l.length<=30000) (hT:dD w) (hK:iJ w) {ws:List Nat} {more:Bool} {own a0 L V X Z Q:Nat} (ho:o<31) (O:Tm.pz[o]?=some [a0,L,V,X,Z,Q]) (iU:a0<=200) (iX:L<=200) (hX:V<=3) (hY:X<=3) (hZ:Z<=3) (how:Q<=3) (iI:0<L)
  (I:Tm.asks (o:Int)=some (ws,more,own)) (hr:Tm.kd ws more own a0 L V X Z Q):
  Calls Tryz.prog 36 #[.pointer (some ⟨b,0,none⟩),.int .i64 (o:Int),.slice A n c] w fun e w'=>cr w b F (Tm.app l o a) e w':=by
 obtain⟨W1,e6⟩:∃ W1,w.alloc (.cells #[.int .u8 (a0:Int),.int .u8 (L:Int),.int .u8 (V:Int),.int .u8 (X:Int),.int .u8 (Z:Int),.int .u8 (Q:Int)] 149)=W1:=⟨_,rfl⟩
 have B1:Below w.heap.size w W1:=by rw[<-e6];exact(Gp _ w).alloc (Fm _) _
 have L1:aa W1 w.heap.size 149 #[.int .u8 (a0:Int),.int .u8 (L:Int),.int .u8 (V:Int),.int .u8 (X:Int),.int .u8 (Z:Int),.int .u8 (Q:Int)]:=by rw[<-e6];exact aa.new w _ _
 have g0:=hK o _ O 0 a0 rfl
 have g1:=hK o _ O 1 L rfl
 have g2:=hK o _ O 2 V rfl
 have g3:=hK o _ O 3 X rfl
 have g4:=hK o _ O 4 Z rfl
 have g5:=hK o _ O 5 Q rfl
 simp only[Ho] at g0
 have e0:=L1.cell 0
 have e1:=L1.cell 1
 simp at e0 e1
 have kl:(o:Int)<31:=by omega
 have ks:¬(31:Int)<=(o:Int):=by omega
 have k1:((L:Int) == 0)=false:=Gx.2 (by omega)
 have kL:IntKind.i64.wrap (a0:Int)=(a0:Int):=GR _ (by omega)
 have k0:IntKind.i64.wrap (L:Int)=(L:Int):=GR _ (by omega)
 have U:=Gn (wT W1 b F l (h.below B1) A n c a (ha.below B1) (by omega))
 have ad:=Gn B1
 have b8:=Gn L1
 have HH:=Gn h
 have HA:=Gn ha
 have HI:=Gn hI
 have ba:=ha.len
 obtain⟨rl,bP⟩:∃ r,Tm.app l (o:Int) a=r:=⟨_,rfl⟩
 have hlen:(a.length<ws.length\/(ws.length<a.length/\more=false)\/200<a.length)↔(n<a0\/L<n):=by
  have h1:=hr.len
  have h2:=hr.most
  have h3:=hr.pos
  cases more <;> simp at h2 <;> simp <;> omega
 have b6:Hid (n<a0\/L<n->rl=(l,0,1)):=fun e=>by
  rw[<-bP,Tm.app,I]
  simp only
  rw[Fx (hlen.2 e)]
 have cq:Hid (¬(n<a0\/L<n)->Tm.ct l a=false->rl=(l,0,1)):=fun e e2=>by
  rw[<-bP,Tm.app,I]
  simp only
  rw[FQ (fun x=>e (hlen.1 x)),Fx e2]
 have cv:Hid (¬(n<a0\/L<n)->Tm.ct l a=true->Tm.fU ws 0 63 (a.map (Tm.a6 l))=false->rl=(l,0,90)):=fun e e2 e3=>by
  rw[<-bP,Tm.app,I]
  simp only
  rw[FQ (fun x=>e (hlen.1 x)),FQ (by rw[e2];decide),Fx e3]
 have cx:Hid (¬(n<a0\/L<n)->Tm.ct l a=true->Tm.fU ws 0 63 (a.map (Tm.a6 l))=true->(o:Int)=17/\1<Tm.free l a->rl=(l,0,101)):=fun e e2 e3 e4=>by
  rw[<-bP,Tm.app,I]
  simp only
  rw[FQ (fun x=>e (hlen.1 x)),FQ (by rw[e2];decide),FQ (by rw[e3];decide),Fx e4]
 have b7:Hid (¬(n<a0\/L<n)->Tm.ct l a=true->Tm.fU ws 0 63 (a.map (Tm.a6 l))=true->¬((o:Int)=17/\1<Tm.free l a)->rl=Tm.add l (Tm.node (o:Int) own l a)):=fun e e2 e3 e4=>by
  rw[<-bP,Tm.app,I]
  simp only
  rw[FQ (fun x=>e (hlen.1 x)),FQ (by rw[e2];decide),FQ (by rw[e3];decide),FQ e4]
 rw[bP]
 clear bP hlen
 by_cases cc:n<a0
 ·obtain rfl:=b6.out (.inl cc)
  have en:(n:Int)<(a0:Int):=by omega
  have HV:=Gn (cr.same (x:=0) (y:=1) HH.out ad.out)
  clear b6 cq cv cx b7 U ad b8 HH HA HI h hI ha cR hg hG hT hK O I hr B1 L1 ba cc
  go_enter Tryz.func36,Tryz.ntmps36
  go_wp2
  go_ret2
  exact HV.out
 by_cases cF:L<n
 ·obtain rfl:=b6.out (.inr cF)
  have en:¬(n:Int)<(a0:Int):=by omega
  have hJ:(L:Int)<(n:Int):=by omega
  have HV:=Gn (cr.same (x:=0) (y:=1) HH.out ad.out)
  clear b6 cq cv cx b7 U ad b8 HH HA HI h hI ha cR hg hG hT hK O I hr B1 L1 ba cc cF
  go_enter Tryz.func36,Tryz.ntmps36
  go_wp2
  go_ret2
  exact HV.out
 have cf:¬(n<a0\/L<n):=fun e=>e.elim cc cF
 have en:¬(n:Int)<(a0:Int):=by omega
 have hJ:¬(L:Int)<(n:Int):=by omega
 cases J:Tm.ct l a with
 |false=>
  obtain rfl:=cq.out cf J
  rw[J] at U
  have HV:Hid (∀ w2,Below W1.heap.size W1 w2->cr w b F (l,0,1) (.returned (.tuple #[.int .i64 0,.int .i64 1])) w2):=fun w2 b2=>cr.same (x:=0) (y:=1) HH.out (ad.out.trans (b2.mono ad.out.size))
  clear b6 cq cv cx b7 ad b8 HH HA HI h hI ha cR hg hG hT hK O I hr B1 L1 ba cc cF cf J
  go_enter Tryz.func36,Tryz.ntmps36
  go_wp2_with fail
  refine U.out.mono ?_
  rintro e w2 ⟨rfl,b2⟩
  have hN:=Gn (HV.out w2 b2)
  clear HV U b2
  go_wp2
  go_ret2
  exact hN.out
 |true=>
  rw[J] at U
  have ih:1<=n:=by have:=hr.len;have:=hr.pos;omega
  obtain⟨k,hk⟩:∃ k,n=k+1:=⟨n-1,by omega⟩
  have ka:(n:Int)-1=(k:Int):=by omega
  have j4:(k:Int)<(n:Int):=by omega
  have j3:(0:Int)<=(k:Int):=by omega
  obtain⟨bA,oA,zl,rfl,hM,er,_,dS⟩:=HA.out.get (i:=k) (by omega)
  obtain⟨hS,hU⟩:=Tm.bV J zl er
  obtain⟨q,rfl⟩:∃ q:Nat,zl=(q:Int):=⟨zl.toNat,by omega⟩
  obtain⟨xl,fy⟩:∃ xl,l[q]?=some xl:=⟨_,Ge (by omega)⟩
  obtain⟨A',c',hb,e8,e9⟩:=h.cell
  obtain⟨g,off,PL,rfl,dN,_,hD⟩:=e9 q xl fy
  obtain⟨last,bL⟩:∃ last,xl.sort=last:=⟨_,rfl⟩
  have bE:(a.map (Tm.aC l)).getLast?.getD 0=last:=by
   rw[List.getLast?_eq_getElem?,Fi,ba,hk,Ha,Fj,hM]
   simp only[GZ,G0]
   rw[Tm.iW fy,bL]
  have ff:=Tm.uI hI J
  have ao:=hr.parts (a.map (Tm.aC l)) ff (by
   rw[Fi]
   have h1:=hr.len
   have h2:=hr.most
   have h3:=hr.pos
   cases more <;> simp at h2 <;> simp <;> omega)
  rw[bE,<-Tm.lj] at ao
  have b1:=hr.Ez (a.map (Tm.aC l)) ff (by intro e;rw[List.map_eq_nil_iff] at e;rw[e] at ba;simp at ba;omega)
  rw[bE,<-Tm.lj] at b1
  have cN:Tm.node (o:Int) own l a=⟨(o:Int),Tm.fix Q last,a,ByteArray.empty,0,[]⟩:=by unfold Tm.node;rw[b1]
  rw[cN] at b7
  obtain⟨ln,ea⟩:∃ ln,l.length=ln:=⟨_,rfl⟩
  have kv:(q:Int)<(ln:Int):=by omega
  rw[ea] at e8
  have cY:Hid (∀ W,Below w.heap.size w W->W.cell? ⟨b,2,none⟩=some (.slice (some ⟨g,off,none⟩) ln c')):=fun W hW=>(hW.cell (p:=⟨b,2,none⟩) hb).trans e8
  have fR:Hid (∀ W,Below w.heap.size w W->W.cell? ⟨bA,oA+k,none⟩=some (.int .i64 (q:Int))):=fun W hW=>(dS W hW).2
  have ga:Hid (∀ W,Below w.heap.size w W->W.cell? ⟨g,off+q*7+1,none⟩=some (.int .i64 last)):=fun W hW=>by
   have:=(hW.cell (p:=⟨g,off+q*7+1,none⟩) dN).trans (hD 1 (.int .i64 xl.sort) rfl)
   rwa [bL] at this
  have HX:Hid (∀ W,Below w.heap.size w W->∀ (i:Nat),i<n->∃ p x,a[i]?=some ((p:Nat):Int)/\p<ln/\Tm.aC l (p:Int)=x/\W.cell? ⟨bA,oA+i,none⟩=some (.int .i64 (p:Int))/\W.cell? ⟨g,off+p*7+1,none⟩=some (.int .i64 x)/\g<w.heap.size):=fun W hW i hi=>by
   obtain⟨iR,k2,z,e,hz,h5,_,hc⟩:=ha.get hi
   injection e with e
   injection e with e1 e2
   subst e1
   subst e2
   obtain⟨h0,h1⟩:=Tm.bV J z h5
   obtain⟨p,rfl⟩:∃ p:Nat,z=(p:Int):=⟨z.toNat,by omega⟩
   obtain⟨x,hx⟩:∃ x,l[p]?=some x:=⟨_,Ge (by omega)⟩
   obtain⟨g',iN,P',e,_,_,hP⟩:=e9 p x hx
   injection e with e
   injection e with e1 e2
   subst e1
   subst e2
   exact⟨p,x.sort,hz,by omega,Tm.iW hx,(hc W hW).2,(hW.cell (p:=⟨g,off+p*7+1,none⟩) dN).trans (hP 1 (.int .i64 x.sort) rfl),dN⟩
  have cz:=Gn ao
  have dd:Hid (∀ W,Below w.heap.size w W->Calls Tryz.prog 82 #[.pointer (some ⟨b,0,none⟩),.slice (some ⟨bA,oA,none⟩) n c] W fun e w'=>e=.returned (.int .i64 ((Tm.free l a:Nat):Int))/\Below W.heap.size W w'):=fun W hW=>
   rD W b F l (h.below hW) hI _ n c a (ha.below hW) J hn
  have b3:Hid (∀ W,Below w.heap.size w W->Calls Tryz.prog 79 #[.pointer (some ⟨b,0,none⟩),.agg #[.int .i64 (o:Int),.int .i64 (Tm.fix Q last),.slice (some ⟨bA,oA,none⟩) n c,.string ⟨#[]⟩,.bool false,.slice none 0 0,.slice none 0 0]] W fun e w'=>cr W b F (Tm.add l ⟨(o:Int),Tm.fix Q last,a,ByteArray.empty,0,[]⟩) e w'):=fun W hW=>by
   have ky:=Tm.xo I
   have jv:1<=Tm.fix Q last/\Tm.fix Q last<=3:=by
    rw[<-b1]
    exact Tm.nt _
   refine nx W b F l ⟨some ⟨bA,oA,none⟩,n,c,false,none,0,0,none,0,0⟩ ⟨(o:Int),Tm.fix Q last,a,ByteArray.empty,0,[]⟩ (G:=G) (h.below hW)
    ⟨ha.below hW,?_,cd.nil _ _,rfl,⟨Fm _,Fz _⟩,⟨hn,by simp,by simp⟩,cR,fun r hr=>absurd hr FD,hg,Gs.zero _ _,Gs.zero _ _⟩ hG ?_ (Ff (n:=(o:Int)) (by omega)) (Ff (n:=Tm.fix Q last) (by omega)) (by simp) hV (hT.on hW)
   ·show aQ W none 0 (Tm.limbs 0)
    rw[Tm.eu]
    exact aQ.dI _ _
   ·exact .inr (.inr ⟨by simp only;omega,by simp only;omega,rfl,rfl⟩)
  have bz:Hid (∀ W x y,Below w.heap.size w W->cr w b F (l,x,y) (.returned (.tuple #[.int .i64 x,.int .i64 y])) W):=fun W x y hW=>cr.same h hW
  have eW:Hid (∀ (s:World) (i:Nat),i<=1000000->Calls Tryz.prog 81 #[.agg #[.int .u8 (a0:Int),.int .u8 (L:Int),.int .u8 (V:Int),.int .u8 (X:Int),.int .u8 (Z:Int),.int .u8 (Q:Int)],.int .i64 (i:Int),.int .i64 last] s fun e w'=>e=.returned (.int .i64 (Tm.fix (if i=0 then V else if i=1 then X else Z) last))/\Below s.heap.size s w'):=fun s i hi=>Ce a0 L V X Z Q i last hX hY hZ hi s
  have b9:=Gn fun W=>CY a0 L V X Z Q last how W
  have eP:Hid (a.length=n):=ba
  have E3:=Gn (cv.out cf J)
  have E4:=Gn (cx.out cf J)
  have E5:=Gn (b7.out cf J)
  clear b6 cq cv cx b7 HH HA HI h hI ha cR hg hG hT hK O I hr B1 L1 ba cc cF cf J hk hM er dS hS hU fy e8 e9 hD bL bE ff ao b1 cN ea dN
  go_enter Tryz.func36,Tryz.ntmps36
  go_wp2_with fail
  refine U.out.mono ?_
  rintro e w2 ⟨rfl,b2⟩
  have cE:=ad.out.trans (b2.mono ad.out.size)
  have hB:=(b2.block _ b8.out.lt).trans b8.out
  have cb:=cY.out w2 cE
  have ca:=fR.out w2 cE
  have cl:=ga.out w2 cE
  have fz:=Gn cE
  have gf:=Gn hB
  clear U ad b8 cE hB b2 g0 g1 g2 g3 g4 g5 e0 e1 e6
  go_wp2_with fail
  go_quiet (fail)
  have eA:Hid (Below w.heap.size w (w2.drewN nq)):=below_drewN fz.out nq
  have eO:Hid (aa (w2.drewN nq) w.heap.size 149 #[.int .u8 (a0:Int),.int .u8 (L:Int),.int .u8 (V:Int),.int .u8 (X:Int),.int .u8 (Z:Int),.int .u8 (Q:Int)]):=gf.out
  clear fz gf cb ca cl fR ga
  generalize w2.drewN nq=D at*
  go_wp2
  go_loopw [63] (fun iv wr=>∃ i:Nat,i<=n/\iv=.int .i64 (i:Nat)/\Hid (Below w.heap.size w wr/\aa wr w.heap.size 149 #[.int .u8 (a0:Int),.int .u8 (L:Int),.int .u8 (V:Int),.int .u8 (X:Int),.int .u8 (Z:Int),.int .u8 (Q:Int)]/\∀ (j:Nat) s,j<i->(a.map (Tm.aC l))[j]?=some s->s=Tm.fix (if j=0 then V else if j=1 then X else Z) last)) (fun iv _=>n-(intOf iv).toNat)
  case atStart=>exact⟨0,Fz _,rfl,eA.out,eO.out,fun j s hj=>absurd hj (Gv _)⟩
  case round=>
   obtain⟨i,hi,rfl,HQ⟩:=hrel
   by_cases fa:i<n
   ·have h8:(i:Int)<(n:Int):=by omega
    have j1:(0:Int)<=(i:Int):=by omega
    obtain⟨p,x,e7,h4,fv,hO,_,hQ⟩:=HX.out wr HQ.out.1 i fa
    have im:(p:Int)<(ln:Int):=by omega
    have gA:Hid (∀ s:cu wr,s.at_.cell? ⟨g,off+p*7+1,none⟩=some (.int .i64 x)):=fun s=>by
     obtain⟨p',x',dO,_,hL,_,q,_⟩:=HX.out s.at_ (HQ.out.1.trans (s.ok.mono HQ.out.1.size)) i fa
     rw[e7] at dO
     obtain rfl:p=p':=by have:=Fk dO;omega
     rw[<-fv,hL]
     exact q
    have fE:Hid (∀ s:cu wr,s.at_.cell? ⟨b,2,none⟩=some (.slice (some ⟨g,off,none⟩) ln c')):=fun s=>cY.out s.at_ (HQ.out.1.trans (s.ok.mono HQ.out.1.size))
    have av:Hid (∀ s:cu wr,aa s.at_ w.heap.size 149 #[.int .u8 (a0:Int),.int .u8 (L:Int),.int .u8 (V:Int),.int .u8 (X:Int),.int .u8 (Z:Int),.int .u8 (Q:Int)]):=fun s=>(s.ok.block _ HQ.out.2.1.lt).trans HQ.out.2.1
    obtain⟨tt,fx⟩:∃ tt,Tm.fix (if i=0 then V else if i=1 then X else Z) last=tt:=⟨_,rfl⟩
    have gg:Hid (∀ s:cu wr,Calls Tryz.prog 81 #[.agg #[.int .u8 (a0:Int),.int .u8 (L:Int),.int .u8 (V:Int),.int .u8 (X:Int),.int .u8 (Z:Int),.int .u8 (Q:Int)],.int .i64 (i:Int),.int .i64 last] s.at_ fun e w'=>e=.returned (.int .i64 tt)/\Below s.at_.heap.size s.at_ w'):=fun s=>by
     have:=eW.out s.at_ i (by omega)
     rwa [fx] at this
    have c7:Hid ((a.map (Tm.aC l))[i]?=some x):=by
     show(a.map (Tm.aC l))[i]?=some x
     rw[Fj,e7,GZ,fv]
    have c8:=Gn fx
    have j2:IntKind.i64.wrap ((i:Int)+1)=(i:Int)+1:=GR _ (by omega)
    obtain⟨ne,fb⟩:∃ ne,(x != tt)=ne:=⟨_,rfl⟩
    have c6:=Gn fb
    clear e7 h4 fv fx HX eW cY dd b3 b9 eP eA eO hQ
    go_wp2_with fail
    refine cB (C:=qG wr) (by kernel_rfl) (by kernel_rfl) (dt (Gp _ wr)) ?_
    have bb:∀ s:cu wr,s.at_.cell? ⟨w.heap.size,0,none⟩=some (.int .u8 (a0:Int)):=fun s=>by rw[(av.out s).cell];rfl
    have bl:∀ s:cu wr,s.at_.cell? ⟨w.heap.size,1,none⟩=some (.int .u8 (L:Int)):=fun s=>by rw[(av.out s).cell];rfl
    have bn:∀ s:cu wr,s.at_.cell? ⟨w.heap.size,2,none⟩=some (.int .u8 (V:Int)):=fun s=>by rw[(av.out s).cell];rfl
    have bo:∀ s:cu wr,s.at_.cell? ⟨w.heap.size,3,none⟩=some (.int .u8 (X:Int)):=fun s=>by rw[(av.out s).cell];rfl
    have bp:∀ s:cu wr,s.at_.cell? ⟨w.heap.size,4,none⟩=some (.int .u8 (Z:Int)):=fun s=>by rw[(av.out s).cell];rfl
    have bx:∀ s:cu wr,s.at_.cell? ⟨w.heap.size,5,none⟩=some (.int .u8 (Q:Int)):=fun s=>by rw[(av.out s).cell];rfl
    have h6:=fE.out
    have h7:=gA.out
    repeat(go_big_quiet_step ((go_at_call 81;with_reducible exact dw (gg.out _))))
    refine wpQuiet_nil ?_
    rintro _ ⟨s,rfl⟩
    have bT:=Gn (HQ.out.1.trans (s.ok.mono HQ.out.1.size))
    have eD:=Gn (av.out s)
    have e5:=Gn HQ.out.2.2
    clear bb bl bn bo bp bx h6 h7 gA fE av gg HQ hO
    generalize s.at_=W8 at*
    clear s
    cases ne with
    |true=>
     have cX:x≠tt:=bne_iff_ne.1 c6.out
     obtain rfl:=E3.out (by
      cases hk:Tm.fU ws 0 63 (a.map (Tm.a6 l)) with
      |false=>rfl
      |true=>exact absurd ((cz.out.1 hk i x c7.out).trans c8.out) cX)
     have HV:=Gn (bz.out W8 0 90 bT.out)
     clear cX E3 E4 E5 bz cz c7 c8 c6 eD e5 bT fb
     go_wp2
     go_ret2
     exact HV.out
    |false=>
     have cX:x=tt:=by simpa using c6.out
     have HV:Hid (Below w.heap.size w W8/\aa W8 w.heap.size 149 #[.int .u8 (a0:Int),.int .u8 (L:Int),.int .u8 (V:Int),.int .u8 (X:Int),.int .u8 (Z:Int),.int .u8 (Q:Int)]/\∀ (j:Nat) s,j<i+1->(a.map (Tm.aC l))[j]?=some s->s=Tm.fix (if j=0 then V else if j=1 then X else Z) last):=by
      refine⟨bT.out,eD.out,fun j s hj hs=>?_⟩
      rcases GX j i with e|e
      ·exact e5.out j s e hs
      ·obtain rfl:j=i:=by omega
       rw[c7.out] at hs
       rw[<-Fk hs,cX,c8.out]
     clear cX E3 E4 E5 bz cz c7 c8 c6 eD e5 bT fb
     go_wp2
     go_roundw
     case rel=>exact⟨i+1,by omega,by go_num,HV.out⟩
     case measure=>simp[intOf];omega
   ·have hR:n=i:=by omega
    have h9:¬(i:Int)<(n:Int):=by omega
    have cP:Tm.fU ws 0 63 (a.map (Tm.a6 l))=true:=cz.out.2 fun j s hs=>HQ.out.2.2 j s (by
     have:=(Fg.1 hs).1
     rw[Fi,eP.out] at this
     omega) hs
    have F4:=Gn (E4.out cP)
    have F5:=Gn (E5.out cP)
    have a7:=HQ.out.2.1
    have ah:=Gn HQ.out.1
    have cy:=Gn a7
    have bb:wr.cell? ⟨w.heap.size,0,none⟩=some (.int .u8 (a0:Int)):=by rw[a7.cell];rfl
    have bl:wr.cell? ⟨w.heap.size,1,none⟩=some (.int .u8 (L:Int)):=by rw[a7.cell];rfl
    have bn:wr.cell? ⟨w.heap.size,2,none⟩=some (.int .u8 (V:Int)):=by rw[a7.cell];rfl
    have bo:wr.cell? ⟨w.heap.size,3,none⟩=some (.int .u8 (X:Int)):=by rw[a7.cell];rfl
    have bp:wr.cell? ⟨w.heap.size,4,none⟩=some (.int .u8 (Z:Int)):=by rw[a7.cell];rfl
    have bx:wr.cell? ⟨w.heap.size,5,none⟩=some (.int .u8 (Q:Int)):=by rw[a7.cell];rfl
    clear cP a7 HX eW cY eP eA eO E3 E4 E5 cz HQ hR fa hi
    by_cases bB:(o:Int)=17
    ·have d17:((o:Int) == 17)=true:=Gw.2 bB
     have HU:=Gn (dd.out wr ah.out)
     obtain⟨fr,hE⟩:∃ fr,Tm.free l a=fr:=⟨_,rfl⟩
     rw[hE] at HU F4 F5
     clear hE dd
     by_cases dx:1<fr
     ·have hh:(1:Int)<(fr:Int):=by omega
      obtain rfl:=F4.out ⟨bB,dx⟩
      clear F4 F5 b3 b9 bB dx
      go_wp2_with fail
      refine HU.out.mono ?_
      rintro e w4 ⟨rfl,b4⟩
      have HV:=Gn (bz.out w4 0 101 (ah.out.trans (b4.mono ah.out.size)))
      clear HU bz ah cy b4 bb bl bn bo bp bx
      go_wp2
      go_ret2
      exact HV.out
     ·have hh:¬(1:Int)<(fr:Int):=by omega
      obtain rfl:=F5.out (fun e=>dx e.2)
      clear F4 F5 bB dx
      go_wp2_with fail
      refine HU.out.mono ?_
      rintro e w4 ⟨rfl,b4⟩
      have hq:=ah.out.trans (b4.mono ah.out.size)
      have bD:=(b4.block _ cy.out.lt).trans cy.out
      clear bb bl bn bo bp bx
      have bb:=aa.cell (t:=149) (cs:=#[.int .u8 (a0:Int),.int .u8 (L:Int),.int .u8 (V:Int),.int .u8 (X:Int),.int .u8 (Z:Int),.int .u8 (Q:Int)]) bD 0
      have bl:=aa.cell (t:=149) (cs:=#[.int .u8 (a0:Int),.int .u8 (L:Int),.int .u8 (V:Int),.int .u8 (X:Int),.int .u8 (Z:Int),.int .u8 (Q:Int)]) bD 1
      have bn:=aa.cell (t:=149) (cs:=#[.int .u8 (a0:Int),.int .u8 (L:Int),.int .u8 (V:Int),.int .u8 (X:Int),.int .u8 (Z:Int),.int .u8 (Q:Int)]) bD 2
      have bo:=aa.cell (t:=149) (cs:=#[.int .u8 (a0:Int),.int .u8 (L:Int),.int .u8 (V:Int),.int .u8 (X:Int),.int .u8 (Z:Int),.int .u8 (Q:Int)]) bD 3
      have bp:=aa.cell (t:=149) (cs:=#[.int .u8 (a0:Int),.int .u8 (L:Int),.int .u8 (V:Int),.int .u8 (X:Int),.int .u8 (Z:Int),.int .u8 (Q:Int)]) bD 4
      have bx:=aa.cell (t:=149) (cs:=#[.int .u8 (a0:Int),.int .u8 (L:Int),.int .u8 (V:Int),.int .u8 (X:Int),.int .u8 (Z:Int),.int .u8 (Q:Int)]) bD 5
      simp at bb bl bn bo bp bx
      have ev:=Gn hq
      clear HU ah cy b4 hq bD
      go_wp2_with fail
      refine(b9.out w4).mono ?_
      rintro e w5 ⟨rfl,b5⟩
      have bC:=ev.out.trans (b5.mono ev.out.size)
      have ch:=Gn (b3.out w5 bC)
      have cj:=Gn bC
      clear b9 b3 ev b5 bC bb bl bn bo bp bx
      go_wp2_with fail
      refine ch.out.mono ?_
      rintro e w6 ha
      have HV:=Gn (ha.up cj.out)
      obtain⟨rfl,_⟩:=ha
      clear ch cj bz
      go_wp2
      go_ret2
      exact HV.out
    ·have d17:((o:Int) == 17)=false:=Gx.2 bB
     obtain rfl:=F5.out (fun e=>bB e.1)
     clear F4 F5 bB dd
     go_wp2_with fail
     refine(b9.out wr).mono ?_
     rintro e w5 ⟨rfl,b5⟩
     have bC:=ah.out.trans (b5.mono ah.out.size)
     have ch:=Gn (b3.out w5 bC)
     have cj:=Gn bC
     clear b9 b3 ah cy b5 bC bb bl bn bo bp bx
     go_wp2_with fail
     refine ch.out.mono ?_
     rintro e w6 ha
     have HV:=Gn (ha.up cj.out)
     obtain⟨rfl,_⟩:=ha
     clear ch cj bz
     go_wp2
     go_ret2
     exact HV.out
theorem Dz (w:World) (b:Nat) (F:Nat->Prop) (l:List Nd) (h:Bk w b F l) (X:Tm.Inv l) (op:Int) (A:Option Addr) (n c:Nat) (a:List Int) {G:Nat->Prop} (ha:aH w A n a) (L:∀ z∈a,(Lit.int .i64 z).wf=true) (Z:Gs G A n) (V:∀ k,G k->¬F k)
  (hn:n<=1000) (ad:l.length<=30000) (hT:dD w) (Q:iJ w):
  Calls Tryz.prog 36 #[.pointer (some ⟨b,0,none⟩),.int .i64 op,.slice A n c] w fun e w'=>cr w b F (Tm.app l op a) e w':=by
 by_cases h0:0<=op
 ·by_cases h1:op<31
  ·obtain⟨a0,a1,p0,p1,p2,ow,J,q0,q1,q2,q3,q4,q5,q6⟩:=Tm.Di h0 h1
   obtain⟨o,rfl⟩:∃ o:Nat,op=o:=⟨op.toNat,by omega⟩
   rw[Ih] at J
   rcases q6 with⟨rfl,r⟩|⟨U,ws,more,own,r,hr⟩
   ·have I:Tm.app l (o:Int) a=(l,0,101):=by rw[Tm.app,r]
    rw[I]
    have g1:=Q o _ J 1 0 rfl
    have O:=Gn (cr.same (x:=0) (y:=101) h (Gp _ w))
    have ah:(o:Int)<31:=by omega
    clear h X ha L Z V hT Q J r I h1
    go_enter Tryz.func36,Tryz.ntmps36
    go_wp2
    go_ret2
    exact O.out
   ·exact xB w b F l h X o A n c a ha L Z V hn ad hT Q (by omega) J q0 q1 q2 q3 q4 q5 U r hr
  ·have I:Tm.app l op a=(l,0,101):=by rw[Tm.app,Tm.ei (by omega)]
   rw[I]
   have O:=Gn (cr.same (x:=0) (y:=101) h (Gp _ w))
   have ah:(31:Int)<=op:=by omega
   have d0:¬op<0:=by omega
   clear h X ha L Z V hT Q I h1
   go_enter Tryz.func36,Tryz.ntmps36
   go_wp2
   go_ret2
   exact O.out
 ·have I:Tm.app l op a=(l,0,101):=by rw[Tm.app,Tm.ei (by omega)]
  rw[I]
  have O:=Gn (cr.same (x:=0) (y:=101) h (Gp _ w))
  have d0:op<0:=by omega
  clear h X ha L Z V hT Q I h0
  go_enter Tryz.func36,Tryz.ntmps36
  go_wp2
  go_ret2
  exact O.out
theorem iQ.leaf (w:World) (G:Nat->Prop) (op sort:Int) (s:ByteArray):iQ w G ⟨none,0,0,false,none,0,0,none,0,0⟩ ⟨op,sort,[],s,0,[]⟩:=
 ⟨aH.nil _ _,by rw[show Tm.limbs (Nd.num ⟨op,sort,[],s,0,[]⟩)=[] from Tm.eu];exact aQ.dI _ _,cd.nil _ _,rfl,⟨Fm _,Fz _⟩,⟨by simp,by simp,by simp⟩,fun z hz=>absurd hz FD,fun r h=>absurd h FD,Gs.zero _ _,Gs.zero _ _,Gs.zero _ _⟩
theorem zp (w:World) (b:Nat) (F:Nat->Prop) (l:List Nd) (h:Bk w b F l) (s:ByteArray) (sort:Int) (J:l.length<=30000) (hT:dD w):
  Calls Tryz.prog 35 #[.pointer (some ⟨b,0,none⟩),.string s,.int .i64 sort] w fun e w'=>cr w b F (Tm.const l s sort) e w':=by
 by_cases r:sort<1\/3<sort\/16384<s.size
 ·have hc:Tm.const l s sort=(l,0,1):=by unfold Tm.const;rw[Fx r]
  rw[hc]
  have I:=Gn (cr.same (x:=0) (y:=1) h (Gp _ w))
  by_cases Q:sort<1
  ·clear h hT hc r
   go_enter Tryz.func35,Tryz.ntmps35
   go_wp2
   go_ret2
   exact I.out
  by_cases U:3<sort
  ·clear h hT hc r
   go_enter Tryz.func35,Tryz.ntmps35
   go_wp2
   go_ret2
   exact I.out
  ·have hs:16384<s.size:=by omega
   have L:(16384:Int)<(s.size:Int):=by omega
   have V:1<=sort:=by omega
   have X:sort<=3:=by omega
   clear h hT hc r Q U
   go_enter Tryz.func35,Tryz.ntmps35
   go_wp2
   go_ret2
   exact I.out
 ·have hc:Tm.const l s sort=Tm.add l ⟨1,sort,[],s,0,[]⟩:=by unfold Tm.const;rw[FQ r]
  rw[hc]
  have Q:¬sort<1:=by omega
  have U:¬3<sort:=by omega
  have hs:¬16384<s.size:=by omega
  have L:¬(16384:Int)<(s.size:Int):=by omega
  have O:=Gn (nx w b F l ⟨none,0,0,false,none,0,0,none,0,0⟩ ⟨1,sort,[],s,0,[]⟩ (G:=fun _=>False) h (iQ.leaf w _ _ _ _) (fun _ e=>e.elim) (.inr (.inr ⟨by simp,by simp,rfl,rfl⟩)) (show(Lit.int .i64 1).wf=true by decide) (Ff (n:=sort) (by omega)) (by simp only;omega) J hT)
  clear h hT hc r
  go_enter Tryz.func35,Tryz.ntmps35
  go_wp2_with fail
  refine O.out.mono ?_
  rintro e Z ha
  have I:=Gn ha
  obtain⟨rfl,_⟩:=ha
  clear O
  go_wp2
  go_ret2
  exact I.out
theorem Db (w:World) (b:Nat) (F:Nat->Prop) (l:List Nd) (h:Bk w b F l) (v:Bool) (I:l.length<=30000) (hT:dD w):
  Calls Tryz.prog 280 #[.pointer (some ⟨b,0,none⟩),.bool v] w fun e w'=>cr w b F (Tm.bool l v) e w':=by
 cases v with
 |true=>
  rw[show Tm.bool l true=Tm.add l ⟨2,1,[],ByteArray.empty,0,[]⟩ from rfl]
  have r:=Gn (nx w b F l ⟨none,0,0,false,none,0,0,none,0,0⟩ ⟨2,1,[],ByteArray.empty,0,[]⟩ (G:=fun _=>False) h (iQ.leaf w _ _ _ _) (fun _ e=>e.elim) (.inr (.inr ⟨by simp,by simp,rfl,rfl⟩)) (by decide) (by decide) (by simp) I hT)
  clear h hT
  go_enter Tryz.func280,Tryz.ntmps280
  go_wp2_with fail
  refine r.out.mono ?_
  rintro e L ha
  have J:=Gn ha
  obtain⟨rfl,_⟩:=ha
  clear r
  go_wp2
  go_ret2
  exact J.out
 |false=>
  rw[show Tm.bool l false=Tm.add l ⟨3,1,[],ByteArray.empty,0,[]⟩ from rfl]
  have r:=Gn (nx w b F l ⟨none,0,0,false,none,0,0,none,0,0⟩ ⟨3,1,[],ByteArray.empty,0,[]⟩ (G:=fun _=>False) h (iQ.leaf w _ _ _ _) (fun _ e=>e.elim) (.inr (.inr ⟨by simp,by simp,rfl,rfl⟩)) (by decide) (by decide) (by simp) I hT)
  clear h hT
  go_enter Tryz.func280,Tryz.ntmps280
  go_wp2_with fail
  refine r.out.mono ?_
  rintro e L ha
  have J:=Gn ha
  obtain⟨rfl,_⟩:=ha
  clear r
  go_wp2
  go_ret2
  exact J.out
theorem Eg (w:World) (b:Nat) (F:Nat->Prop) (l:List Nd) (h:Bk w b F l) (g:Bool) (A:Option Addr) (n c:Nat) (z:Int) (hz:o9 w g A n c z) (hn:n<=900) (bn:l.length<=30000) (hT:dD w):
  Calls Tryz.prog 242 #[.pointer (some ⟨b,0,none⟩),.agg #[.bool g,.slice A n c]] w fun e w'=>cr w b F (Tm.num l z) e w':=by
 obtain⟨W0,bb⟩:∃ W0,w.alloc (.cells #[.bool g,.slice A n c] 47)=W0:=⟨_,rfl⟩
 have B0:Below w.heap.size w W0:=by rw[<-bb];exact(Gp _ w).alloc (Fm _) _
 have L0:aa W0 w.heap.size 47 #[.bool g,.slice A n c]:=by rw[<-bb];exact aa.new w _ _
 have HS:=Gn (xq g A n c z W0 (hz.below B0).wide)
 have O:=Gn B0
 have ad:=Gn L0
 have c0:W0.cell? ⟨w.heap.size,0,none⟩=some (.bool g):=by rw[L0.cell];rfl
 have c1:W0.cell? ⟨w.heap.size,1,none⟩=some (.slice A n c):=by rw[L0.cell];rfl
 obtain⟨sg,Q⟩:∃ sg,Z.qK z=sg:=⟨_,rfl⟩
 rw[Q] at HS
 by_cases I:z<0
 ·have hs:Tm.num l z=(l,0,1):=by unfold Tm.num;rw[Fx I]
  rw[hs]
  have d1:sg<0:=by rw[<-Q];exact lI.2 I
  have HE:Hid (∀ J,Below w.heap.size w J->cr w b F (l,0,1) (.returned (.tuple #[.int .i64 0,.int .i64 1])) J):=fun J L=>cr.same h L
  clear h hz B0 L0 hs I Q hT
  go_enter Tryz.func242,Tryz.ntmps242
  go_wp2_with fail
  refine HS.out.mono ?_
  rintro e J ⟨rfl,L⟩
  have HV:=Gn (HE.out J (O.out.trans (L.mono O.out.size)))
  clear HS HE L
  go_wp2
  go_ret2
  exact HV.out
 ·have hs:Tm.num l z=Tm.add l ⟨4,2,[],ByteArray.empty,z.natAbs,[]⟩:=by unfold Tm.num;rw[FQ I]
  rw[hs]
  have d1:¬sg<0:=by rw[<-Q];exact fun e=>I (lI.1 e)
  have ba:Hid (∀ J,Below w.heap.size w J->Calls Tryz.prog 197 #[.agg #[.bool g,.slice A n c]] J fun e w'=>(∃ A' n' V,e=.returned (.agg #[.bool false,.slice A' n' V])/\n'<=900/\qE w' (fun k=>J.heap.size<=k) A' n' V z.natAbs)/\Below J.heap.size J w'):=fun J L=>DS g A n c z J (hz.below L) I hn
  have HA:Hid (∀ J X A' n' V,Below w.heap.size w J->Below J.heap.size J X->n'<=900->qE X (fun k=>J.heap.size<=k) A' n' V z.natAbs->Calls Tryz.prog 79 #[.pointer (some ⟨b,0,none⟩),.agg #[.int .i64 4,.int .i64 2,.slice none 0 0,.string ⟨#[]⟩,.bool false,.slice A' n' V,.slice none 0 0]] X fun e w'=>cr X b F (Tm.add l ⟨4,2,[],ByteArray.empty,z.natAbs,[]⟩) e w'):=fun J X A' n' V L b2 bl hk=>
   nx X b F l ⟨none,0,0,false,A',n',V,none,0,0⟩ ⟨4,2,[],ByteArray.empty,z.natAbs,[]⟩ (G:=fun k=>J.heap.size<=k) (h.below (L.trans (b2.mono L.size)))
    ⟨aH.nil _ _,hk.mf,cd.nil _ _,rfl,hk.cap,⟨by simp,by simp only;omega,by simp⟩,fun z hz=>absurd hz FD,fun r hr=>absurd hr FD,Gs.zero _ _,hk.g,Gs.zero _ _⟩ (fun k hk e=>by have:=h.lt k e;have:=L.size;omega)
    (.inl ⟨rfl,rfl,rfl⟩) (show(Lit.int .i64 4).wf=true by decide) (show(Lit.int .i64 2).wf=true by decide) (by simp) bn (hT.on (L.trans (b2.mono L.size)))
  clear h hz B0 L0 hs I Q hT
  go_enter Tryz.func242,Tryz.ntmps242
  go_wp2_with fail
  refine HS.out.mono ?_
  rintro e J ⟨rfl,L⟩
  have ah:=O.out.trans (L.mono O.out.size)
  have ao:=(L.block _ ad.out.lt).trans ad.out
  have k0:=aa.cell (t:=47) (cs:=#[.bool g,.slice A n c]) ao 0
  have k1:=aa.cell (t:=47) (cs:=#[.bool g,.slice A n c]) ao 1
  simp at k0 k1
  have a7:=Gn (ba.out J ah)
  have U:=Gn ah
  clear HS ba L ah ao O ad c0 c1
  go_wp2_with fail
  refine a7.out.mono ?_
  rintro e X ⟨⟨A',n',V,rfl,bl,hk⟩,b2⟩
  have av:=Gn (HA.out J X A' n' V U.out b2 bl hk)
  have a1:=Gn (U.out.trans (b2.mono U.out.size))
  clear a7 HA b2 hk U k0 k1
  go_wp2_with fail
  refine av.out.mono ?_
  rintro e w3 ha
  have HV:=Gn (ha.up a1.out)
  obtain⟨rfl,_⟩:=ha
  clear av a1
  go_wp2
  go_ret2
  exact HV.out
theorem Eh (w:World) (b:Nat) (F:Nat->Prop) (l:List Nd) (h:Bk w b F l) (C:Option Addr) (p f:Nat) (t:List (Int×Int)) {G:Nat->Prop} (ht:cd w C p t) (L:∀ r∈t,(Lit.int .i64 r.1).wf=true/\(Lit.int .i64 r.2).wf=true) (Z:Gs G C p) (X:∀ k,G k->¬F k) (hp:p<=65536) (ad:l.length<=30000) (hT:dD w):
  Calls Tryz.prog 245 #[.pointer (some ⟨b,0,none⟩),.slice C p f] w fun e w'=>cr w b F (Tm.str l t) e w':=by
 have U:=Gn (D8 w C p f t ht (by omega))
 obtain⟨m,hm⟩:∃ m,Tx.ox t=m:=⟨_,rfl⟩
 rw[hm] at U
 cases m with
 |false=>
  have hs:Tm.str l t=(l,0,1):=by unfold Tm.str;rw[FQ (by rw[hm];decide)]
  rw[hs]
  have HE:Hid (∀ I,Below w.heap.size w I->cr w b F (l,0,1) (.returned (.tuple #[.int .i64 0,.int .i64 1])) I):=fun I J=>cr.same h J
  clear h ht L Z X hT hm hs
  go_enter Tryz.func245,Tryz.ntmps245
  go_wp2_with fail
  refine U.out.mono ?_
  rintro e I ⟨rfl,J⟩
  have V:=Gn (HE.out I J)
  clear U HE J
  go_wp2
  go_ret2
  exact V.out
 |true=>
  have hs:Tm.str l t=Tm.add l ⟨5,3,[],ByteArray.empty,0,t⟩:=by unfold Tm.str;rw[Fx hm]
  rw[hs]
  have HA:Hid (∀ I,Below w.heap.size w I->Calls Tryz.prog 79 #[.pointer (some ⟨b,0,none⟩),.agg #[.int .i64 5,.int .i64 3,.slice none 0 0,.string ⟨#[]⟩,.bool false,.slice none 0 0,.slice C p f]] I fun e w'=>cr I b F (Tm.add l ⟨5,3,[],ByteArray.empty,0,t⟩) e w'):=fun I J=>by
   refine nx I b F l ⟨none,0,0,false,none,0,0,C,p,f⟩ ⟨5,3,[],ByteArray.empty,0,t⟩ (G:=G) (h.below J)
    ⟨aH.nil _ _,?_,ht.below J,rfl,⟨Fm _,Fz _⟩,⟨by simp,by simp,hp⟩,fun z hz=>absurd hz FD,L,Gs.zero _ _,Gs.zero _ _,Z⟩ X (.inr (.inl ⟨rfl,rfl,rfl⟩)) (show(Lit.int .i64 5).wf=true by decide) (show(Lit.int .i64 3).wf=true by decide) (by simp) ad (hT.on J)
   show aQ I none 0 (Tm.limbs 0)
   rw[Tm.eu]
   exact aQ.dI _ _
  clear h ht L Z X hT hm hs
  go_enter Tryz.func245,Tryz.ntmps245
  go_wp2_with fail
  refine U.out.mono ?_
  rintro e I ⟨rfl,J⟩
  have O:=Gn (HA.out I J)
  have Q:=Gn J
  clear U HA J
  go_wp2_with fail
  refine O.out.mono ?_
  rintro e w2 ha
  have V:=Gn (ha.up Q.out)
  obtain⟨rfl,_⟩:=ha
  clear O Q
  go_wp2
  go_ret2
  exact V.out
end Go.Proofs.YtdbgiijdgedggaaGreatDoor
