import Derived.Test.YtdbgiijdgedggaaGreatDoorQM41
set_option linter.unusedSimpArgs false
set_option linter.unusedVariables false
set_option maxRecDepth 100000
set_option maxHeartbeats 25600000
namespace Go.Proofs.YtdbgiijdgedggaaGreatDoor
open Go.RowKit
def Rf.mN (W:World) (G:Nat->Prop) (L:List Sx) (wr:World) (i:Nat) (h:Option Addr) (r:Nat) (I:Option Addr) (J:Nat):Prop:=
 Below W.heap.size W wr/\∃ (m:List (ByteArray×Sx)) (Q:List Bz),Bd.binds (L.take i)=some m/\Q.map (·.2)=m.map (·.2)/\(∀ q∈Q,(q.2.L.length<=q.1.2/\q.1.2<=maxLen)/\au W (fun b _=>G b) q.1.1 q.2.L)/\wr.ownsRow W.heap.size 9 1 (.slice h i r) i ((m.map (·.1)).map .string)/\wr.ownsRow W.heap.size 27 6 (.slice I i J) i (Q.flatMap ej)
theorem xQ:(Tryz.prog.info? 27).map (fun i=>(i.zero,i.size,i.bytes))=some (some (.agg #[.bool false,.int .i64 0,.string ByteArray.empty,.int .i64 0,.int .i64 0,.slice none 0 0]),6,72):=by kernel_rfl
theorem Rf.mN.next {W U:World} {G:Nat->Prop} {L:List Sx} {i:Nat} {r J:Option Addr} {I O:Nat} {x u:Sx} {nm:ByteArray} {A4:Option Addr} {c4:Nat} {m:List (ByteArray×Sx)} {Q:List Bz} (hx:L[i]?=some x) (hb:Bd.bI x=some (nm,u)) (V:Bd.binds (L.take i)=some m) (X:Q.map (·.2)=m.map (·.2))
  (Z:∀ q∈Q,(q.2.L.length<=q.1.2/\q.1.2<=maxLen)/\au W (fun b _=>G b) q.1.1 q.2.L) (hu:(u.L.length<=c4/\c4<=maxLen)/\au W (fun b _=>G b) A4 u.L) (hB:Below W.heap.size W U)
  (hN:U.ownsRow W.heap.size 9 1 (.slice r (i+1) I) (i+1) ((m.map (·.1)).map .string++[.string nm])) (hT:U.ownsRow W.heap.size 27 6 (.slice J (i+1) O) (i+1) (Q.flatMap ej++ej ((A4,c4),u))):Rf.mN W G L U (i+1) r I J O:=by
 refine⟨hB,m++[(nm,u)],Q++[((A4,c4),u)],by rw[take_one hx];exact Bd.iY hb V,by rw[Hf,Hf,X];rfl,fun q h=>?_,?_,?_⟩
 ·rcases F7.1 h with h|h
  ·exact Z q h
  ·rw[F0.1 h];exact hu
 ·rw[Hf,Hf]
  exact hN
 ·rw[IH]
  simpa using hT
theorem Dg (E:Rf.Env) (i0 S:Nat) (hE:Rf.Dj E i0 S) (k:Nat) (x:Sx) (b7:∀ y,y.size<x.size->Rf.Term E i0 S k y):Rf.BP E i0 S k x:=by
 intro w Y s rest xA xc hk h hO ht bP dS cE W r hW hr
 subst hk
 obtain⟨R,hR⟩:∃ R,Bd.dP (Bd.tm E.D s.k) s.sc s.N r=R:=⟨_,rfl⟩
 rw[hR]
 obtain⟨p1,fy⟩:∃ p1,(if xc=1 then xA else xA.map (·.add 6))=p1:=⟨_,rfl⟩
 obtain⟨c1,hL⟩:∃ c1,xc-1=c1:=⟨_,rfl⟩
 rw[fy,hL]
 have HR:=Gn h
 have HO:=Gn hO
 have HW:=Gn hW
 have bE:∀ (W2:World) (er:Int),Below w.heap.size w W2->er≠0->R=(s.N,0,er)->Rf.aY E i0 S w Y s R rest (.returned (.tuple #[.int .i64 0,.int .i64 er])) W2:=fun W2 er e3 he e=>by rw[e];exact Rf.aY.same HR.out e3 fun e=>absurd e he
 by_cases a7:r.length=2
 case neg=>
  have fE:R=(s.N,0,1):=by
   rw[<-hR]
   unfold Bd.dP
   split
   ·exact absurd rfl a7
   ·rfl
  obtain⟨rn,o1⟩:∃ rn,r.length=rn:=⟨_,rfl⟩
  rw[o1] at a7 ⊢
  have d1:((rn:Int) != 2)=true:=by
   have:¬(rn:Int)=2:=by omega
   simpa using this
  have HV:=Gn (bE W 1 hW (by decide) fE)
  clear bE fE hR b7 h hO ht bP dS cE hr o1 a7 hE HR HO HW hW fy hL
  go_enter Tryz.func135,Tryz.ntmps135
  go_wp2
  exact GD (by simp[results,Tryz.results135,go_sem]) rfl HV.out
 case pos=>
 obtain⟨b,t,rfl⟩:∃ b t,r=[b,t]:=by
  match r,a7 with
  |[b,t],_=>exact⟨b,t,rfl⟩
 obtain⟨hd,Z⟩:∃ hd,x.L=[hd,b,t]:=by
  cases e:x.L with
  |nil=>rw[e] at hr;cases hr
  |cons hd l=>rw[e] at hr;simp only[List.tail_cons] at hr;exact⟨hd,by rw[hr]⟩
 have bT:au w (fun b _=>¬Rf.ag E Y b) p1 [b,t]:=by
  rw[<-fy]
  have:=ht.tree
  rw[Z] at this
  exact this.tq (by have:=ht.le.1;rw[Z] at this;exact this)
 obtain⟨b0,o0,y0,A0,a0,rfl,mm,cf,_,iR,cP⟩:=bT.get (i:=0) (by simp)
 obtain rfl:b=y0:=by simpa using mm
 obtain⟨rF,sE,y1,A1,a1,la,mo,hP,qf,fb,gf⟩:=bT.get (i:=1) (by simp)
 obtain rfl:t=y1:=by simpa using mo
 injection la with la
 injection la with e1 e2 _
 subst e1
 subst e2
 rw[Hx,Ho] at cf
 rw[Hk] at hP
 have l4:Sx.bH b:=bP.all b (by rw[Z];simp)
 obtain⟨n,hn⟩:∃ n,b.L.length=n:=⟨_,rfl⟩
 have oB:n<=1000:=hn▸l4.len
 have HB:Hid (∀ V,Below w.heap.size w V->V.cell? ⟨b0,o0,none⟩=some (.bool b.list)/\V.cell? ⟨b0,o0+5,none⟩=some (.slice A0 n a0)/\b0<V.heap.size):=fun V hV=>⟨(hV.cell (p:=⟨b0,o0,none⟩) cf.lt).trans cf.c0,by have:=(hV.cell (p:=⟨b0,o0+5,none⟩) cf.lt).trans cf.c5;rw[hn] at this;exact this,Fp cf.lt hV.size⟩
 have ad:=Gn (Ig hP (Ig qf (Ig fb gf)))
 obtain⟨bl,bL⟩:∃ bl,b.list=bl:=⟨_,rfl⟩
 rw[bL] at HB
 obtain⟨d0,d5,dl⟩:=HB.out W hW
 have hc:2<=c1:=by have:=ht.le.1;rw[Z] at this;simp only[FG,He] at this;omega
 have cz:([b,t]:List Sx).length=2:=rfl
 rw[cz]
 cases bl with
 |false=>
  have fE:R=(s.N,0,1):=by
   rw[<-hR]
   show(if b.list=false then _ else _)=_
   rw[Fx bL]
  have HV:=Gn (bE W 1 hW (by decide) fE)
  clear bE fE hR b7 h hO ht bP dS cE hr a7 hE HR HO HW hW fy hL HB ad cf hP iR fb cP gf bT mm mo Z l4 hn bL cz
  go_enter Tryz.func135,Tryz.ntmps135
  go_wp2
  exact GD (by simp[results,Tryz.results135,go_sem]) rfl HV.out
 |true=>
 obtain⟨L,hI⟩:∃ L,b.L=L:=⟨_,rfl⟩
 rw[hI] at hn cP
 have cq:Hid (R=match Bd.binds L with
   |none=>(s.N,0,1)
   |some m=>if(m.any fun q=>Bd.reserved q.1.data.toList)=true then(s.N,0,101) else if Bd.twice (m.map (·.1))=true then(s.N,0,4)
    else match Bd.each (Bd.tm E.D s.k s.sc) s.N (m.map (·.2)) with
     |(N',ids,e)=>if e=0 then Bd.tm E.D s.k (s.sc++List.zip (m.map (·.1)) ids) N' t else(N',0,e)):=by
  show _=_
  rw[<-hR]
  show(if b.list=false then _ else _)=_
  rw[FQ (by rw[bL];decide),hI]
  cases Bd.binds L with
  |none=>rfl
  |some m=>rfl
 have J:Hid (au W (fun b _=>¬Rf.ag E Y b) A0 L):=cP.kept hW
 have bx:=Gn hn
 have I:=Gn bE
 have HX:=Gn (Ig b7 (Ig bP (Ig dS (Ig Z (Ig cE bL)))))
 have HE:=Gn hE
 have b6:=Gn hI
 clear bE hR b7 h hO ht bP dS cE hr a7 hE hW fy hL cf hP iR fb cP gf bT mm mo Z l4 hn bL cz hI
 go_enter Tryz.func135,Tryz.ntmps135
 go_wp2
 go_loopw [7,8,9] (fun nv tv iv wr=>∃ (i:Nat) (nA:Option Addr) (nc:Nat) (tA:Option Addr) (tc:Nat),i<=n/\nv=.slice nA i nc/\tv=.slice tA i tc/\iv=.int .i64 (i:Nat)/\Hid (Rf.mN W (fun b=>¬Rf.ag E Y b) L wr i nA nc tA tc)) (fun _ _ iv _=>n-(intOf iv).toNat)
 case atStart=>exact⟨0,none,0,none,0,Fz _,rfl,rfl,rfl,Gp _ _,[],[],rfl,rfl,(fun q hq=>by cases hq),Gg _ _ _ _,Gg _ _ _ _⟩
 case round=>
  obtain⟨i,nA,nc,tA,tc,qg,rfl,rfl,rfl,HI⟩:=hrel
  by_cases dx:i<n
  ·obtain⟨b2,ch,y,A2,c2,rfl,hy,s1,_,cb,hS⟩:=J.out.get (i:=i) (by rw[bx.out];exact dx)
   obtain⟨U,m,Q,ah,bn,hQ,O,av⟩:=HI.out
   have rz:(i:Int)<(n:Int):=by omega
   have r4:(0:Int)<=(i:Int):=by omega
   have sd:IntKind.i64.wrap ((i:Int)+1)=(i:Int)+1:=GR _ (by omega)
   have cv:Hid (Bd.bI y=none->R=(s.N,0,1)):=fun hb=>by rw[cq.out,Bd.iD hb (FP hy)]
   have bC:=HW.out.trans (U.mono HW.out.size)
   obtain⟨yl,yk,yT,pn,ya,yL⟩:=y
   obtain⟨bD,y0,_,_,_,_,y5⟩:=s1
   have z0:=(U.cell (p:=⟨b2,ch+i*6,none⟩) bD).trans y0
   have z5:=(U.cell (p:=⟨b2,ch+i*6+5,none⟩) bD).trans y5
   have zl:=Fp bD U.size
   simp only at z0 z5 cb hS
   obtain⟨yn,cF⟩:∃ yn,yL.length=yn:=⟨_,rfl⟩
   rw[cF] at z5
   clear y0 y5
   cases yl with
   |false=>
    have HV:=Gn (I.out wr 1 bC (by decide) (cv.out (by unfold Bd.bI;simp only;split <;> simp)))
    clear HI J bx cq I cv U ah bn hQ O av hy cb hS cF bD HX HE b6 HB ad HR HO HW bC d0 d5 dl
    go_wp2
    exact GD (by simp[results,Tryz.results135,go_sem]) rfl HV.out
   |true=>
   by_cases h2:yn=2
   case neg=>
    have d1:((yn:Int) != 2)=true:=by
     have:¬(yn:Int)=2:=by omega
     simpa using this
    have HV:=Gn (I.out wr 1 bC (by decide) (cv.out (by
     unfold Bd.bI
     simp only
     split
     ·rename_i e1;exact absurd (by rw[<-cF];rfl) h2
     ·rfl)))
    clear HI J bx cq I cv U ah bn hQ O av hy cb hS cF bD HX HE b6 HB ad HR HO HW bC d0 d5 dl h2
    go_wp2
    exact GD (by simp[results,Tryz.results135,go_sem]) rfl HV.out
   case pos=>
   subst h2
   obtain⟨h,u,rfl⟩:∃ h u,yL=[h,u]:=by
    match yL,cF with
    |[h,u],_=>exact⟨h,u,rfl⟩
   cases hS with
   |cons b3 o3 _ _ A3 c3 s3 _ iU o8 qA=>
   cases qA with
   |cons _ _ _ _ A4 c4 s4 _ cc hU _=>
   obtain⟨dd,v0,v1,v2,_,_,_⟩:=s3
   have e0:=(U.cell (p:=⟨b3,o3,none⟩) dd).trans v0
   have e1:=(U.cell (p:=⟨b3,o3+1,none⟩) dd).trans v1
   have e2:=(U.cell (p:=⟨b3,o3+2,none⟩) dd).trans v2
   have el:=Fp dd U.size
   have c8:Bd.bI ⟨true,yk,yT,pn,ya,[h,u]⟩=if h.list=false/\h.k=3 then some (h.T,u) else none:=by unfold Bd.bI;simp
   obtain⟨hl,e7⟩:∃ hl,h.list=hl:=⟨_,rfl⟩
   obtain⟨hk,e6⟩:∃ hk,h.k=hk:=⟨_,rfl⟩
   obtain⟨nm,bo⟩:∃ nm,h.T=nm:=⟨_,rfl⟩
   rw[e7] at e0
   rw[e6] at e1
   rw[bo] at e2
   by_cases hs:hl=false/\hk=3
   case neg=>
    have HV:=Gn (I.out wr 1 bC (by decide) (cv.out (by rw[c8,e7,e6,FQ hs])))
    have l3:hl=true\/(hl=false/\(hk != 3)=true):=by
     cases hl with
     |true=>exact .inl rfl
     |false=>exact .inr ⟨rfl,by simpa using fun e=>hs ⟨rfl,e⟩⟩
    clear HI J bx cq I cv U ah bn hQ O av hy cb cF bD HX HE b6 HB ad HR HO HW bC d0 d5 dl c8 e7 e6 bo hs iU o8 cc hU s4 v0 v1 v2 dd
    rcases l3 with rfl|⟨rfl,q1⟩
    all_goals
     go_wp2
     exact GD (by simp[results,Tryz.results135,go_sem]) rfl HV.out
   case pos=>
   obtain⟨rfl,rfl⟩:=hs
   have c8:Bd.bI ⟨true,yk,yT,pn,ya,[h,u]⟩=some (nm,u):=by rw[c8,e7,e6,bo,Fx ⟨rfl,rfl⟩]
   obtain⟨ul,uk,uT,bp,ua,uL⟩:=u
   obtain⟨l5,w0,w1,w2,X,w4,w5⟩:=s4
   simp only at w0 w1 w2 X w4 w5 cc hU
   obtain⟨un,hX⟩:∃ un,uL.length=un:=⟨_,rfl⟩
   rw[hX] at w5 cc
   have HZ:Hid (∀ V,Below W.heap.size W V->V.cell? ⟨b2,ch+i*6+5,none⟩=some (.slice (some ⟨b3,o3,none⟩) 2 c2)/\b2<V.heap.size/\b3<V.heap.size/\V.cell? ⟨b3,o3+6,none⟩=some (.bool ul)/\V.cell? ⟨b3,o3+6+1,none⟩=some (.int .i64 uk)/\V.cell? ⟨b3,o3+6+2,none⟩=some (.string uT)/\V.cell? ⟨b3,o3+6+3,none⟩=some (.int .i64 bp)/\V.cell? ⟨b3,o3+6+4,none⟩=some (.int .i64 ua)/\V.cell? ⟨b3,o3+6+5,none⟩=some (.slice A4 un c4)):=fun V hV=>by
    have f:=fun(j:Nat)=>hV.cell (p:=⟨b3,j,none⟩) l5
    have rv:=(hV.cell (p:=⟨b2,ch+i*6+5,none⟩) bD)
    have zz:=(U.cell (p:=⟨b2,ch+i*6+5,none⟩) bD)
    exact⟨rv.trans (zz.symm.trans z5),Fp bD hV.size,Fp l5 hV.size,(f _).trans w0,(f _).trans w1,(f _).trans w2,(f _).trans X,(f _).trans w4,(f _).trans w5⟩
   obtain⟨NL,ln⟩:∃ NL:List Value,(m.map (·.1)).map .string=NL:=⟨_,rfl⟩
   obtain⟨TL,lx⟩:∃ TL,Q.flatMap ej=TL:=⟨_,rfl⟩
   have hj:Hid (∀ X mA mB mC mE,Below W.heap.size W X->X.ownsRow W.heap.size 9 1 (.slice mA (i+1) mB) (i+1) (NL++[.string nm])->X.ownsRow W.heap.size 27 6 (.slice mC (i+1) mE) (i+1) (TL++[.bool ul,.int .i64 uk,.string uT,.int .i64 bp,.int .i64 ua,.slice A4 un c4])->Rf.mN W (fun b=>¬Rf.ag E Y b) L X (i+1) mA mB mC mE):=fun X mA mB mC mE q1 q2 q3=>
    Rf.mN.next (u:=⟨ul,uk,uT,bp,ua,uL⟩) (A4:=A4) (c4:=c4) hy c8 ah bn hQ ⟨by show uL.length<=_/\_;rw[hX];exact cc,hU⟩ q1 (by rw[ln];exact q2) (by
     rw[lx]
     show X.ownsRow _ _ 6 _ _ (TL++[.bool ul,.int .i64 uk,.string uT,.int .i64 bp,.int .i64 ua,.slice A4 uL.length c4])
     rw[hX]
     exact q3)
   rw[ln] at O
   rw[lx] at av
   have hG:=U.alloc U.size (.cells #[.string nm] 9)
   have n1:=Gn (O.alloc (.cells #[.string nm] 9))
   have eD:Hid (∀ A5 c5 w5,(wr.alloc (.cells #[.string nm] 9)).grownBy w5 (Value.slice nA i nc).ownBlock->w5.ownsRow W.heap.size 9 1 (.slice A5 (i+1) c5) (i+1) (NL++[.string nm])->Below W.heap.size W w5/\W.heap.size<=(w5.alloc (.cells #[.bool ul,.int .i64 uk,.string uT,.int .i64 bp,.int .i64 ua,.slice A4 un c4] 27)).heap.size/\(w5.alloc (.cells #[.bool ul,.int .i64 uk,.string uT,.int .i64 bp,.int .i64 ua,.slice A4 un c4] 27)).ownsRow W.heap.size 27 6 (.slice tA i tc) i TL/\
     ∀ A7 c7 w7,(w5.alloc (.cells #[.bool ul,.int .i64 uk,.string uT,.int .i64 bp,.int .i64 ua,.slice A4 un c4] 27)).grownBy w7 (Value.slice tA i tc).ownBlock->w7.ownsRow W.heap.size 27 6 (.slice A7 (i+1) c7) (i+1) (TL++[.bool ul,.int .i64 uk,.string uT,.int .i64 bp,.int .i64 ua,.slice A4 un c4])->Rf.mN W (fun b=>¬Rf.ag E Y b) L w7 (i+1) A5 c5 A7 c7):=fun A5 c5 w5 g5 o5=>by
    have lb:Below W.heap.size W w5:=hG.grown g5 hG.size fun k hk=>(O.lt k hk).1
    have ha:=eh (O.alloc (.cells #[.string nm] 9)) (av.alloc (.cells #[.string nm] 9)) (by decide)
    have p5:=(ae.aB (F:=fun k=>(Value.slice nA i nc).ownBlock=some k) g5 fun _ e _=>e).own (av.alloc (.cells #[.string nm] 9)) fun g hg e=>ha g e hg
    have ld:Below W.heap.size W (w5.alloc (.cells #[.bool ul,.int .i64 uk,.string uT,.int .i64 bp,.int .i64 ua,.slice A4 un c4] 27)):=lb.alloc lb.size _
    have n6:(w5.alloc (.cells #[.bool ul,.int .i64 uk,.string uT,.int .i64 bp,.int .i64 ua,.slice A4 un c4] 27)).ownsRow W.heap.size 9 1 (.slice A5 (i+1) c5) (i+1) (NL++[.string nm]):=o5.alloc _
    have lv:(w5.alloc (.cells #[.bool ul,.int .i64 uk,.string uT,.int .i64 bp,.int .i64 ua,.slice A4 un c4] 27)).ownsRow W.heap.size 27 6 (.slice tA i tc) i TL:=p5.alloc _
    refine⟨lb,ld.size,lv,fun A7 c7 w7 g7 o7=>?_⟩
    have qc:=eh lv n6 (by decide)
    exact hj.out w7 A5 c5 A7 c7 (ld.grown g7 ld.size fun k hk=>(lv.lt k hk).1) ((ae.aB (F:=fun k=>(Value.slice tA i tc).ownBlock=some k) g7 fun _ e _=>e).own n6 fun g hg e=>qc g e hg) o7
   have ov:W.heap.size<=(wr.alloc (.cells #[.string nm] 9)).heap.size:=hG.size
   have hN:i+1<=maxLen:=by unfold maxLen;omega
   have l6:(i+1)*16<=140737488355328:=by omega
   have qm:(i+1)*72<=140737488355328:=by omega
   have oA:i+1<=n:=by omega
   obtain⟨iS,p0,p2,p3,p4⟩:=Gj oI
   obtain⟨iX,p6,p7,hJ,c6⟩:=Gj xQ
   clear HI J bx cq I cv U ah bn hQ O av hy cb cF bD HX HE b6 HB ad HR HO HW bC d0 d5 dl c8 e7 e6 bo iU o8 cc hU v0 v1 v2 dd l5 w0 w1 w2 X w4 w5 hX ln lx hG
   go_wp2_with (at_builtin;first|(refine cZ _ rfl (.tmp 77) (.tmp 87) 79 rfl W.heap.size 9 iS (.string ByteArray.empty) 16 Tryz.underlying79 p0 p2 p3 p4 rfl (.slice nA i nc) i NL (by simp[Act.eval]) n1.out ⟨wr.heap.size,0,none⟩ 1 1 [.string nm] (by simp[Act.eval]) rfl (fH rfl) (by intro u hu;simp at hu;subst hu;rfl) hN l6 ov ?_;intro A5 c5 w5 o5 g5 _;have S5:=Gn (eD.out A5 c5 w5 g5 o5);obtain⟨k5,sv,sz,k0,k1,k2,k3,k4,k6⟩:=HZ.out w5 S5.out.1;clear o5 g5)|(refine Fw _ rfl (.tmp 89) (.tmp 97) 25 rfl W.heap.size 27 iX (.agg #[.bool false,.int .i64 0,.string ByteArray.empty,.int .i64 0,.int .i64 0,.slice none 0 0]) 6 72 Tryz.underlying25 p6 p7 hJ c6 rfl (by decide) (.slice tA i tc) i TL (by simp[Act.eval]) S5.out.2.2.1 _ 1 1 [.bool ul,.int .i64 uk,.string uT,.int .i64 bp,.int .i64 ua,.slice A4 un c4] (by simp[Act.eval]) rfl (fH rfl) (by intro u hu;simp at hu;rcases hu with rfl|rfl|rfl|rfl|rfl|rfl <;> rfl) hN qm S5.out.2.1 ?_;intro v7 w7 o7 g7 _ _;obtain⟨A7,c7,rfl⟩:=aI o7;have S7:=Gn (S5.out.2.2.2 A7 c7 w7 g7 o7);clear o7 g7))
   clear eD hj HZ n1
   go_roundw
   case rel=>exact⟨i+1,A5,c5,A7,c7,oA,by go_num,by go_num,by go_num,S7.out⟩
   case measure=>simp[intOf];omega
  ·obtain rfl:i=n:=by omega
   obtain⟨U,m,Q,ah,bn,hQ,O,av⟩:=HI.out
   rw[Gr (by have:=bx.out;omega)] at ah
   have dN:m.length=i:=by rw[Bd.gO ah,bx.out]
   have hD:Hid (R=if(m.any fun q=>Bd.reserved q.1.data.toList)=true then(s.N,0,101) else if Bd.twice (m.map (·.1))=true then(s.N,0,4)
    else match Bd.each (Bd.tm E.D s.k s.sc) s.N (m.map (·.2)) with
     |(N',ids,e)=>if e=0 then Bd.tm E.D s.k (s.sc++List.zip (m.map (·.1)) ids) N' t else(N',0,e)):=by
    have:=cq.out
    rw[ah] at this
    exact this
   have n8:Rd wr (fun k=>W.heap.size<=k) nA i nc ((m.map (·.1)).map .string):=Rd.eX O
   have bC:=HW.out.trans (U.mono HW.out.size)
   have ea:=Gn (Ig ah (Ig bn (Ig hQ (Ig O (Ig av dN)))))
   have ev:=Gn n8
   have bB:=Gn bC
   have en:=Gn U
   clear HI cq U ah bn hQ O av n8 bC dx qg
   go_wp2
   obtain⟨wo,rfl⟩:∃ wo,wo=wr:=⟨_,rfl⟩
   go_loopw [10] (fun iv wr=>∃ a:Nat,a<=i/\iv=.int .i64 (a:Nat)/\Hid (Below wo.heap.size wo wr/\∀ (u:Nat) (z:ByteArray),u<a->(m.map (·.1))[u]?=some z->Bd.reserved z.data.toList=false)) (fun iv _=>i-(intOf iv).toNat)
   case atStart=>exact⟨0,Fz _,rfl,Gp _ _,fun u z hu=>absurd hu (Gv _)⟩
   case round=>
    obtain⟨a,ha,rfl,HI⟩:=hrel
    by_cases dx:a<i
    ·obtain⟨b4,o4,nm,rfl,bo,ow⟩:=ev.out.str (i:=a) dx
     obtain⟨cx,fx⟩:=HI.out
     obtain⟨q0,q1⟩:=ow wr cx
     have r0:(a:Int)<(i:Int):=by omega
     have rL:(0:Int)<=(a:Int):=by omega
     have r1:IntKind.i64.wrap ((a:Int)+1)=(a:Int)+1:=GR _ (by omega)
     obtain⟨bb,hK⟩:∃ bb,Bd.reserved nm.data.toList=bb:=⟨_,rfl⟩
     have ky:=Gn (gB nm wr)
     rw[hK] at ky
     have cj:=Gn cx
     have kl:Hid (bb=false->∀ (u:Nat) (z:ByteArray),u<a+1->(m.map (·.1))[u]?=some z->Bd.reserved z.data.toList=false):=fun e u z hu hz=>by
      rcases GX u a with h1|h1
      ·exact fx u z h1 hz
      ·obtain rfl:u=a:=by omega
       rw[bo] at hz
       obtain rfl:=Fk hz
       rw[hK]
       exact e
     have eP:Hid (bb=true->R=(s.N,0,101)):=fun e=>by
      rw[hD.out,Fx]
      rw[Il]
      rw[Fj] at bo
      obtain⟨q,hq,rfl⟩:=FT.1 bo
      exact⟨q,FP hq,by rw[hK];exact e⟩
     clear HI cx fx bo ow hK hD ea J bx HX HE b6 HB ad HR HO HW en ev d0 d5 dl
     go_wp2_with fail
     refine ky.out.mono ?_
     rintro e w2 ⟨rfl,b2⟩
     have ba:=Gn (cj.out.trans (b2.mono cj.out.size))
     clear ky b2 q0 q1 cj
     cases bb with
     |true=>
      have HV:=Gn (I.out w2 101 (bB.out.trans (ba.out.mono bB.out.size)) (by decide) (eP.out rfl))
      clear kl eP I bB ba
      go_wp2
      exact GD (by simp[results,Tryz.results135,go_sem]) rfl HV.out
     |false=>
      have HN:=Gn (kl.out rfl)
      clear kl eP I bB
      go_wp2
      go_roundw
      case rel=>exact⟨a+1,by omega,by go_num,ba.out,HN.out⟩
      case measure=>simp[intOf];omega
    ·obtain rfl:a=i:=by omega
     obtain⟨cx,fx⟩:=HI.out
     have hJ:R=if Bd.twice (m.map (·.1))=true then(s.N,0,4)
      else match Bd.each (Bd.tm E.D s.k s.sc) s.N (m.map (·.2)) with
       |(N',ids,e)=>if e=0 then Bd.tm E.D s.k (s.sc++List.zip (m.map (·.1)) ids) N' t else(N',0,e):=by
      rw[hD.out,FQ]
      rw[Il]
      rintro⟨q,hq,h1⟩
      obtain⟨u,hu⟩:=Ic hq
      have:=fx u q.1 (by have:=(Fg.1 hu).1;have:=ea.out.2.2.2.2.2;omega) (by rw[Fj,hu];rfl)
      rw[this] at h1
      cases h1
     have eO:=Gn hJ
     have cj:=Gn cx
     have k8:=Gn (yU wr nA a nc (m.map (·.1)) (ev.out.below cx) (by omega))
     obtain⟨tw,pe⟩:∃ tw,Bd.twice (m.map (·.1))=tw:=⟨_,rfl⟩
     rw[pe] at k8 eO
     clear HI cx fx hJ hD pe
     go_wp2_with fail
     refine k8.out.mono ?_
     rintro e w2 ⟨rfl,b2⟩
     have ba:=Gn (cj.out.trans (b2.mono cj.out.size))
     clear k8 b2 cj
     cases tw with
     |true=>
      have HV:=Gn (I.out w2 4 (bB.out.trans (ba.out.mono bB.out.size)) (by decide) (eO.out.trans (Fx rfl)))
      clear eO I bB ba ea J bx HX HE b6 HB ad HR HO HW en ev d0 d5 dl
      go_wp2
      exact GD (by simp[results,Tryz.results135,go_sem]) rfl HV.out
     |false=>
      have c6:R=match Bd.each (Bd.tm E.D s.k s.sc) s.N (m.map (·.2)) with
       |(N',ids,e)=>if e=0 then Bd.tm E.D s.k (s.sc++List.zip (m.map (·.1)) ids) N' t else(N',0,e):=eO.out.trans (FQ (by decide))
      obtain⟨ah,bn,hQ,O,av,dN⟩:=ea.out
      obtain⟨b7,bP,dS,Z,cE,bL⟩:=HX.out
      have e3:=bB.out.trans (ba.out.mono bB.out.size)
      have e4:Below W.heap.size W w2:=en.out.trans (ba.out.mono en.out.size)
      have n7:Q.length=a:=by rw[<-dN];simpa using G1 List.length bn
      have iI:=(ae.af (F:=fun _=>False) ba.out).own av fun _ _=>id
      obtain⟨hle,mj⟩:=au.eX (G:=fun b _=>¬Rf.ag E Y b) iI n7 (fun b _ hb e=>by have:=HR.out.lt b e;have:=HW.out.size;omega) fun q hq=>⟨(hQ q hq).1,(hQ q hq).2.kept e4⟩
      rw[bn] at mj
      have ca:Bd.binds b.L=some m:=by rw[b6.out];exact ah
      obtain⟨fR,mc⟩:=Bd.jd Z ca
      have e5:Bd.bQ (Rf.wt E.D i0 s.k) (m.map (·.2))+Bd.makes E.D i0 s.k t<=Bd.makes E.D i0 s.k x:=by
       have q1:=Bd.lJ (Rf.wt E.D i0 s.k) ca
       have q2:=Bd.ie (Rf.wt E.D i0 s.k) cE
       have q3:=Bd.ie (Rf.wt E.D i0 s.k) bL
       rw[Z,Bd.bQ,Bd.bQ,Bd.bQ,Bd.bQ] at q2
       show _+Bd.cost (Rf.wt E.D i0 s.k) t<=Bd.cost (Rf.wt E.D i0 s.k) x
       omega
      have gg:=Gn (sU E i0 S w2 Y s (Bd.makes E.D i0 s.k t+rest) tA a tc (m.map (·.2)) (fun y hy=>⟨b7 y (mc y hy),by
       obtain⟨q,hq,rfl⟩:=Hh.1 hy
       exact(Bd.eE (fun z hz=>(bP.all b (by rw[Z];simp)).all z hz) ca q hq).2,by have:=mc y hy;omega⟩) (HR.out.below e3) ((HO.out.less e5).shift rfl) mj (by rw[Fi];exact dN) (by omega))
      obtain⟨Eq,ll⟩:∃ Eq,Bd.each (Bd.tm E.D s.k s.sc) s.N (m.map (·.2))=Eq:=⟨_,rfl⟩
      have j2:=Bd.eK (f:=Bd.tm E.D s.k s.sc) (m.map (·.2)) s.N HO.out.inv fun y _ M hM hp=>Bd.good E.D s.k y s.sc M hM (HO.out.nV.ext hp)
      rw[ll] at gg c6 j2
      obtain⟨N1,ids,er⟩:=Eq
      obtain⟨⟨_,fz,_⟩,fa,_⟩:=j2
      simp only[ll] at fz
      simp only at fa c6
      have hx:=Gn c6
      have j4:=Gn (Ig fz fa)
      have gA:=Gn (Ig O dN)
      have cX:=Gn (Ig e3 e4)
      have cl:=Gn (Ig (b7 t fR) (Ig (show Sx.bH t from bP.all t (by rw[Z];simp)) (show s.sc.length+(m.length+t.size)<=100000 by
       have q1:=Bd.gO ca
       have q2:=Sx.cV (x:=x) (y:=b) (by rw[Z];simp)
       have q3:=Sx.jq b.L
       have q4:=b.size_eq
       have q5:=x.size_eq
       rw[Z] at q5
       simp only[Sx.sizes] at q5
       omega)))
      have oC:∀ k,(Value.slice nA a nc).ownBlock=some k->¬Rf.ag E Y k:=fun k hk e=>by
       have h1:=(O.lt k hk).1
       have h2:=HR.out.lt k e
       have h3:=HW.out.size
       omega
      have ih:=(ae.af (F:=fun _=>False) ba.out).own O fun _ _=>id
      have hh:=Gn (Ig ih oC)
      clear ll c6 fz fa ah bn hQ O av dN b7 bP dS Z cE bL e3 e4 n7 iI hle mj ca fR mc e5 oC ih eO ea J HX b6 en ev bB d0 d5 dl
      go_wp2_with fail
      refine gg.out.mono ?_
      rintro e X ⟨Y3,m3,A3,n3,c3,rfl,r3,x3,t3,f3,cN,h0⟩
      simp only at r3 h0
      by_cases he:er=0
      case neg=>
       have d1:(er != 0)=true:=by simpa using he
       have cY:R=(N1,0,er):=by rw[hx.out,FQ he]
       have HV:Hid (Rf.aY E i0 S w Y s R rest (.returned (.tuple #[.int .i64 0,.int .i64 er])) X):=by
        rw[cY]
        exact⟨rfl,m3,Rf.Left.up ⟨Y3,r3,x3,t3,f3⟩ cX.out.1,fun e=>absurd e he,cN⟩
       clear gg r3 x3 t3 f3 cN h0 cY he hx j4 gA cX cl hh HB ad HR HO HE HW bx I ba
       go_wp2
       exact GD (by simp[results,Tryz.results135,go_sem]) rfl HV.out
      case pos=>
       subst he
       obtain⟨ok,na,ga,nl,q9⟩:=h0 rfl
       have cY:R=Bd.tm E.D s.k (s.sc++List.zip (m.map (·.1)) ids) N1 t:=by rw[hx.out,Fx rfl]
       obtain⟨iN,ff⟩:=j4.out.2 rfl
       have qp:n3=a:=by rw[<-na.len,ff,Fi];exact gA.out.2
       subst qp
       have b9:ae (Rf.ag E Y) w X:=(ae.af cX.out.1).trans t3 fun _ e=> .inl e
       have bz:∀ k,Rf.ag E Y3 k->Rf.ag E Y k\/w.heap.size<=k:=fun k hk=>(f3 k hk).imp id fun e=>Fo cX.out.1.size e
       have im:=t3.own hh.out.1 fun k hk=>hh.out.2 k hk
       have eA:=Gn (Rd.eX im)
       obtain⟨z,hz⟩:∃ z,List.zip (m.map (·.1)) ids=z:=⟨_,rfl⟩
       rw[hz] at cY
       have HZ:=Gn hz
       have pg:z.length=n3:=by rw[<-hz,List.length_zip,Fi,gA.out.2,na.len,Nat.min_self]
       have kv:=Gn cY
       have ka:=Gn (Ig na (Ig ga nl))
       have k9:=Gn r3
       have kL:=Gn (Ig b9 (Ig bz (Ig x3 cN)))
       have ho:=Gn (Ig ok iN)
       have eW:=Gn pg
       obtain⟨m0,m1,m2,q8⟩:=r3.at_
       obtain⟨sl,ma⟩:∃ sl,s.sc.length=sl:=⟨_,rfl⟩
       have cR:=Gn ma
       simp only[ma] at m2
       obtain⟨hY,e8⟩:∃ x,Y3.iA=x:=⟨_,rfl⟩
       obtain⟨hZ,e9⟩:∃ x,Y3.ic=x:=⟨_,rfl⟩
       have b1:=Gn (Ig e8 e9)
       rw[e8,e9] at m2
       clear gg r3 x3 t3 f3 cN h0 cY hx j4 gA hh ba bx I ok na ga nl iN ff hz pg b9 bz im ma m0 m1 q8 e8 e9
       go_wp2
       go_loopw [16,17] (fun mv iv wr=>∃ (q d1:Nat) (B:Option Addr),q<=n3/\mv=.slice B q d1/\iv=.int .i64 (q:Nat)/\Hid (Below X.heap.size X wr/\dU wr X.heap.size B q d1 (z.take q))) (fun _ iv _=>n3-(intOf iv).toNat)
       case atStart=>exact⟨0,0,none,Fz _,rfl,rfl,Gp _ _,dU.dI _ _⟩
       case round=>
        obtain⟨q,d1,B,hq,rfl,rfl,HI⟩:=hrel
        by_cases fv:q<n3
        ·obtain⟨ab,ao,x9,rfl,pf,qd,oi⟩:=tH ka.out.1 fv
         obtain⟨nb,no,nm,rfl,bo,l7⟩:=eA.out.str (i:=q) fv
         obtain⟨U,b8⟩:=HI.out
         have sn:(q:Int)<(n3:Int):=by omega
         have sk:(0:Int)<=(q:Int):=by omega
         have ss:IntKind.i64.wrap ((q:Int)+1)=(q:Int)+1:=GR _ (by omega)
         have hj:Hid (∀ W A' c',Below X.heap.size X W->dU W X.heap.size A' (q+1) c' (z.take q++[(nm,x9)])->Below X.heap.size X W/\dU W X.heap.size A' (q+1) c' (z.take (q+1))):=fun W A' c' h1 h2=>⟨h1,by rw[pU HZ.out bo pf];exact h2⟩
         have j3:Hid (∀ W,Below X.heap.size X W->(W.cell? ⟨nb,no+q,none⟩=some (.string nm)/\W.cell? ⟨ab,ao+q,none⟩=some (.int .i64 x9))/\nb<W.heap.size):=fun W hW=>⟨⟨(l7 W hW).2,oi W hW⟩,(l7 W hW).1⟩
         have cy:Below X.heap.size X wr.drew:=⟨U.os,U.tape,U.output,U.size,U.block⟩
         have nn:=Gn cy
         have ks:Hid (dU wr.drew X.heap.size B q d1 (z.take q)):=⟨b8.1,b8.2.drew⟩
         have oo:X.heap.size<=(wr.drew.alloc (.cells #[.string nm,.int .i64 x9] 120)).heap.size:=(cy.alloc cy.size _).size
         have po:=Gn (j3.out _ cy).1
         have pv:=Gn (j3.out _ (cy.alloc cy.size (.cells #[.string nm,.int .i64 x9] 120))).1
         have hN:q+1<=maxLen:=by unfold maxLen;omega
         have l6:(q+1)*24<=140737488355328:=by omega
         obtain⟨i1,hi,qC,q6,q7⟩:=Gj gQ
         clear HI qd oi l7 pf bo U b8 cy HR HO HE HW HB ad cX cl eA HZ kv ka k9 kL ho eW cR b1 m2
         go_wp2_with fail
         go_region_held3 (fun W=>W.cell? ⟨nb,no+q,none⟩=some (.string nm)/\W.cell? ⟨ab,ao+q,none⟩=some (.int .i64 x9))
          (first|(with_reducible exact po.out)|(with_reducible exact pv.out)|assumption)
          ((refine ay rfl (.tmp 133) (.tmp 143) 99 (by rfl) X.heap.size 120 i1 (.agg #[.string ByteArray.empty,.int .i64 0]) 2 24 Tryz.underlying99 hi qC q6 q7 rfl (by decide) (.slice B q d1) q ((z.take q).flatMap qV) (by rfl) (ks.out.2.alloc _) ⟨wr.drew.heap.size,0,none⟩ 1 1 (qV (nm,x9)) (by rfl) rfl (fH rfl) (by intro u hu;simp at hu;rcases hu with rfl|rfl <;> rfl) hN l6 oo ?_;intro A4 c4 w4 o4 g4 _;have b4:Below X.heap.size X w4:=(nn.out.alloc nn.out.size _).grown g4 oo (fun k hk=>(ks.out.2.lt k hk).1);have S3:=Gn (hj.out w4 A4 c4 b4 (dU.snoc (p:=(nm,x9)) ks.out.1 o4));have k4:=(j3.out w4 b4).1;clear o4 g4 b4))
         go_wp2
         go_roundw
         case rel=>exact⟨q+1,c4,A4,by omega,by go_num,by go_num,S3.out⟩
         case measure=>simp[intOf];omega
        ·obtain rfl:q=n3:=by omega
         obtain⟨U,b8⟩:=HI.out
         rw[Gr (by rw[eW.out];exact Fm _)] at b8
         have r3:=k9.out
         obtain⟨b9,bz,x3,cN⟩:=kL.out
         have l8:=r3.below U
         have jv:eQ wr (Rf.free E Y3) hY sl hZ s.sc:=by
          have:=l8.scope
          rw[b1.out.1,b1.out.2,cR.out] at this
          exact this
         have rC:X.heap.size<=wr.heap.size:=U.size
         have rA:sl+q<=100000:=by have:=cl.out.2.2;have:=cR.out;have:=eW.out;omega
         have j1:∀ W,Below wr.heap.size wr W->eQ W (fun _=>True) B q d1 z:=fun W hW=>((show dU W X.heap.size B q d1 z from⟨b8.1,(ae.af (F:=fun _=>False) hW).own b8.2 fun _ _=>id⟩).Er fun _ _ _=>trivial)
         have h8:=Gn j1
         have h7:=Gn jv
         have h4:Hid (∀ W5 A5 c5,Below wr.heap.size wr W5->dU W5 wr.heap.size A5 (sl+q) c5 (s.sc++z)->
           (W5.cell? ⟨E.mb,2,none⟩=some (.slice hY sl hZ)/\W5.frozen? ⟨E.mb,2,none⟩=false)/\
           ∃ W6,W5.setCell ⟨E.mb,2,none⟩ (.slice A5 (sl+q) c5)=W6/\(b0<W6.heap.size/\mh W6 b0 (o0+6) t A1 a1)/\
           Calls Tryz.prog 46 #[.pointer (some ⟨E.mb,0,none⟩),aX t A1 a1] W6 fun e W7=>∃ id er,e=.returned (.tuple #[.int .i64 id,.int .i64 er])/\(∃ x9,W7.cell? ⟨E.mb,2,none⟩=some x9)/\W7.frozen? ⟨E.mb,2,none⟩=false/\Rf.aY E i0 S w Y s R rest (.returned (.tuple #[.int .i64 id,.int .i64 er])) (W7.setCell ⟨E.mb,2,none⟩ (.slice hY sl hZ))):=fun W5 A5 c5 h5 o5=>by
          have r5:=l8.below h5
          have r2:=r3.base.size
          have qq:eQ W5 (Rf.free E Y3) A5 (sl+q) c5 (s.sc++z):=o5.Er fun k hk _=>⟨fun e=>by have:=r3.lt k e;omega,fun e=>by have:=r3.vY k e;omega⟩
          have r6:=r5.Bm qq
          have T5:ae (Rf.ag E Y) w W5:=b9.trans (ae.af (F:=fun _=>False) (U.trans (h5.mono U.size))) fun _ e=>e.elim
          have T6:=T5.put (p:=⟨E.mb,2,none⟩) (.inl (.inl rfl)) (.slice A5 (sl+q) c5)
          refine⟨⟨?_,r5.own.free 2⟩,_,rfl,?_,?_⟩
          ·have:=r5.at_.2.2.1
           simp only at this
           rw[b1.out.1,b1.out.2,cR.out] at this
           exact this
          ·have fR:mh (W5.setCell ⟨E.mb,2,none⟩ (.slice A5 (sl+q) c5)) b0 (o0+6) t A1 a1:=by
            have h1:=ad.out.1
            obtain⟨l0,k0,k1,k2,k3,k4,k5⟩:=h1
            have dO:¬Rf.ag E Y b0:=ad.out.2.1
            exact⟨Fp l0 T6.size,(T6.cell l0 dO).trans k0,(T6.cell l0 dO).trans k1,(T6.cell l0 dO).trans k2,(T6.cell l0 dO).trans k3,(T6.cell l0 dO).trans k4,(T6.cell l0 dO).trans k5⟩
           exact⟨fR.1,fR⟩
          ·have oP:Rf.Ok E.D E.n i0 S ⟨N1,s.k,s.sc++z,m3⟩ (Bd.makes E.D i0 s.k t) rest:=by
            have ok:=ho.out.1
            have q1:=ok.back (b:=Bd.makes E.D i0 s.k t) rfl
            rw[FA] at q1
            refine⟨q1.inv,q1.len,?_,q1.cD,q1.apart,q1.fits⟩
            show Bd.In N1 ((s.sc++z).map (·.2))
            rw[Hf]
            refine q1.nV.append ?_
            rw[<-HZ.out]
            exact Bd.jU ho.out.2
           have qB:au (W5.setCell ⟨E.mb,2,none⟩ (.slice A5 (sl+q) c5)) (fun b _=>¬Rf.ag E { Y3 with iA:=A5,ic:=c5 } b) A1 t.L:=ad.out.2.2.2.bR T6 fun k dx hk=>⟨hk,fun e=>(bz k e).elim hk fun e2=>by omega⟩
           have hc:=cl.out.1 (W5.setCell ⟨E.mb,2,none⟩ (.slice A5 (sl+q) c5)) { Y3 with iA:=A5,ic:=c5 } ⟨N1,s.k,s.sc++z,m3⟩ rest A1 a1 rfl r6 oP ⟨ad.out.2.2.1,qB⟩ cl.out.2.1 (by have:=cl.out.2.2;have:=eW.out;simp only[Gb];omega)
           refine hc.mono ?_
           rintro e W7 ⟨rfl,m7,⟨Y7,r7,x7,t7,f7⟩,rl,ra⟩
           have T7:ae (Rf.ag E Y) w W7:=T6.trans t7 fun k e=>bz k e
           have pB:∀ k,Rf.ag E Y7 k->Rf.ag E Y k\/w.heap.size<=k:=fun k hk=>(f7 k hk).elim (fun e=>bz k e) fun e=> .inr (Fo T6.size e)
           have n9:ae (Rf.ag E Y3) X W7:=((ae.af (F:=fun _=>False) (U.trans (h5.mono U.size))).mono (G:=Rf.ag E Y3) fun _ _ e=>e.elim).put (p:=⟨E.mb,2,none⟩) (.inl (.inl rfl)) (.slice A5 (sl+q) c5) |>.trans t7 fun k e=> .inl e
           have o2:eQ W7 (Rf.free E Y7) Y3.iA s.sc.length Y3.ic s.sc:=r3.scope.turn n9 fun k dx hk=>⟨hk.1,⟨fun e=>(f7 k e).elim hk.1 fun e2=>by
            have h1:(W5.setCell ⟨E.mb,2,none⟩ (.slice A5 (sl+q) c5)).heap.size=W5.heap.size:=by simp[World.setCell]
            have h2:=h5.size
            omega,by rw[x7];exact hk.2⟩⟩
           have r8:=r7.Bm o2
           refine⟨_,_,rfl,⟨_,r7.own.cell 2⟩,r7.own.free 2,?_⟩
           rw[kv.out]
           refine⟨rfl,m7,⟨{ Y7 with iA:=Y3.iA,ic:=Y3.ic },?_,x7.trans x3,?_,pB⟩,fun e=>?_,fun u hu=>(ra u hu).elim (fun e=>cN u e) .inr⟩
           ·rw[<-b1.out.1,<-b1.out.2,<-cR.out]
            exact r8
           ·exact T7.put (p:=⟨E.mb,2,none⟩) (.inl (.inl rfl)) _
           ·have q1:=rl e
            refine⟨q1.inv,q1.len,?_,q1.cD,q1.apart,q1.fits⟩
            have h9:=q1.nV
            simp only[Hf] at h9
            exact fun u hu=>h9 u (F9 _ hu)
         obtain⟨tn,pd⟩:∃ tn,t.L.length=tn:=⟨_,rfl⟩
         have k7:=Gn pd
         clear HI U b8 HR HO HE HW HB ad cX cl eA HZ kv ka k9 kL ho eW cR b1 r3 b9 bz x3 cN l8 jv j1 pd fv
         have oB:sl<=1000000:=by omega
         have qn:sl+q<=1000000:=by omega
         have o6:∀ n,t.L.length=n->aX t A1 a1=.agg #[.bool t.list,.int .i64 t.k,.string t.T,.int .i64 t.ta,.int .i64 t.at_,.slice A1 n a1]:=fun n e=>by unfold aX;rw[e]
         have n5:=Gn (o6 tn k7.out)
         clear o6
         go_wp2_with (at_builtin;first|(refine DB _ rfl (.tmp 146) rfl hY sl hZ s.sc rfl h7.out oB ?_;intro A4 c4 w4 o4 b4;have n4:=Gn o4;have mM:=Gn b4;have h6:=Gn (h8.out w4 b4);have pC:wr.heap.size<=w4.heap.size:=b4.size;clear o4 b4)|(refine ye _ rfl (.tmp 147) (.tmp 148) rfl wr.heap.size A4 c4 s.sc sl B q d1 z rfl n4.out rfl h6.out qn pC ?_;intro A5 c5 w5 o5 b5;have n0:=Gn (h4.out w5 A5 c5 (mM.out.trans b5) o5);obtain⟨⟨k2,l2⟩,W6,rG,⟨sN,qv⟩,l1⟩:=n0.out;rw[n5.out] at l1;have nd:=Gn l1;obtain⟨_,t0,t1,t2,t3,t4,t5⟩:=qv;rw[k7.out] at t5;clear l1 n0 o5 b5))
         refine nd.out.mono ?_
         rintro e w7 ⟨id,er,rfl,⟨x9,n2⟩,g2,v⟩
         have HV:=Gn v
         clear nd v t0 t1 t2 t3 t4 t5 k2 l2 h4 n4 mM h6 h8 h7 n5 k7
         go_wp2
         exact GD (by simp[results,Tryz.results135,go_sem]) rfl HV.out
theorem Rf.all (E:Rf.Env) (i S:Nat) (h:Rf.Dj E i S):∀ k x,Rf.Term E i S k x:=
 Bd.induct fun k x J r=>zB E i S h k x r (fun j d I _ _=>J j d.body I) (Dg E i S h k x r)
theorem Bd.nM (D:List Dc):∀ k,k<=D.length->Bd.sum D (fun _=>true) k<=Bd.sizes (D.take k)
 |0,_=>by rw[Bd.sum];exact Fz _
 |k+1,h=>by
  have hd:D[k]?=some D[k]:=Ge h
  have r:=Bd.nM D k (by omega)
  have hs:Bd.size D k=(D[k]).body.size:=by unfold Bd.size;rw[hd];rfl
  rw[Bd.sum,Bd.fS hd]
  split
  ·simp only[Hy]
   omega
  ·omega
theorem Bd.uJ.room {D:List Dc} {x:Sx} (h:Bd.uJ D x):∃ i,Bd.je D i D.length+(Bd.gb D i D.length+(Bd.makes D i D.length x+Bd.dQ D i D.length))<=3200000000000:=by
 obtain⟨i,_,hi⟩:=Bd.room D x D.length (fun j p hp=>by
  unfold Bd.arity at hp
  split at hp
  ·rename_i d hd
   split at hp
   ·cases hp;exact h.par d (FP hd)
   ·cases hp
  ·cases hp) (by rw[Bd.kC D _ (Fm _),Ib];exact h.l9) (by have:=Bd.nM D _ (Fm _);rw[Ib] at this;have:=h.sizes;omega) h.size
 exact⟨i,hi⟩
theorem Bd.nJ {D:List Dc} {d:Dc} (h:d∈D):d.body.size<=Bd.sizes D:=by
 unfold Bd.sizes
 induction D with
 |nil=>cases h
 |cons a l r=>
  rw[GK,List.sum_cons]
  rcases FE.1 h with rfl|h
  ·omega
  ·have:=r h;omega
theorem Rf.begin (w W:World) (A:Option Addr) (n c:Nat) (L:List (iZ×Dc)) (x:Sx) (xA:Option Addr) (xc:Nat) (h:iF w A n c L x xA xc) (hc:n<=c) (hf:Bd.uJ (L.map (·.2)) x) (hW:Below w.heap.size w W):
  Calls Tryz.prog 46 #[.pointer (some ⟨W.heap.size,0,none⟩),aX x xA xc] (W.alloc (.cells #[.slice none 0 0,.slice A n c,.slice none 0 0,.slice none 0 0] 102)) fun e w'=>
   e=.returned (.tuple #[.int .i64 (Bd.tm (L.map (·.2)) n [] [] x).2.1,.int .i64 (Bd.tm (L.map (·.2)) n [] [] x).2.2])/\Below W.heap.size W w'/\W.heap.size<w'.heap.size/\∃ (bA:Option Addr) (bc:Nat),w'.cell? ⟨W.heap.size,0,none⟩=some (.slice bA (Bd.tm (L.map (·.2)) n [] [] x).1.length bc)/\bO w' (fun _=>True) bA (Bd.tm (L.map (·.2)) n [] [] x).1.length bc (Bd.tm (L.map (·.2)) n [] [] x).1:=by
 have hn:(L.map (·.2)).length=n:=by rw[Fi,h.dc.len]
 obtain⟨i,r⟩:=hf.room
 rw[hn] at r
 obtain⟨I,O⟩:∃ I,W.alloc (.cells #[.slice none 0 0,.slice A n c,.slice none 0 0,.slice none 0 0] 102)=I:=⟨_,rfl⟩
 have Q:Below W.heap.size W I:=by rw[<-O];exact(Gp _ W).alloc (Fm _) _
 have J:Below w.heap.size w I:=hW.trans (Q.mono hW.size)
 have hE:Rf.Dj ⟨W,A,n,c,L,W.heap.size⟩ i (Bd.makes (L.map (·.2)) i n x+Bd.dQ (L.map (·.2)) i n):=
  ⟨r,hc,fun d hd=>by have:=hf.par d hd;omega,by have:=hf.n;show n<=1000;omega,fun d hd=>⟨by
   obtain⟨q,X,rfl⟩:=Hh.1 hd
   have hs:q.2.body.size<=Bd.sizes (L.map (·.2)):=Bd.nJ hd
   exact Sx.bH.of _ q.2.body (Fm _) (by have:=hf.sizes;omega) (h.DJ q X).wide,by have hs:d.body.size<=Bd.sizes (L.map (·.2)):=Bd.nJ hd;have:=hf.sizes;omega⟩⟩
 have U:∀ k,k<W.heap.size->Rf.free ⟨W,A,n,c,L,W.heap.size⟩ ⟨none,0,none,0,none,0,[],fun _=>False⟩ k:=fun k hk=>by
  refine⟨fun e=>?_,id⟩
  rcases e with e|e
  ·have e:k=W.heap.size:=e
   omega
  ·cases e
 have Z:Rf.aF ⟨W,A,n,c,L,W.heap.size⟩ I ⟨none,0,none,0,none,0,[],fun _=>False⟩ ⟨[],n,[],[]⟩:=by
  refine⟨Q,fun k hk=>?_,by rw[<-O];exact aa.new W _ _,Fm _,bO.none_ _ _,h.dc.turn (ae.af (F:=fun _=>False) J) fun k hk _=>⟨id,U k (by have:=hW.size;omega)⟩,eQ.none_ _ _,Gg _ _ _ _,rfl,fun _ X=>(FD X).elim,fun _ e=>e.elim,fun _ e=>e.elim,fun _ e=>e.elim⟩
  rcases hk with e|e
  ·have e:k=W.heap.size:=e
   rw[e];exact Fm _
  ·cases e
 have ad:Rf.Ok (L.map (·.2)) n i (Bd.makes (L.map (·.2)) i n x+Bd.dQ (L.map (·.2)) i n) ⟨[],n,[],[]⟩ (Bd.makes (L.map (·.2)) i n x) 0:=
  ⟨Tm.Inv.nil,Fz _,fun _ hp=>(FD hp).elim,fun _ X=>(FD X).elim,Bd.ck.nil _ _,by unfold Bd.Fits Bd.kept Bd.paid;simp⟩
 have ah:aJ I (fun b _=>¬Rf.ag ⟨W,A,n,c,L,W.heap.size⟩ ⟨none,0,none,0,none,0,[],fun _=>False⟩ b) x xA xc:=
  ⟨h.tree.le,h.tree.tree.imp J.size (fun b off V _ j _=>J.cell (p:=⟨b,off+j,none⟩) V) fun b off V _=>(U b (by have:=hW.size;omega)).1⟩
 rw[O]
 refine(Rf.all _ i _ hE n x I ⟨none,0,none,0,none,0,[],fun _=>False⟩ ⟨[],n,[],[]⟩ 0 xA xc rfl Z ad ah (Sx.bH.of _ x (Fm _) (by have:=hf.size;omega) h.wide) (by have:=hf.size;show 0+x.size<=100000;omega)).mono ?_
 rintro e w' ⟨rfl,m',⟨Y',hr,_,hT,_⟩,_,_⟩
 refine⟨rfl,hr.base,?_,Y'.bA,Y'.bc,hr.own.cell 0,hr.aO.mono fun _ _=>trivial⟩
 have:=hr.own.lt
 exact this
theorem zY (w W:World) (A:Option Addr) (n c:Nat) (L:List (iZ×Dc)) (x:Sx) (Z:Option Addr) (xc:Nat) (h:iF w A n c L x Z xc) (hc:n<=c) (hf:Bd.uJ (L.map (·.2)) x) (hW:Below w.heap.size w W):
  Calls Tryz.prog 14 #[.slice none 0 0,.slice A n c,aX x Z xc] W fun e w'=>(∃ (bA:Option Addr) (bc:Nat),e=.returned (.tuple #[.slice bA (Bd.tm (L.map (·.2)) n [] [] x).1.length bc,.int .i64 (Bd.tm (L.map (·.2)) n [] [] x).2.1,.int .i64 (Bd.tm (L.map (·.2)) n [] [] x).2.2])/\bO w' (fun _=>True) bA (Bd.tm (L.map (·.2)) n [] [] x).1.length bc (Bd.tm (L.map (·.2)) n [] [] x).1)/\Below W.heap.size W w':=by
 obtain⟨r,I⟩:∃ r,W.alloc (dr x Z xc)=r:=⟨_,rfl⟩
 have Q:Below W.heap.size W r:=by rw[<-I];exact(Gp _ W).alloc (Fm _) _
 have J:=Gn (Rf.begin w r A n c L x Z xc h hc hf (hW.trans (Q.mono hW.size)))
 obtain⟨W1,V⟩:∃ W1,r.alloc (.cells #[.slice none 0 0,.slice A n c,.slice none 0 0,.slice none 0 0] 102)=W1:=⟨_,rfl⟩
 have ao:Below r.heap.size r W1:=by rw[<-V];exact(Gp _ r).alloc (Fm _) _
 obtain⟨c0,c1,c2,c3,c4,c5⟩:=Co W x Z xc (W:=W1) (by rw[I];exact ao)
 obtain⟨T,U⟩:∃ T,Bd.tm (L.map (·.2)) n [] [] x=T:=⟨_,rfl⟩
 rw[U,V] at J
 rw[U]
 have O:=Gn Q
 obtain⟨xl,xk,xT,a7,xa,xL⟩:=x
 unfold aX at J ⊢
 simp only at J c0 c1 c2 c3 c4 c5 ⊢
 obtain⟨xn,X⟩:∃ xn,xL.length=xn:=⟨_,rfl⟩
 rw[X] at J c5 ⊢
 have av:W.alloc (.cells #[.bool xl,.int .i64 xk,.string xT,.int .i64 a7,.int .i64 xa,.slice Z xn xc] 27)=r:=by rw[<-I,<-X]
 obtain⟨N,id,er⟩:=T
 simp only at J ⊢
 obtain⟨nl,a1⟩:∃ nl,N.length=nl:=⟨_,rfl⟩
 rw[a1] at J ⊢
 clear h hc hf hW U X a1 I Q ao
 go_enter Tryz.func14,Tryz.ntmps14
 go_wp2_with fail
 refine J.out.mono ?_
 rintro e w2 ⟨rfl,b2,ba,bA,bc,m0,hN⟩
 have HV:Hid ((∃ (ad:Option Addr) (ah:Nat),Ending.returned (.tuple #[.slice bA nl bc,.int .i64 id,.int .i64 er])=.returned (.tuple #[.slice ad nl ah,.int .i64 id,.int .i64 er])/\bO w2 (fun _=>True) ad nl ah N)/\Below W.heap.size W w2):=⟨⟨bA,bc,rfl,hN⟩,O.out.trans (b2.mono O.out.size)⟩
 clear J b2 hN c0 c1 c2 c3 c4 c5 V av O
 go_wp2
 exact GD (by simp[results,Tryz.results14,go_sem]) rfl HV.out
end Go.Proofs.YtdbgiijdgedggaaGreatDoor
