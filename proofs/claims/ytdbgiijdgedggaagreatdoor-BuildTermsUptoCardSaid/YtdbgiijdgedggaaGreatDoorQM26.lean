import Derived.Test.YtdbgiijdgedggaaGreatDoorQM25
set_option linter.unusedSimpArgs false
set_option linter.unusedVariables false
set_option maxRecDepth 100000
set_option maxHeartbeats 25600000
namespace Go.Proofs.YtdbgiijdgedggaaGreatDoor
open Go.RowKit
def Mk.jE (r:List Sx):Int×List (ByteArray×Sx):=match r with
 |[b,_]=>if b.list=false then(1,[]) else match Bd.binds b.L with
  |none=>(1,[])
  |some m=>if eU (m.map (·.1))=true then(101,[]) else if Bd.twice (m.map (·.1))=true then(4,[]) else(0,m)
 |_=>(1,[])
theorem Mk.sY {r:List Sx} (h:r.length≠2):Mk.jE r=(1,[]):=by
 unfold Mk.jE
 split
 ·simp at h
 ·rfl
theorem Bd.iD {x:Sx} (r:Bd.bI x=none):∀ {l:List Sx},x∈l->Bd.binds l=none
 |[],h=>by cases h
 |y::l,h=>by
  rw[Bd.binds]
  rcases FE.1 h with rfl|h
  ·rw[r]
  ·rw[Bd.iD r h]
   cases Bd.bI y <;> rfl
theorem Bd.iY {x:Sx} {b:ByteArray×Sx} (J:Bd.bI x=some b):∀ {l:List Sx} {m:List (ByteArray×Sx)},Bd.binds l=some m->Bd.binds (l++[x])=some (m++[b])
 |[],m,h=>by
  cases h
  rw[FY,Bd.binds,J]
  rfl
 |y::l,m,h=>by
  rw[Bd.binds] at h
  rw[FZ,Bd.binds]
  cases I:Bd.bI y with
  |none=>rw[I] at h;cases h
  |some q=>
   rw[I] at h
   cases r:Bd.binds l with
   |none=>rw[r] at h;cases h
   |some k=>
    rw[r] at h
    cases h
    rw[Bd.iY J r]
    rfl
abbrev Bz:=(Option Addr×Nat)×Sx
abbrev ej (q:Bz):List Value:=gm q.2 q.1.1 q.1.2
theorem au.xp {w:World} {G:Nat->Nat->Prop} {g:Nat} (J:g<w.heap.size) (r:∀ o,G g o):∀ (Q:List Bz) (off:Nat),(∀ j u,(Q.flatMap ej)[j]?=some u->w.cell? ⟨g,off+j,none⟩=some u)->(∀ q∈Q,(q.2.L.length<=q.1.2/\q.1.2<=maxLen)/\au w G q.1.1 q.2.L)->au w G (some ⟨g,off,none⟩) (Q.map (·.2))
 |[],_,_,_=> .nil _
 |q::Q,off,hc,I=>by
  obtain⟨O,U⟩:=I q (by simp)
  have hf:∀ j u,j<6->(ej q)[j]?=some u->w.cell? ⟨g,off+j,none⟩=some u:=fun j u V hu=>hc j u (by rw[GI,FO (by exact V)];exact hu)
  refine .cons g off q.2 _ q.1.1 q.1.2 ⟨J,by have:=hf 0 _ (by decide) rfl;rwa [Ho] at this,hf 1 _ (by decide) rfl,hf 2 _ (by decide) rfl,hf 3 _ (by decide) rfl,hf 4 _ (by decide) rfl,hf 5 _ (by decide) rfl⟩ (r off) O U (au.xp J r Q (off+6) (fun j u hu=>?_) fun X h=>I X (by simp[h]))
  have:=hc (6+j) u (by rw[GI,Ga (by show 6<=6+j;omega)];rw[show 6+j-(ej q).length=j by show 6+j-6=j;omega];exact hu)
  rwa [<-Ie] at this
theorem au.eX {w:World} {B n c:Nat} {A:Option Addr} {G:Nat->Nat->Prop} {Q:List Bz} (h:w.ownsRow B 27 6 (.slice A n c) n (Q.flatMap ej)) (hn:Q.length=n) (X:∀ b o,B<=b->G b o) (Z:∀ q∈Q,(q.2.L.length<=q.1.2/\q.1.2<=maxLen)/\au w G q.1.1 q.2.L):(n<=c/\c<=maxLen)/\au w G A (Q.map (·.2)):=by
 rcases h.2 with⟨e,O⟩|⟨g,cap,cur,e,J,hg,U,V,_⟩
 ·injection e with r _ I
  subst r
  subst I
  subst O
  rw[IJ.1 hn]
  exact⟨⟨Fm _,Fz _⟩,.nil _⟩
 ·injection e with r _ I
  subst r
  subst I
  refine⟨⟨U,V⟩,au.xp (Fl.1 hg).1 (fun o=>X g o J) Q 0 (fun j u hu=>?_) Z⟩
  have:=h.cells (g:=g) rfl j u hu
  rwa [addr_add] at this
theorem aw {w W:World} {z:Nat} {t:TypeId} {cs:Array Value} (h:Below w.heap.size w W/\aa W z t cs) (o:Obj):Below w.heap.size w (W.alloc o)/\aa (W.alloc o) z t cs:=⟨h.1.alloc h.1.size o,((ae.refl (fun _=>False) W).alloc o).lies h.2 id⟩
theorem br {w W r:World} {z:Nat} {t:TypeId} {cs:Array Value} {row:Option Nat} (h:Below w.heap.size w W/\aa W z t cs) (I:W.grownBy r row) (J:∀ k,row=some k->w.heap.size<=k/\k<z):Below w.heap.size w r/\aa r z t cs:=
 ⟨h.1.grown I h.1.size fun k L=>(J k L).1,(ae.aB (F:=fun k=>row=some k) I fun _ e _=>e).lies h.2 fun e=>by have:=(J _ e).2;omega⟩
theorem cW {W O:World} {B size n:Nat} {e:TypeId} {v:Value} {xs:List Value} (h:W.ownsRow B e size v n xs) (V:W.grownBy O v.ownBlock) {J:TypeId} {r n':Nat} {v':Value} {I:List Value} (L:e≠J) (Q:W.ownsRow B J r v' n' I):O.ownsRow B J r v' n' I:=
 (ae.aB (F:=fun k=>v.ownBlock=some k) V fun _ e _=>e).own Q fun g hv=>fun U=>eh h Q L g U hv
theorem bY {W J:World} {B size n:Nat} {e:TypeId} {v:Value} {xs:List Value} (h:W.ownsRow B e size v n xs) (O:W.grownBy J v.ownBlock) {r:TypeId} (I:e≠r) {b:Nat} {cs:Array Value} (hl:aa W b r cs):aa J b r cs:=
 (ae.aB (F:=fun k=>v.ownBlock=some k) O fun _ e _=>e).lies hl fun L=>aT h hl I L
theorem bt {W:World} {b:Nat} {t:TypeId} {cs:Array Value} {l:List Value} (h:aa W b t cs) (hl:cs.toList=l) (j:Nat) (u:Value) (hu:l[j]?=some u):W.cell? ((⟨b,0,none⟩:Addr).add j)=some u:=by
 subst hl
 rw[addr_add,FA,h.cell]
 simpa using hu
theorem eo (D:World) (t:TypeId) (cs:Array Value) (o:Obj):aa ((D.alloc (.cells cs t)).alloc o) D.heap.size t cs:=(Fq _ _ _ (by simp)).trans (aa.new D t cs)
theorem Ch:(Tryz.prog.info? 27).map (fun i=>(i.zero,i.size,i.bytes))=some (some (.agg #[.bool false,.int .i64 0,.string ByteArray.empty,.int .i64 0,.int .i64 0,.slice none 0 0]),6,72):=by kernel_rfl
def Mk.rj (w:World) (G:Nat->Prop) (X:Int×List (ByteArray×Sx)) (e:Ending) (w':World):Prop:=
 (∃ r I J h,e=.returned (.tuple #[.slice r X.2.length I,.slice J X.2.length h,.int .i64 X.1])/\Rd w' (fun k=>w.heap.size<=k) r X.2.length I ((X.2.map (·.1)).map .string)/\(X.2.length<=h/\h<=maxLen)/\au w' (fun b _=>w.heap.size<=b\/G b) J (X.2.map (·.2)))/\Below w.heap.size w w'
theorem uQ (w:World) (G:Nat->Prop) (A:Option Addr) (c:Nat) (r:List Sx) (h:au w (fun b _=>G b) A r) (hle:r.length<=c/\c<=maxLen) (hL:∀ b t,r=[b,t]->b.L.length<=1000/\∀ m,Bd.binds b.L=some m->∀ q∈m,q.1.size<=maxLen):
  Calls Tryz.prog 267 #[.slice A r.length c] w fun e w'=>Mk.rj w G (Mk.jE r) e w':=by
 have I:Hid (∀ (z:Int) (w':World),Below w.heap.size w w'->Mk.jE r=(z,[])->Mk.rj w G (Mk.jE r) (.returned (.tuple #[.slice none 0 0,.slice none 0 0,.int .i64 z])) w'):=fun z w' hw e=>by
  rw[e]
  exact⟨⟨none,0,none,0,rfl,Rd.dI _ _,⟨Fm _,Fz _⟩,.nil _⟩,hw⟩
 obtain⟨X,HX⟩:∃ X,Hid (Mk.jE r=X):=⟨_,rfl⟩
 rw[HX.out] at I ⊢
 by_cases h2:r.length=2
 ·obtain⟨b,t,rfl⟩:∃ b t,r=[b,t]:=by
   match r,h2 with
   |[b,t],_=>exact⟨b,t,rfl⟩
  obtain⟨hn,hm⟩:=hL b t rfl
  cases h with
  |cons bb off _ _ A' c' h1 ff h3 h4 h5=>
  obtain⟨er,k0,k1,k2,k3,k4,k5⟩:=h1
  cases cx:b.list with
  |false=>
   have hX:X=(1,[]):=by rw[<-HX.out];show(if b.list=false then _ else _)=_;rw[Fx cx]
   subst hX
   have HE:=Gn (I.out 1 w (Gp _ w) rfl)
   rw[cx] at k0
   clear I HX h2 hn hm h3 h4 h5 k1 k2 k3 k4 k5 hL hle cx
   go_enter Tryz.func267,Tryz.ntmps267
   go_wp2
   try simp only[Exit.inBlock,Exit.then]
   exact GD (v:=.tuple #[.slice none 0 0,.slice none 0 0,.int .i64 1]) (by simp[results,Tryz.results267,go_sem]) rfl HE.out
  |true=>
   rw[cx] at k0
   obtain⟨L,dO⟩:∃ L,b.L=L:=⟨_,rfl⟩
   rw[dO] at hn hm h4 k5 h3
   obtain⟨n,cy⟩:∃ n,L.length=n:=⟨_,rfl⟩
   rw[cy] at k5 hn h3
   have bx:Hid (X=match Bd.binds L with
     |none=>(1,[])
     |some m=>if eU (m.map (·.1))=true then(101,[]) else if Bd.twice (m.map (·.1))=true then(4,[]) else(0,m)):=by
    show _=_
    rw[<-HX.out]
    show(if b.list=false then _ else _)=_
    rw[FQ (by rw[cx];decide),dO]
   have J:=Gn h4
   have HM:=Gn hm
   have bp:=Gn cy
   have fz:n<=1000:=hn
   clear h2 hn hm h3 h4 h5 k1 k2 k3 k4 hL hle cx dO cy HX
   go_enter Tryz.func267,Tryz.ntmps267
   go_wp2_with fail
   go_loopw [5,6,26] (fun nv tv iv wr=>∃ (i:Nat) (nA:Option Addr) (nc:Nat) (tA:Option Addr) (tc:Nat),i<=n/\iv=.int .i64 (i:Nat)/\nv=.slice nA i nc/\tv=.slice tA i tc/\Hid (Below w.heap.size w wr/\∃ (m:List (ByteArray×Sx)) (Q:List Bz),Bd.binds (L.take i)=some m/\Q.map (·.2)=m.map (·.2)/\(∀ q∈Q,(q.2.L.length<=q.1.2/\q.1.2<=maxLen)/\au w (fun b _=>G b) q.1.1 q.2.L)/\wr.ownsRow w.heap.size 9 1 (.slice nA i nc) i ((m.map (·.1)).map .string)/\wr.ownsRow w.heap.size 27 6 (.slice tA i tc) i (Q.flatMap ej))) (fun _ _ iv _=>n-(intOf iv).toNat)
   case atStart=>exact⟨0,none,0,none,0,Fz _,rfl,rfl,rfl,Gp _ _,[],[],rfl,rfl,(fun q hq=>by cases hq),Gg _ _ _ _,Gg _ _ _ _⟩
   case round=>
    obtain⟨i,nA,nc,tA,tc,fx,rfl,rfl,rfl,HI⟩:=hrel
    by_cases e8:i<n
    ·skip
     obtain⟨b2,bo,x,A2,c2,rfl,hx,s1,_,bL,cY⟩:=J.out.get (i:=i) (by rw[bp.out];exact e8)
     obtain⟨hB,m,Q,ah,ao,hQ,O,Z⟩:=HI.out
     have fb:(i:Int)<(n:Int):=by omega
     have fv:(0:Int)<=(i:Int):=by omega
     have fy:IntKind.i64.wrap ((i:Int)+1)=(i:Int)+1:=GR _ (by omega)
     have bB:Hid (Bd.bI x=none->X=(1,[])):=fun hb=>by rw[bx.out,Bd.iD hb (FP hx)]
     have bE:Hid (∀ p,Bd.bI x=some p->Bd.binds (L.take (i+1))=some (m++[p])):=fun p hp=>by rw[take_one hx];exact Bd.iY hp ah
     obtain⟨xl,xk,xT,cN,xa,xL⟩:=x
     obtain⟨bn,y0,y1,y2,y3,y4,y5⟩:=s1
     have z0:=(hB.cell (p:=⟨b2,bo+i*6,none⟩) bn).trans y0
     have z1:=(hB.cell (p:=⟨b2,bo+i*6+1,none⟩) bn).trans y1
     have z2:=(hB.cell (p:=⟨b2,bo+i*6+2,none⟩) bn).trans y2
     have z3:=(hB.cell (p:=⟨b2,bo+i*6+3,none⟩) bn).trans y3
     have z4:=(hB.cell (p:=⟨b2,bo+i*6+4,none⟩) bn).trans y4
     have z5:=(hB.cell (p:=⟨b2,bo+i*6+5,none⟩) bn).trans y5
     simp only at z0 z1 z2 z3 z4 z5 bL cY
     obtain⟨xn,cl⟩:∃ xn,xL.length=xn:=⟨_,rfl⟩
     rw[cl] at z5
     obtain⟨zr,ev⟩:∃ zr,wr.heap.size=zr:=⟨_,rfl⟩
     obtain⟨E1,e1⟩:∃ E1,wr.alloc (.cells #[.bool xl,.int .i64 xk,.string xT,.int .i64 cN,.int .i64 xa,.slice A2 xn c2] 27)=E1:=⟨_,rfl⟩
     have b6:Below wr.heap.size wr E1:=by rw[<-e1];exact(Gp _ wr).alloc (Fm _) _
     have bz:Below w.heap.size w E1:=hB.trans (b6.mono hB.size)
     have b7:aa E1 zr 27 #[.bool xl,.int .i64 xk,.string xT,.int .i64 cN,.int .i64 xa,.slice A2 xn c2]:=by rw[<-e1,<-ev];exact aa.new wr _ _
     have e0:=b7.cell 0
     have e5:=b7.cell 5
     simp at e0 e5
     clear y0 y1 y2 y3 y4 y5
     cases xl with
     |false=>
      obtain rfl:=bB.out (by unfold Bd.bI;simp only;split <;> simp)
      have HE:=Gn (I.out 1 E1 bz rfl)
      clear I bx HI J HM bp bB bE ah ao hQ O Z hB hx bL cY cl b6 bz b7 e5 bn
      go_wp2
      try simp only[Exit.inBlock,Exit.then]
      exact GD (v:=.tuple #[.slice none 0 0,.slice none 0 0,.int .i64 1]) (by simp[results,Tryz.results267,go_sem]) rfl HE.out
     |true=>
      by_cases h2:xn=2
      ·subst h2
       obtain⟨h,u,rfl⟩:∃ h u,xL=[h,u]:=by
        match xL,cl with
        |[h,u],_=>exact⟨h,u,rfl⟩
       cases cY with
       |cons b3 o3 _ _ A3 c3 s3 _ dx e4 fa=>
       cases fa with
       |cons _ _ _ _ A4 c4 s4 _ bP c7 _=>
       obtain⟨en,d0,d1,d2,d3,d4,d5⟩:=s3
       have f:=fun(j:Nat)=>bz.cell (p:=⟨b3,j,none⟩) en
       have d0:=(f _).trans d0
       have d1:=(f _).trans d1
       have d2:=(f _).trans d2
       have d3:=(f _).trans d3
       have d4:=(f _).trans d4
       have d5:=(f _).trans d5
       have b8:=nY E1 h A3 c3
       have cv:Bd.bI ⟨true,xk,xT,cN,xa,[h,u]⟩=if h.list=false/\h.k=3 then some (h.T,u) else none:=by unfold Bd.bI;simp
       rw[cv] at bB bE
       unfold aX at b8
       by_cases hs:h.list=false/\h.k=3
       ·rw[Fx hs] at bE
        rw[Fx hs,FW hs] at b8
        have bD:=Gn b8
        obtain⟨ul,uk,uT,V,ua,uL⟩:=u
        obtain⟨e7,v0,v1,v2,v3,v4,v5⟩:=s4
        simp only at v0 v1 v2 v3 v4 v5 bP c7
        obtain⟨un,c8⟩:∃ un,uL.length=un:=⟨_,rfl⟩
        rw[c8] at v5 bP
        obtain⟨nm,e2⟩:∃ nm,h.T=nm:=⟨_,rfl⟩
        obtain⟨NL,dS⟩:∃ NL:List Value,(m.map (·.1)).map .string=NL:=⟨_,rfl⟩
        obtain⟨TL,ea⟩:∃ TL,Q.flatMap ej=TL:=⟨_,rfl⟩
        rw[dS] at O
        rw[ea] at Z
        rw[e2] at bD d2 bE
        obtain⟨iS,ba,ca,cb,cc⟩:=Gj oI
        obtain⟨iX,bl,cf,ch,cj⟩:=Gj Ch
        have bT:Hid (∀ k,(Value.slice nA i nc).ownBlock=some k->w.heap.size<=k/\k<zr):=fun k hk=>by rw[<-ev];exact O.lt k hk
        have b5:Hid (∀ k,(Value.slice tA i tc).ownBlock=some k->w.heap.size<=k/\k<zr):=fun k hk=>by rw[<-ev];exact Z.lt k hk
        have bC:Hid (∀ W,(Below w.heap.size w W/\aa W zr 27 #[.bool true,.int .i64 xk,.string xT,.int .i64 cN,.int .i64 xa,.slice (some ⟨b3,o3,none⟩) 2 c2])->(W.cell? ⟨zr,5,none⟩=some (.slice (some ⟨b3,o3,none⟩) 2 c2)/\W.cell? ⟨b3,o3+6,none⟩=some (.bool ul)/\W.cell? ⟨b3,o3+6+1,none⟩=some (.int .i64 uk)/\W.cell? ⟨b3,o3+6+2,none⟩=some (.string uT)/\W.cell? ⟨b3,o3+6+3,none⟩=some (.int .i64 V)/\W.cell? ⟨b3,o3+6+4,none⟩=some (.int .i64 ua)/\W.cell? ⟨b3,o3+6+5,none⟩=some (.slice A4 un c4))):=fun W hW=>by
         have g:=fun(j:Nat)=>hW.1.cell (p:=⟨b3,j,none⟩) en
         exact⟨by rw[hW.2.cell];rfl,(g _).trans v0,(g _).trans v1,(g _).trans v2,(g _).trans v3,(g _).trans v4,(g _).trans v5⟩
        have eW:Hid (∀ w1,Below E1.heap.size E1 w1->w1.drew.ownsRow w.heap.size 9 1 (.slice nA i nc) i NL/\w1.drew.ownsRow w.heap.size 27 6 (.slice tA i tc) i TL/\(Below w.heap.size w w1.drew/\aa w1.drew zr 27 #[.bool true,.int .i64 xk,.string xT,.int .i64 cN,.int .i64 xa,.slice (some ⟨b3,o3,none⟩) 2 c2])):=fun w1 h1=>by
         have cv:Below E1.heap.size E1 w1.drew:=⟨h1.os,h1.tape,h1.output,h1.size,h1.block⟩
         have e3:Below wr.heap.size wr w1.drew:=b6.trans (cv.mono b6.size)
         have er:ae (fun _=>False) wr w1.drew:=ae.af e3
         exact⟨er.own O fun _ _=>id,er.own Z fun _ _=>id,hB.trans (e3.mono hB.size),(ae.af (F:=fun _=>False) cv).lies b7 id⟩
        have dd:Hid (∀ W eA eD eO eP,Below w.heap.size w W->W.ownsRow w.heap.size 9 1 (.slice eA (i+1) eD) (i+1) (NL++[.string nm])->W.ownsRow w.heap.size 27 6 (.slice eO (i+1) eP) (i+1) (TL++[.bool ul,.int .i64 uk,.string uT,.int .i64 V,.int .i64 ua,.slice A4 un c4])->(Below w.heap.size w W/\∃ (m:List (ByteArray×Sx)) (Q:List Bz),Bd.binds (L.take (i+1))=some m/\Q.map (·.2)=m.map (·.2)/\(∀ q∈Q,(q.2.L.length<=q.1.2/\q.1.2<=maxLen)/\au w (fun b _=>G b) q.1.1 q.2.L)/\W.ownsRow w.heap.size 9 1 (.slice eA (i+1) eD) (i+1) ((m.map (·.1)).map .string)/\W.ownsRow w.heap.size 27 6 (.slice eO (i+1) eP) (i+1) (Q.flatMap ej))):=fun W eA eD eO eP q1 q2 q3=>by
         refine⟨q1,m++[(nm,⟨ul,uk,uT,V,ua,uL⟩)],Q++[((A4,c4),⟨ul,uk,uT,V,ua,uL⟩)],bE.out _ rfl,by rw[Hf,Hf,ao];rfl,fun q hq=>?_,?_,?_⟩
         ·rcases F7.1 hq with hq|hq
          ·exact hQ q hq
          ·rw[F0.1 hq]
           exact⟨by show uL.length<=c4/\_;rw[c8];exact bP,c7⟩
         ·rw[Hf,Hf,dS]
          exact q2
         ·rw[IH,ea]
          show World.ownsRow _ _ _ _ _ _ (TL++[.bool ul,.int .i64 uk,.string uT,.int .i64 V,.int .i64 ua,.slice A4 uL.length c4])
          rw[c8]
          exact q3
        have a7:∀ u∈([.bool ul,.int .i64 uk,.string uT,.int .i64 V,.int .i64 ua,.slice A4 un c4]:List Value),u.oneCell'=true:=by
         intro u hu
         simp at hu
         rcases hu with rfl|rfl|rfl|rfl|rfl|rfl <;> rfl
        have U:i+1<=maxLen:=by unfold maxLen;omega
        have av:(i+1)*16<=140737488355328:=by omega
        have a1:(i+1)*72<=140737488355328:=by omega
        obtain⟨cF,cE⟩:∃ cF,h.L.length=cF:=⟨_,rfl⟩
        rw[cE] at d5 bD
        clear I bx HI J HM bp bB bE ah ao hQ O Z hB hx bL cl b6 bz b7 bn b8 hs f dx e4 bP c7 cv cE c8 e2 dS ea en e7 v0 v1 v2 v3 v4 v5
        go_wp2_with fail
        refine bD.out.mono ?_
        rintro e w1 ⟨rfl,b1⟩
        obtain⟨n0,t0,m0⟩:=eW.out w1 b1
        have N0:=Gn n0
        have T0:=Gn t0
        have M0:=Gn m0
        clear bD eW b1 n0 t0 m0 d0 d1 d2 d3 d4 d5 e0 e5
        go_wp2_with fail
        go_region_held3 (fun W=>W.cell? ⟨zr,5,none⟩=some (.slice (some ⟨b3,o3,none⟩) 2 c2)/\W.cell? ⟨b3,o3+6,none⟩=some (.bool ul)/\W.cell? ⟨b3,o3+6+1,none⟩=some (.int .i64 uk)/\W.cell? ⟨b3,o3+6+2,none⟩=some (.string uT)/\W.cell? ⟨b3,o3+6+3,none⟩=some (.int .i64 V)/\W.cell? ⟨b3,o3+6+4,none⟩=some (.int .i64 ua)/\W.cell? ⟨b3,o3+6+5,none⟩=some (.slice A4 un c4))
         (first|(with_reducible exact bC.out _ M0.out)|(with_reducible exact bC.out _ M2.out)|(with_reducible exact bC.out _ M3.out)|exact bC.out _ (aw M0.out _)|exact bC.out _ (aw (aw M0.out _) _)|exact bC.out _ (aw M2.out _)|exact bC.out _ (aw M3.out _))
         (first
            |(refine aZ rfl (.tmp 49) (.tmp 51) 79 rfl w.heap.size 9 iS (.string ByteArray.empty) 16 Tryz.underlying79 ba ca cb cc rfl (.slice nA i nc) i NL (by simp[Act.eval,Act.put]) (N0.out.alloc _) _ 1 1 [.string nm] (by simp[Act.eval,Act.put]) rfl (bt (aa.new _ _ _) rfl) (by intro u hu;simp at hu;subst hu;rfl) U av (aw M0.out _).1.size ?_;intro A5 c5 w5 o5 g5 _;have M2:=Gn (br (aw M0.out _) g5 bT.out);have T2:=Gn (cW (N0.out.alloc _) g5 (by decide) (T0.out.alloc _));have B2:=Gn (fun b cs (hl:aa _ b 27 cs)=>bY (N0.out.alloc _) g5 (by decide) hl);have O2:=Gn o5;clear o5 g5)
            |(refine aZ rfl (.tmp 49) (.tmp 51) 79 rfl w.heap.size 9 iS (.string ByteArray.empty) 16 Tryz.underlying79 ba ca cb cc rfl (.slice nA i nc) i NL (by simp[Act.eval,Act.put]) ((N0.out.alloc _).alloc _) _ 1 1 [.string nm] (by simp[Act.eval,Act.put]) rfl (bt (aa.new _ _ _) rfl) (by intro u hu;simp at hu;subst hu;rfl) U av (aw (aw M0.out _) _).1.size ?_;intro A5 c5 w5 o5 g5 _;have M2:=Gn (br (aw (aw M0.out _) _) g5 bT.out);have T2:=Gn (cW ((N0.out.alloc _).alloc _) g5 (by decide) ((T0.out.alloc _).alloc _));have B2:=Gn (fun b cs (hl:aa _ b 27 cs)=>bY ((N0.out.alloc _).alloc _) g5 (by decide) hl);have O2:=Gn o5;clear o5 g5)
            |(refine aZ rfl (.tmp 49) (.tmp 51) 79 rfl w.heap.size 9 iS (.string ByteArray.empty) 16 Tryz.underlying79 ba ca cb cc rfl (.slice nA i nc) i NL (by simp[Act.eval,Act.put]) ((N0.out.alloc _).alloc _) _ 1 1 [.string nm] (by simp[Act.eval,Act.put]) rfl (bt (eo _ _ _ _) rfl) (by intro u hu;simp at hu;subst hu;rfl) U av (aw (aw M0.out _) _).1.size ?_;intro A5 c5 w5 o5 g5 _;have M2:=Gn (br (aw (aw M0.out _) _) g5 bT.out);have T2:=Gn (cW ((N0.out.alloc _).alloc _) g5 (by decide) ((T0.out.alloc _).alloc _));have B2:=Gn (fun b cs (hl:aa _ b 27 cs)=>bY ((N0.out.alloc _).alloc _) g5 (by decide) hl);have O2:=Gn o5;clear o5 g5)
            |(refine aZ rfl (.tmp 49) (.tmp 51) 79 rfl w.heap.size 9 iS (.string ByteArray.empty) 16 Tryz.underlying79 ba ca cb cc rfl (.slice nA i nc) i NL (by simp[Act.eval,Act.put]) N3.out _ 1 1 [.string nm] (by simp[Act.eval,Act.put]) rfl (bt (B3.out _ _ (eo _ _ _ _)) rfl) (by intro u hu;simp at hu;subst hu;rfl) U av M3.out.1.size ?_;intro A5 c5 w5 o5 g5 _;have M2:=Gn (br M3.out g5 bT.out);have T2:=Gn (cW N3.out g5 (by decide) O3.out);have B2:=Gn (fun b cs (hl:aa _ b 27 cs)=>bY N3.out g5 (by decide) hl);have O2:=Gn o5;clear o5 g5)
            |(refine aZ rfl (.tmp 49) (.tmp 51) 79 rfl w.heap.size 9 iS (.string ByteArray.empty) 16 Tryz.underlying79 ba ca cb cc rfl (.slice nA i nc) i NL (by simp[Act.eval,Act.put]) N3.out _ 1 1 [.string nm] (by simp[Act.eval,Act.put]) rfl (bt (B3.out _ _ (aa.new _ _ _)) rfl) (by intro u hu;simp at hu;subst hu;rfl) U av M3.out.1.size ?_;intro A5 c5 w5 o5 g5 _;have M2:=Gn (br M3.out g5 bT.out);have T2:=Gn (cW N3.out g5 (by decide) O3.out);have B2:=Gn (fun b cs (hl:aa _ b 27 cs)=>bY N3.out g5 (by decide) hl);have O2:=Gn o5;clear o5 g5)
            |(refine aZ rfl (.tmp 49) (.tmp 51) 79 rfl w.heap.size 9 iS (.string ByteArray.empty) 16 Tryz.underlying79 ba ca cb cc rfl (.slice nA i nc) i NL (by simp[Act.eval,Act.put]) (N3.out.alloc _) _ 1 1 [.string nm] (by simp[Act.eval,Act.put]) rfl (bt (aa.new _ _ _) rfl) (by intro u hu;simp at hu;subst hu;rfl) U av (aw M3.out _).1.size ?_;intro A5 c5 w5 o5 g5 _;have M2:=Gn (br (aw M3.out _) g5 bT.out);have T2:=Gn (cW (N3.out.alloc _) g5 (by decide) (O3.out.alloc _));have B2:=Gn (fun b cs (hl:aa _ b 27 cs)=>bY (N3.out.alloc _) g5 (by decide) hl);have O2:=Gn o5;clear o5 g5)
            |(refine ay rfl (.tmp 53) (.tmp 58) 25 rfl w.heap.size 27 iX (.agg #[.bool false,.int .i64 0,.string ByteArray.empty,.int .i64 0,.int .i64 0,.slice none 0 0]) 6 72 Tryz.underlying25 bl cf ch cj rfl (by decide) (.slice tA i tc) i TL (by simp[Act.eval,Act.put]) (T0.out.alloc _) _ 1 1 [.bool ul,.int .i64 uk,.string uT,.int .i64 V,.int .i64 ua,.slice A4 un c4] (by simp[Act.eval,Act.put]) rfl (bt (aa.new _ _ _) rfl) a7 U a1 (aw M0.out _).1.size ?_;intro A6 c6 w6 o6 g6 _;have M3:=Gn (br (aw M0.out _) g6 b5.out);have N3:=Gn (cW (T0.out.alloc _) g6 (by decide) (N0.out.alloc _));have B3:=Gn (fun b cs (hl:aa _ b 9 cs)=>bY (T0.out.alloc _) g6 (by decide) hl);have O3:=Gn o6;clear o6 g6)
            |(refine ay rfl (.tmp 53) (.tmp 58) 25 rfl w.heap.size 27 iX (.agg #[.bool false,.int .i64 0,.string ByteArray.empty,.int .i64 0,.int .i64 0,.slice none 0 0]) 6 72 Tryz.underlying25 bl cf ch cj rfl (by decide) (.slice tA i tc) i TL (by simp[Act.eval,Act.put]) ((T0.out.alloc _).alloc _) _ 1 1 [.bool ul,.int .i64 uk,.string uT,.int .i64 V,.int .i64 ua,.slice A4 un c4] (by simp[Act.eval,Act.put]) rfl (bt (aa.new _ _ _) rfl) a7 U a1 (aw (aw M0.out _) _).1.size ?_;intro A6 c6 w6 o6 g6 _;have M3:=Gn (br (aw (aw M0.out _) _) g6 b5.out);have N3:=Gn (cW ((T0.out.alloc _).alloc _) g6 (by decide) ((N0.out.alloc _).alloc _));have B3:=Gn (fun b cs (hl:aa _ b 9 cs)=>bY ((T0.out.alloc _).alloc _) g6 (by decide) hl);have O3:=Gn o6;clear o6 g6)
            |(refine ay rfl (.tmp 53) (.tmp 58) 25 rfl w.heap.size 27 iX (.agg #[.bool false,.int .i64 0,.string ByteArray.empty,.int .i64 0,.int .i64 0,.slice none 0 0]) 6 72 Tryz.underlying25 bl cf ch cj rfl (by decide) (.slice tA i tc) i TL (by simp[Act.eval,Act.put]) ((T0.out.alloc _).alloc _) _ 1 1 [.bool ul,.int .i64 uk,.string uT,.int .i64 V,.int .i64 ua,.slice A4 un c4] (by simp[Act.eval,Act.put]) rfl (bt (eo _ _ _ _) rfl) a7 U a1 (aw (aw M0.out _) _).1.size ?_;intro A6 c6 w6 o6 g6 _;have M3:=Gn (br (aw (aw M0.out _) _) g6 b5.out);have N3:=Gn (cW ((T0.out.alloc _).alloc _) g6 (by decide) ((N0.out.alloc _).alloc _));have B3:=Gn (fun b cs (hl:aa _ b 9 cs)=>bY ((T0.out.alloc _).alloc _) g6 (by decide) hl);have O3:=Gn o6;clear o6 g6)
            |(refine ay rfl (.tmp 53) (.tmp 58) 25 rfl w.heap.size 27 iX (.agg #[.bool false,.int .i64 0,.string ByteArray.empty,.int .i64 0,.int .i64 0,.slice none 0 0]) 6 72 Tryz.underlying25 bl cf ch cj rfl (by decide) (.slice tA i tc) i TL (by simp[Act.eval,Act.put]) T2.out _ 1 1 [.bool ul,.int .i64 uk,.string uT,.int .i64 V,.int .i64 ua,.slice A4 un c4] (by simp[Act.eval,Act.put]) rfl (bt (B2.out _ _ (aa.new _ _ _)) rfl) a7 U a1 M2.out.1.size ?_;intro A6 c6 w6 o6 g6 _;have M3:=Gn (br M2.out g6 b5.out);have N3:=Gn (cW T2.out g6 (by decide) O2.out);have B3:=Gn (fun b cs (hl:aa _ b 9 cs)=>bY T2.out g6 (by decide) hl);have O3:=Gn o6;clear o6 g6)
            |(refine ay rfl (.tmp 53) (.tmp 58) 25 rfl w.heap.size 27 iX (.agg #[.bool false,.int .i64 0,.string ByteArray.empty,.int .i64 0,.int .i64 0,.slice none 0 0]) 6 72 Tryz.underlying25 bl cf ch cj rfl (by decide) (.slice tA i tc) i TL (by simp[Act.eval,Act.put]) T2.out _ 1 1 [.bool ul,.int .i64 uk,.string uT,.int .i64 V,.int .i64 ua,.slice A4 un c4] (by simp[Act.eval,Act.put]) rfl (bt (B2.out _ _ (eo _ _ _ _)) rfl) a7 U a1 M2.out.1.size ?_;intro A6 c6 w6 o6 g6 _;have M3:=Gn (br M2.out g6 b5.out);have N3:=Gn (cW T2.out g6 (by decide) O2.out);have B3:=Gn (fun b cs (hl:aa _ b 9 cs)=>bY T2.out g6 (by decide) hl);have O3:=Gn o6;clear o6 g6)
            |(refine ay rfl (.tmp 53) (.tmp 58) 25 rfl w.heap.size 27 iX (.agg #[.bool false,.int .i64 0,.string ByteArray.empty,.int .i64 0,.int .i64 0,.slice none 0 0]) 6 72 Tryz.underlying25 bl cf ch cj rfl (by decide) (.slice tA i tc) i TL (by simp[Act.eval,Act.put]) (T2.out.alloc _) _ 1 1 [.bool ul,.int .i64 uk,.string uT,.int .i64 V,.int .i64 ua,.slice A4 un c4] (by simp[Act.eval,Act.put]) rfl (bt (aa.new _ _ _) rfl) a7 U a1 (aw M2.out _).1.size ?_;intro A6 c6 w6 o6 g6 _;have M3:=Gn (br (aw M2.out _) g6 b5.out);have N3:=Gn (cW (T2.out.alloc _) g6 (by decide) (O2.out.alloc _));have B3:=Gn (fun b cs (hl:aa _ b 9 cs)=>bY (T2.out.alloc _) g6 (by decide) hl);have O3:=Gn o6;clear o6 g6))
        all_goals
         have HV:=Gn (dd.out w6 _ _ _ _ M3.out.1 N3.out O3.out)
         clear dd bC bT b5 M0 N0 T0 M2 T2 B2 O2 M3 N3 B3 O3 a7 U av a1 ba ca cb cc bl cf ch cj
         go_wp2
         go_roundw
         case rel=>exact⟨i+1,_,_,_,_,by omega,by go_num,rfl,rfl,HV.out⟩
         case measure=>simp[intOf];omega
       ·rw[FQ hs] at bB
        rw[FQ hs,Gq hs] at b8
        obtain rfl:=bB.out rfl
        have bD:=Gn b8
        have HE:Hid (∀ W,Below E1.heap.size E1 W->_):=fun W hW=>I.out 1 W (bz.trans (hW.mono bz.size)) rfl
        obtain⟨cF,cE⟩:∃ cF,h.L.length=cF:=⟨_,rfl⟩
        rw[cE] at d5 bD
        clear I bx HI J HM bp bB bE ah ao hQ O Z hB hx bL cl b6 bz b7 bn b8 hs f dx e4 bP c7 s4 cv cE
        go_wp2_with fail
        refine bD.out.mono ?_
        rintro e w1 ⟨rfl,b1⟩
        have e6:=Gn (HE.out w1 b1)
        clear bD b1 d0 d1 d2 d3 d4 d5 e0 e5 HE
        go_wp2
        try simp only[Exit.inBlock,Exit.then]
        exact GD (v:=.tuple #[.slice none 0 0,.slice none 0 0,.int .i64 1]) (by simp[results,Tryz.results267,go_sem]) rfl e6.out
      ·obtain rfl:=bB.out (by
        unfold Bd.bI
        simp only
        split
        ·simp at cl;omega
        ·rfl)
       have HE:=Gn (I.out 1 E1 bz rfl)
       have e9:((xn:Int) != 2)=true:=by simp;omega
       clear I bx HI J HM bp bB bE ah ao hQ O Z hB hx bL cY cl b6 bz b7 bn h2
       go_wp2
       try simp only[Exit.inBlock,Exit.then]
       exact GD (v:=.tuple #[.slice none 0 0,.slice none 0 0,.int .i64 1]) (by simp[results,Tryz.results267,go_sem]) rfl HE.out
    ·skip
     obtain rfl:i=n:=by omega
     obtain⟨hB,m,Q,ah,ao,hQ,O,Z⟩:=HI.out
     rw[Gr (by rw[bp.out];exact Fm _)] at ah
     have ad:=bx.out
     rw[ah] at ad
     simp only at ad
     have b9:m.length=i:=by have:=O.1;rw[Fi,Fi] at this;omega
     have cR:Q.length=i:=by rw[<-b9,<-Fi (f:=fun q:Bz=>q.2),ao,Fi]
     have cq:=Rd.eX O
     obtain⟨cX,cz⟩:=au.eX (G:=fun b _=>w.heap.size<=b\/G b) Z cR (fun _ _=> .inl) fun q hq=>⟨(hQ q hq).1,((hQ q hq).2.kept (hB.mono (Fm _))).mono fun _ _ _=> .inr⟩
     rw[ao] at cz
     have HC:=Gn (CG wr nA i nc (m.map (·.1)) cq (by omega))
     have b4:=Gn (xg wr nA i nc (m.map (·.1)) cq (by omega) (fun s hs=>by
      obtain⟨q,hq,rfl⟩:=Hh.1 hs
      exact HM.out m ah q hq))
     have cP:Hid (X=(0,m)->∀ w',Below wr.heap.size wr w'->Mk.rj w G X (.returned (.tuple #[.slice nA i nc,.slice tA i tc,.int .i64 0])) w'):=fun e w' hw=>by
      rw[e]
      refine⟨⟨nA,nc,tA,tc,?_,?_,?_,cz.kept hw⟩,hB.trans (hw.mono hB.size)⟩
      ·show _=Ending.returned (.tuple #[.slice nA m.length nc,.slice tA m.length tc,.int .i64 0])
       rw[b9]
      ·show Rd w' _ nA m.length nc _
       rw[b9]
       exact cq.below hw
      ·show m.length<=tc/\_
       rw[b9]
       exact cX
     have HB:=Gn hB
     cases hr:eU (m.map (·.1)) with
     |true=>
      rw[hr] at HC
      rw[hr,Fx rfl] at ad
      have HE:=Gn (I.out 101 wr hB ad)
      clear I bx HI J HM bp ah ad b9 cR cq cX cz hQ ao O Z hB b4 cP hr
      go_wp2_with fail
      refine HC.out.mono ?_
      rintro e w1 ⟨rfl,rfl⟩
      clear HC
      go_wp2
      try simp only[Exit.inBlock,Exit.then]
      exact GD (v:=.tuple #[.slice none 0 0,.slice none 0 0,.int .i64 101]) (by simp[results,Tryz.results267,go_sem]) rfl HE.out
     |false=>
      rw[hr] at HC
      rw[hr,FQ (by decide)] at ad
      cases ht:Bd.twice (m.map (·.1)) with
      |true=>
       rw[ht] at b4
       rw[ht,Fx rfl] at ad
       have HE:Hid (∀ W,Below wr.heap.size wr W->_):=fun W hW=>I.out 4 W (HB.out.trans (hW.mono HB.out.size)) ad
       clear I bx HI J HM bp ah ad b9 cR cq cX cz hQ ao O Z hB cP hr ht
       go_wp2_with fail
       refine HC.out.mono ?_
       rintro e w1 ⟨rfl,rfl⟩
       clear HC
       go_wp2_with fail
       refine b4.out.mono ?_
       rintro e w2 ⟨rfl,b2⟩
       have dN:=Gn (HE.out w2 b2)
       clear b4 b2 HE
       go_wp2
       try simp only[Exit.inBlock,Exit.then]
       exact GD (v:=.tuple #[.slice none 0 0,.slice none 0 0,.int .i64 4]) (by simp[results,Tryz.results267,go_sem]) rfl dN.out
      |false=>
       rw[ht] at b4
       rw[ht,FQ (by decide)] at ad
       have HE:=Gn (cP.out ad)
       clear I bx HI J HM bp ah ad b9 cR cq cX cz hQ ao O Z hB cP hr ht
       go_wp2_with fail
       refine HC.out.mono ?_
       rintro e w1 ⟨rfl,rfl⟩
       clear HC
       go_wp2_with fail
       refine b4.out.mono ?_
       rintro e w2 ⟨rfl,b2⟩
       have dN:=Gn (HE.out w2 b2)
       clear b4 b2 HE
       go_wp2
       try simp only[Exit.inBlock,Exit.then]
       exact GD (v:=.tuple #[.slice nA i nc,.slice tA i tc,.int .i64 0]) (by simp[results,Tryz.results267,go_sem]) rfl dN.out
 ·have hX:X=(1,[]):=by rw[<-HX.out];exact Mk.sY h2
  subst hX
  have HE:=Gn (I.out 1 w (Gp _ w) rfl)
  obtain⟨n,cy⟩:∃ n,r.length=n:=⟨_,rfl⟩
  rw[cy] at h2 ⊢
  have e9:((n:Int) != 2)=true:=by simp;omega
  clear I HX h2 h hL hle cy
  go_enter Tryz.func267,Tryz.ntmps267
  go_wp2
  try simp only[Exit.inBlock,Exit.then]
  exact GD (v:=.tuple #[.slice none 0 0,.slice none 0 0,.int .i64 1]) (by simp[results,Tryz.results267,go_sem]) rfl HE.out
theorem Mk.td (s:Ms) (r:List Sx):((Mk.jE r).1≠0/\Mk.il s r=(s,(Mk.jE r).1))\/((Mk.jE r).1=0/\∃ b t,r=[b,t]/\Mk.il s r=(Mk.nest s ((Mk.jE r).2.map (·.2)) (.bind ((Mk.jE r).2.map (·.1)) t),0)):=by
 by_cases h:r.length=2
 ·obtain⟨b,t,rfl⟩:∃ b t,r=[b,t]:=by
   match r,h with
   |[b,t],_=>exact⟨b,t,rfl⟩
  have I:Mk.jE [b,t]=if b.list=false then((1:Int),[]) else match Bd.binds b.L with
   |none=>(1,[])
   |some m=>if eU (m.map (·.1))=true then(101,[]) else if Bd.twice (m.map (·.1))=true then(4,[]) else(0,m):=rfl
  have J:Mk.il s [b,t]=if b.list=false then(s,(1:Int)) else match Bd.binds b.L with
   |none=>(s,1)
   |some m=>if(m.any fun q=>Bd.reserved q.1.data.toList)=true then(s,101) else if Bd.twice (m.map (·.1))=true then(s,4)
    else(Mk.nest s (m.map (·.2)) (.bind (m.map (·.1)) t),0):=rfl
  rw[I,J]
  by_cases hl:b.list=false
  ·rw[Fx hl,Fx hl]
   exact .inl ⟨by decide,rfl⟩
  ·rw[FQ hl,FQ hl]
   cases Bd.binds b.L with
   |none=>exact .inl ⟨by decide,rfl⟩
   |some m=>
    simp only
    have e:eU (m.map (·.1))=m.any fun q=>Bd.reserved q.1.data.toList:=by unfold eU;rw[List.any_map];rfl
    rw[e]
    split
    ·exact .inl ⟨by decide,rfl⟩
    ·split
     ·exact .inl ⟨by decide,rfl⟩
     ·exact .inr ⟨rfl,b,t,rfl,rfl⟩
 ·rw[Mk.sY h]
  refine .inl ⟨by decide,?_⟩
  unfold Mk.il
  split
  ·simp at h
  ·rfl
theorem Mk.aF.out {E:Mk.Env} {w:World} {M:Nat} {Y:Mk.Lay} {s:Ms} (h:Mk.aF E w M Y s):∀ k,w.heap.size<=k->¬Mk.ag M Y k:=fun k r e=>by have:=h.lt k e;omega
theorem Ev (E:Mk.Env) (w:World) (M:Nat) (Y:Mk.Lay) (s:Ms) (bs:List Fr) (f:Fr) (A:Option Addr) (c:Nat) (r:List Sx) (h:Mk.aF E w M Y s) (hf:s.fr=bs++[f]) (hs:Mk.Small s)
  (hr:au w (fun b _=>¬Mk.ag M Y b) A r) (hle:r.length<=c/\c<=maxLen) (hL:∀ b t,r=[b,t]->b.L.length<=1000/\∀ m,Bd.binds b.L=some m->∀ q∈m,q.1.size<=maxLen):
  Calls Tryz.prog 234 #[.pointer (some ⟨M,0,none⟩),.slice A r.length c] w fun x w'=>Mk.aY E w M Y (Mk.il s r) x w':=by
 obtain⟨I,U⟩:∃ I,(w.alloc (.cells #[.pointer (some ⟨M,0,none⟩)] 95)).alloc (.cells #[.slice A r.length c] 25)=I:=⟨_,rfl⟩
 have Q:Below w.heap.size w I:=by rw[<-U];exact((Gp _ w).alloc (Fm _) _).alloc (by simp) _
 have bC:I.heap.size=w.heap.size+2:=by rw[<-U];simp
 have av:aa I w.heap.size 95 #[.pointer (some ⟨M,0,none⟩)]:=by rw[<-U];exact eo _ _ _ _
 have ad:aa I (w.heap.size+1) 25 #[.slice A r.length c]:=by
  have:=aa.new (w.alloc (.cells #[.pointer (some ⟨M,0,none⟩)] 95)) 25 #[.slice A r.length c]
  rw[H9] at this
  rw[<-U]
  exact this
 have ah:=uQ I (fun k=>¬Mk.ag M Y k) A c r (hr.kept Q) hle hL
 have HB:=Gn ah
 have J:Hid (∀ w',Below I.heap.size I w'->(Mk.jE r).1≠0->Mk.aY E w M Y (Mk.il s r) (.returned (.int .i64 (Mk.jE r).1)) w'):=fun w' hw hz=>by
  rcases Mk.td s r with⟨_,e⟩|⟨e,_⟩
  ·rw[e]
   exact⟨rfl,Mk.Left.same h (Q.trans (hw.mono Q.size))⟩
  ·exact absurd e hz
 have ao:Hid (∀ W,Below I.heap.size I W->W.cell? ⟨w.heap.size,0,none⟩=some (.pointer (some ⟨M,0,none⟩))/\w.heap.size<W.heap.size):=fun W hW=>by
  have hl:=(ae.af (F:=fun _=>False) hW).lies av id
  exact⟨by rw[hl.cell];rfl,hl.lt⟩
 have HN:Hid (∀ O nA nc tA tc,Below I.heap.size I O->(Mk.jE r).1=0->Rd O (fun k=>I.heap.size<=k) nA (Mk.jE r).2.length nc (((Mk.jE r).2.map (·.1)).map .string)->((Mk.jE r).2.length<=tc/\tc<=maxLen)->au O (fun b _=>I.heap.size<=b\/¬Mk.ag M Y b) tA ((Mk.jE r).2.map (·.2))->
   Calls Tryz.prog 235 #[.pointer (some ⟨M,0,none⟩),.slice tA (Mk.jE r).2.length tc,.func (.func 268) #[] #[.pointer (some ⟨w.heap.size,0,none⟩),.pointer (some ⟨O.heap.size,0,none⟩),.pointer (some ⟨w.heap.size+1,0,none⟩)]] (O.alloc (.cells #[.slice nA (Mk.jE r).2.length nc] 79)) fun x w'=>Mk.aY E w M Y (Mk.il s r) x w'):=fun O nA nc tA tc hw hz hn ht bx=>by
  rcases Mk.td s r with⟨e,_⟩|⟨_,b,t,rfl,e⟩
  ·exact absurd hz e
  rw[e]
  have a1:Below w.heap.size w O:=Q.trans (hw.mono Q.size)
  have Z:Below O.heap.size O (O.alloc (.cells #[.slice nA (Mk.jE [b,t]).2.length nc] 79)):=(Gp _ _).alloc (Fm _) _
  have a7:=a1.trans (Z.mono a1.size)
  have hR:=h.below a7
  have bn:∀ k,I.heap.size<=k->¬Mk.ag M Y k:=fun k hk=>h.out k (by omega)
  have l1:=(ae.af (F:=fun _=>False) Z).lies ((ae.af (F:=fun _=>False) hw).lies av id) id
  have l3:=(ae.af (F:=fun _=>False) Z).lies ((ae.af (F:=fun _=>False) hw).lies ad id) id
  have bo:Rd O (fun k=>¬Mk.ag M Y k) nA (Mk.jE [b,t]).2.length nc (((Mk.jE [b,t]).2.map (·.1)).map .string):=hn.mono fun k _ hk=>bn k hk
  have bp:au O (fun k _=>¬Mk.ag M Y k) tA ((Mk.jE [b,t]).2.map (·.2)):=bx.mono fun k _ _ hk=>hk.elim (bn k) id
  have hc:=wM E _ M Y s bs f tA tc _ ((Mk.jE [b,t]).2.map (·.2)) (.bind ((Mk.jE [b,t]).2.map (·.1)) t) hR hf (by have:=hs.fr;rw[hf,Gb] at this;omega) (by have:=hs.sc;omega) (by have:=(hs.ids f (by rw[hf];simp)).2;omega)
   (by rw[Fi];exact ht) (bp.kept Z) ⟨w.heap.size,O.heap.size,w.heap.size+1,nA,nc,A,c,b,rfl,h.out _ (Fm _),h.out _ a1.size,h.out _ (by omega),l1,by rw[Fi];exact aa.new O _ _,by rw[Fi];exact bo.below Z,l3,(hr.kept a7),hle⟩
  rw[Fi] at hc
  exact hc.mono fun x w' q=>q.up a7
 obtain⟨X,hX⟩:∃ X,Mk.jE r=X:=⟨_,rfl⟩
 rw[hX] at HB J HN
 obtain⟨R,hR⟩:∃ R,Mk.il s r=R:=⟨_,rfl⟩
 rw[hR] at J HN ⊢
 obtain⟨rn,bb⟩:∃ rn,r.length=rn:=⟨_,rfl⟩
 rw[bb] at HB U ⊢
 have c3:I.cell? ⟨w.heap.size+1,0,none⟩=some (.slice A rn c):=by rw[<-bb,ad.cell];rfl
 have bl:=ad.lt
 clear h hf hs hr hle hL ah Q av ad hX hR bb
 go_enter Tryz.func234,Tryz.ntmps234
 go_wp2_with fail
 refine HB.out.mono ?_
 rintro e O ⟨⟨nA,nc,tA,tc,rfl,q1,q2,q3⟩,b2⟩
 obtain⟨z,hz⟩:∃ z,X.1=z:=⟨_,rfl⟩
 have ba:Below I.heap.size I (O.alloc (.cells #[.slice nA X.2.length nc] 79)):=b2.alloc b2.size _
 by_cases h0:z=0
 ·subst h0
  have HC:=Gn (HN.out O nA nc tA tc b2 hz q1 q2 q3)
  obtain⟨f1,f2⟩:=ao.out _ ba
  obtain⟨m,hm⟩:∃ m,X.2.length=m:=⟨_,rfl⟩
  rw[hm] at HC f1 f2 ⊢
  rw[hz]
  have bz:∀ (fn:Fn) (first cap:Array Value) (w:World),(Instr.makeFunc fn first cap).run Tryz.prog w=.ok (.func fn first cap) w:=fun _ _ _ _=>rfl
  clear HB J HN ao q1 q2 q3 b2 hz ba hm c3 bl
  go_wp2_with fail
  refine HC.out.mono ?_
  rintro e w3 ⟨rfl,v⟩
  have V:=Gn v
  clear HC v f1 f2
  go_wp2
  go_ret
  exact⟨rfl,V.out⟩
 ·have HE:=Gn (J.out _ ba (by rw[hz];exact h0))
  have bB:(z != 0)=true:=by simp[h0]
  rw[hz] at HE ⊢
  clear HB J HN ao q1 q2 q3 b2 hz ba c3 bl h0
  go_wp2
  go_ret
  exact HE.out
end Go.Proofs.YtdbgiijdgedggaaGreatDoor
