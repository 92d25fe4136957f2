import Derived.Test.YtdbgiijdgedggaaGreatDoorQM06
import Derived.Deep.RegionHeld3
import Derived.IntWalk
import Derived.Deep.RegionWith
import Derived.Test.YtdbgiijdgedggaaGreatDoorQM03
import Derived.Lib.SmallJoins
import Derived.ProofKit
import Derived.OpenShut
import Derived.ShutString
import Derived.ChangeOld
import Derived.Below
set_option linter.unusedSimpArgs false
set_option linter.unusedVariables false
set_option maxRecDepth 100000
set_option maxHeartbeats 25600000
namespace Go.Proofs.YtdbgiijdgedggaaGreatDoor
open Go.RowKit
structure qW (w:World) (b:Nat) (g:Bool) (A:Option Addr) (n c:Nat):Prop where
 c0:w.cell? ⟨b,0,none⟩=some (.bool g)
 c1:w.cell? ⟨b,1,none⟩=some (.slice A n c)
 lt:b<w.heap.size
 fr:∀ i,w.frozen? ⟨b,i,none⟩=false
theorem qW.new (w:World) (g:Bool) (A:Option Addr) (n c:Nat):qW (w.alloc (.cells #[.bool g,.slice A n c] 47)) w.heap.size g A n c:=⟨by simp,by simp,by simp,fun i=>by simp⟩
theorem qW.below {w w':World} {b B:Nat} {g:Bool} {A:Option Addr} {n c:Nat} (h:qW w b g A n c) (hb:Below B w w') (r:b<B):qW w' b g A n c:=
 ⟨(hb.cell (p:=⟨b,0,none⟩) r).trans h.c0,(hb.cell (p:=⟨b,1,none⟩) r).trans h.c1,Fp h.lt hb.size,fun i=>(hb.frozen (p:=⟨b,i,none⟩) r).trans (h.fr i)⟩
theorem Dt {w W r:World} {b:Nat} {g:Bool} {A:Option Addr} {n c:Nat} (I:Below W.heap.size W r)
  (h:W.cell? ⟨b,0,none⟩=some (.bool g)/\W.cell? ⟨b,1,none⟩=some (.slice A n c)/\b<W.heap.size/\Below w.heap.size w W):
  r.cell? ⟨b,0,none⟩=some (.bool g)/\r.cell? ⟨b,1,none⟩=some (.slice A n c)/\b<r.heap.size/\Below w.heap.size w r:=
 ⟨(I.cell (p:=⟨b,0,none⟩) h.2.2.1).trans h.1,(I.cell (p:=⟨b,1,none⟩) h.2.2.1).trans h.2.1,Fp h.2.2.1 I.size,h.2.2.2.trans (I.mono h.2.2.2.size)⟩
def kW (w:World) (v:Value) (z:Int):Prop:=∃ u,v=.agg #[.bool (decide (z<0)),u]/\Num w u z.natAbs
def o9 (w:World) (g:Bool) (A:Option Addr) (n c:Nat) (z:Int):Prop:=In w A n c z.natAbs/\Z.sg g z.natAbs=z
def vN (w:World) (g:Bool) (A:Option Addr) (n c:Nat) (z:Int):Prop:=AX w A n c z.natAbs/\Z.sg g z.natAbs=z
theorem o9.wide {w:World} {g:Bool} {A:Option Addr} {n c:Nat} {z:Int} (h:o9 w g A n c z):vN w g A n c z:=⟨h.1.wide,h.2⟩
theorem vN.below {w w':World} {g:Bool} {A:Option Addr} {n c:Nat} {z:Int} (h:vN w g A n c z) (hb:Below w.heap.size w w'):vN w' g A n c z:=⟨h.1.below hb,h.2⟩
def xu (W:World) (z:Int) (e:Ending) (w':World):Prop:=∃ v,e=.returned v/\kW w' v z/\Below W.heap.size W w'
theorem kW.below {w w':World} {v:Value} {z:Int} (h:kW w v z) (hb:Below w.heap.size w w'):kW w' v z:=by
 obtain⟨u,e,h⟩:=h
 exact⟨u,e,h.below hb⟩
theorem o9.below {w w':World} {g:Bool} {A:Option Addr} {n c:Nat} {z:Int} (h:o9 w g A n c z) (hb:Below w.heap.size w w'):o9 w' g A n c z:=⟨h.1.below hb,h.2⟩
theorem rY (d:Bool) (w:World):
  Calls Tryz.prog 77 #[.bool d] w fun e w'=>∃ b,e=.returned (.func (.func 123) #[] #[.pointer (some ⟨b,0,none⟩)])/\w'.cell? ⟨b,0,none⟩=some (.bool d)/\b<w'.heap.size/\w.heap.size<=b/\Below w.heap.size w w':=by
 go_enter Tryz.func77,Tryz.ntmps77
 go_wp2
 go_ret
 exact⟨w.heap.size,rfl,by simp,by simp,Fm _,(Gp _ _).alloc (Fm _) _⟩
theorem yq (d g:Bool) (A:Option Addr) (n c b:Nat) (z:Int) (w:World) (h:vN w g A n c z) (hb:b<w.heap.size) (hc:w.cell? ⟨b,0,none⟩=some (.bool d)):
  Calls Tryz.prog 123 #[.agg #[.bool g,.slice A n c],.pointer (some ⟨b,0,none⟩)] w fun e w'=>e=.returned (.int .i64 (Z.qK (if d then -z else z)))/\Below w.heap.size w w':=by
 have hC:=Gn fun(W:World) (q:AX W A n c z.natAbs)=>zW q (show AX W none 0 0 0 from⟨[],aQ.dI _ _,rfl,Fm _,by unfold maxLen;omega,by omega⟩)
 obtain⟨V,hs⟩:=h
 have V:=Gn (V.below ((Gp _ _).alloc (Fm _) (Obj.cells #[.bool g,.slice A n c] 47)))
 have hB:=qW.new w g A n c
 have I:Below w.heap.size w (w.alloc (Obj.cells #[.bool g,.slice A n c] 47)):=(Gp _ _).alloc (Fm _) _
 have Q:(w.alloc (Obj.cells #[.bool g,.slice A n c] 47)).heap.size=w.heap.size+1:=by simp
 obtain⟨r,HR⟩:∃ r,Hid (r=Z.qK (if d then -z else z)):=⟨_,rfl⟩
 rw[<-HR.out]
 obtain⟨k,HK⟩:∃ k,Hid (M.di z.natAbs 0=k):=⟨_,rfl⟩
 rw[HK.out] at hC
 have J:(k=0/\r=0)\/(k≠0/\(g != d)=true/\r= -1)\/(k≠0/\(g != d)=false/\r=1):=by
  rw[HR.out,<-HK.out]
  rcases Hn z.natAbs with e|e
  ·left
   rw[e]
   obtain rfl:z=0:=by omega
   cases d <;> exact⟨rfl,rfl⟩
  ·rw[M.hH e]
   right
   revert hs
   cases g <;> cases d <;> simp only[Z.tk,Z.kx,Bool.false_eq_true,Hy,if_false] <;> intro hs
   ·exact .inr ⟨by omega,rfl,Z.oK (by omega)⟩
   ·exact .inl ⟨by omega,rfl,Z.ig (by omega)⟩
   ·exact .inl ⟨by omega,rfl,Z.ig (by omega)⟩
   ·exact .inr ⟨by omega,rfl,Z.oK (by omega)⟩
 rcases J with⟨rfl,rfl⟩|⟨hk,O,rfl⟩|⟨hk,O,rfl⟩
 ·go_enter Tryz.func123,Tryz.ntmps123
  go_wp2_with fail
  refine(hC.out _ V.out).mono ?_
  rintro e X ⟨rfl,U⟩
  have L:Below w.heap.size w X:=I.trans (U.mono (by omega))
  clear hB I Q
  go_wp2_with fail
  go_ret
  exact⟨rfl,L⟩
 all_goals
  clear hs HR HK
  revert O
  cases g <;> cases d <;> intro O <;> first
  |exact absurd O (by decide)
  |clear O
   go_enter Tryz.func123,Tryz.ntmps123
   go_wp2_with fail
   refine(hC.out _ V.out).mono ?_
   rintro e X ⟨rfl,U⟩
   have L:Below w.heap.size w X:=I.trans (U.mono (by omega))
   obtain⟨x0,x1,x2,x3⟩:=hB.below U (by omega)
   have y0:=L.cell (p:=⟨b,0,none⟩) hb
   rw[hc] at y0
   have y1:b<X.heap.size:=Fp hb L.size
   clear hB I Q
   go_wp2_with fail
   go_ret
   exact⟨rfl,L⟩
theorem xq (g:Bool) (A:Option Addr) (n c:Nat) (z:Int) (w:World) (h:vN w g A n c z):
  Calls Tryz.prog 106 #[.agg #[.bool g,.slice A n c]] w fun e w'=>e=.returned (.int .i64 (Z.qK z))/\Below w.heap.size w w':=by
 have hT:=Gn fun(W:World)=>rY false W
 have r:=Gn fun(b:Nat) (W:World) (L:W.cell? ⟨w.heap.size,0,none⟩=some (.bool g)/\W.cell? ⟨w.heap.size,1,none⟩=some (.slice A n c)/\w.heap.size<W.heap.size/\Below w.heap.size w W) (O:b<W.heap.size) (Q:W.cell? ⟨b,0,none⟩=some (.bool false))=>yq false g A n c b z W (h.below L.2.2.2) O Q
 clear h
 have I:Below w.heap.size w (w.alloc (Obj.cells #[.bool g,.slice A n c] 47)).drew:=((Gp _ _).alloc (Fm _) _).drew
 go_enter Tryz.func106,Tryz.ntmps106
 go_wp2_with fail
 go_region_held3 (fun w'=>w'.cell? ⟨w.heap.size,0,none⟩=some (.bool g)/\w'.cell? ⟨w.heap.size,1,none⟩=some (.slice A n c)/\w.heap.size<w'.heap.size/\Below w.heap.size w w')
  (first|exact Dt (by assumption) (by assumption)|exact⟨by simp,by simp,by simp,by assumption⟩)
  (first|(go_at_call 77;refine(hT.out _).mono ?_;rintro e X ⟨b,rfl,t1,t2,t3,U⟩)|(go_at_call 123;refine(r.out _ _ ?_ ?_ ?_).mono ?_;assumption;assumption;assumption;rintro e w2 ⟨rfl,V⟩))
 rename_i J
 go_wp2_with fail
 go_ret
 exact⟨rfl,J.2.2.2⟩
def Room (w:World) (R:Nat):Prop:=∃ g A n c,qW w R g A n c
theorem Room.new (w:World) (g:Bool) (A:Option Addr) (n c:Nat):Room (w.alloc (.cells #[.bool g,.slice A n c] 47)) w.heap.size:=⟨_,_,_,_,qW.new w g A n c⟩
abbrev World.room (w:World) (R:Nat) (x u:Value):World:=(w.setCell ⟨R,0,none⟩ x).setCell ⟨R,1,none⟩ u
theorem pD (w:World) (R:Nat) (x u:Value) {p:Addr} (h:p.block≠R):(World.room w R x u).cell? p=w.cell? p:=by
 have r:(w.setCell ⟨R,0,none⟩ x).heap[p.block]?=w.heap[p.block]?:=Fs w ⟨R,0,none⟩ x p.block h
 have I:(World.room w R x u).heap[p.block]?=(w.setCell ⟨R,0,none⟩ x).heap[p.block]?:=Fs _ ⟨R,1,none⟩ u p.block h
 exact Fu (I.trans r)
theorem gX (w:World) (R:Nat) (x u:Value):(World.room w R x u).heap.size=w.heap.size:=by simp[World.room,World.setCell]
theorem wS {w:World} {R:Nat} {x u v:Value} {N:Nat} (h:Num w v N) (r:Room w R):Num (World.room w R x u) v N:=by
 obtain⟨A,n,c,l,rfl,⟨O,Q,U⟩,V,X,Z⟩:=h
 obtain⟨g,A',n',c',J,L,r2,r3⟩:=r
 refine⟨A,n,c,l,rfl,⟨O,Q,fun hn=>?_⟩,V,X,Z⟩
 obtain⟨b,off,e,hb,hc⟩:=U hn
 refine⟨b,off,e,by rw[gX];exact hb,fun j I=>?_⟩
 have I:=hc j I
 rw[Hz _ _ _ _ (fun e=>by rw[e] at L;rw[L] at I;cases I),Hz _ _ _ _ (fun e=>by rw[e] at J;rw[J] at I;cases I)]
 exact I
theorem pr {w:World} {R b:Nat} {x u:Value} {g:Bool} {A:Option Addr} {n c:Nat} (h:qW w b g A n c) (r:b≠R):qW (World.room w R x u) b g A n c:=
 ⟨(pD w R x u (p:=⟨b,0,none⟩) r).trans h.c0,(pD w R x u (p:=⟨b,1,none⟩) r).trans h.c1,by rw[gX];exact h.lt,fun i=>by simp[World.room,h.fr i]⟩
theorem vQ {w:World} {R b:Nat} {x:Bool} {A:Option Addr} {n c:Nat} (h:Room w b) (r:Room w R):Room (World.room w R (.bool x) (.slice A n c)) b:=by
 by_cases e:b=R
 ·subst e
  obtain⟨g,A',n',I,J,L,O,Q⟩:=r
  refine⟨x,A,n,c,?_,?_,by rw[gX];exact O,fun i=>by simp[World.room,Q i]⟩
  ·rw[Hz _ _ _ _ (fun e=>by injection e with _ e;omega)]
   exact World.cell?_setCell_same _ _ _ J
  ·exact World.cell?_setCell_same _ _ _ ((Hz _ _ _ _ (fun e=>by injection e with _ e;omega)).trans L)
 ·obtain⟨g,A',n',I,h⟩:=h
  exact⟨g,A',n',I,pr h e⟩
theorem lR {B:Nat} {a w:World} (h:Below B a w) {R:Nat} (r:B<=R) (x u:Value):Below B a (World.room w R x u):=(h.setCell r x).setCell r u
structure aS (w:World) (g:Bool) (A:Option Addr) (n c k:Nat) (W:World):Prop where
 box:qW W w.heap.size g A n c
 room:∀ i,i<k->Room W (w.heap.size+1+i)
 fM:Below w.heap.size w W
theorem aS.below {w W J:World} {g:Bool} {A:Option Addr} {n c k:Nat} (h:aS w g A n c k W) (I:Below W.heap.size W J):aS w g A n c k J:=
 ⟨h.box.below I h.box.lt,fun i hi=>by obtain⟨O,A',n',L,r⟩:=h.room i hi;exact⟨O,A',n',L,r.below I r.lt⟩,h.fM.trans (I.mono h.fM.size)⟩
theorem aS.s {w W:World} {g:Bool} {A:Option Addr} {n c k:Nat} (h:aS w g A n c k W):W.cell? ⟨w.heap.size,0,none⟩=some (.bool g)/\W.cell? ⟨w.heap.size,1,none⟩=some (.slice A n c)/\aS w g A n c k W:=⟨h.box.c0,h.box.c1,h⟩
theorem aS.keep {w W r:World} {g:Bool} {A:Option Addr} {n c k:Nat} (I:Below W.heap.size W r) (h:W.cell? ⟨w.heap.size,0,none⟩=some (.bool g)/\W.cell? ⟨w.heap.size,1,none⟩=some (.slice A n c)/\aS w g A n c k W):r.cell? ⟨w.heap.size,0,none⟩=some (.bool g)/\r.cell? ⟨w.heap.size,1,none⟩=some (.slice A n c)/\aS w g A n c k r:=(h.2.2.below I).s
theorem aS.zero (w:World) (g:Bool) (A:Option Addr) (n c:Nat):aS w g A n c 0 (w.alloc (.cells #[.bool g,.slice A n c] 47)):=
 ⟨qW.new w g A n c,fun i hi=>absurd hi (by omega),(Gp _ _).alloc (Fm _) _⟩
theorem aS.one (w:World) (g:Bool) (A:Option Addr) (n c:Nat):aS w g A n c 1 ((w.alloc (.cells #[.bool g,.slice A n c] 47)).alloc (.cells #[.bool false,.slice none 0 0] 47)):=by
 have h:=(aS.zero w g A n c).below ((Gp _ _).alloc (Fm _) (.cells #[.bool false,.slice none 0 0] 47))
 refine⟨h.box,fun i hi=>?_,h.fM⟩
 obtain rfl:i=0:=by omega
 have:=Room.new (w.alloc (.cells #[.bool g,.slice A n c] 47)) false none 0 0
 simpa using this
theorem aS.drew {w W:World} {g:Bool} {A:Option Addr} {n c k:Nat} (h:aS w g A n c k W):aS w g A n c k W.drew:=h.below (Gp _ _).drew
theorem aS.set {w W:World} {g:Bool} {A:Option Addr} {n c k:Nat} (h:aS w g A n c k W) {i:Nat} (hi:i<k) {x:Bool} {A':Option Addr} {n' r:Nat}:aS w g A n c k (World.room W (w.heap.size+1+i) (.bool x) (.slice A' n' r)):=
 ⟨pr h.box (by omega),fun j I=>vQ (h.room j I) (h.room i hi),lR h.fM (by omega) _ _⟩
theorem aS.Ew {w W:World} {g:Bool} {A:Option Addr} {n c:Nat} {x:Bool} {A':Option Addr} {n' r:Nat} (h:W.cell? ⟨w.heap.size,0,none⟩=some (.bool g)/\W.cell? ⟨w.heap.size,1,none⟩=some (.slice A n c)/\aS w g A n c 1 W):(World.room W (w.heap.size+1) (.bool x) (.slice A' n' r)).cell? ⟨w.heap.size,0,none⟩=some (.bool g)/\(World.room W (w.heap.size+1) (.bool x) (.slice A' n' r)).cell? ⟨w.heap.size,1,none⟩=some (.slice A n c)/\aS w g A n c 1 (World.room W (w.heap.size+1) (.bool x) (.slice A' n' r)):=(h.2.2.set (i:=0) (by omega)).s
structure nL (w:World) (g:Bool) (A:Option Addr) (n c:Nat) (h:Bool) (B:Option Addr) (m d k:Nat) (W:World):Prop where
 box:qW W w.heap.size g A n c
 Cw:qW W (w.heap.size+1) h B m d
 room:∀ i,i<k->Room W (w.heap.size+2+i)
 fM:Below w.heap.size w W
theorem nL.below {w W J:World} {g h:Bool} {A B:Option Addr} {n c m d k:Nat} (q:nL w g A n c h B m d k W) (I:Below W.heap.size W J):nL w g A n c h B m d k J:=
 ⟨q.box.below I q.box.lt,q.Cw.below I q.Cw.lt,fun i hi=>by obtain⟨O,A',n',L,r⟩:=q.room i hi;exact⟨O,A',n',L,r.below I r.lt⟩,q.fM.trans (I.mono q.fM.size)⟩
theorem nL.zero (w:World) (g h:Bool) (A B:Option Addr) (n c m d:Nat):nL w g A n c h B m d 0 ((w.alloc (.cells #[.bool g,.slice A n c] 47)).alloc (.cells #[.bool h,.slice B m d] 47)):=by
 have q:=(aS.zero w g A n c).below ((Gp _ _).alloc (Fm _) (.cells #[.bool h,.slice B m d] 47))
 refine⟨q.box,?_,fun i hi=>absurd hi (by omega),q.fM⟩
 have:=qW.new (w.alloc (.cells #[.bool g,.slice A n c] 47)) h B m d
 simpa using this
theorem eB {w:World} {R:Nat} {x u:Value} (r:Room w R):(World.room w R x u).cell? ⟨R,0,none⟩=some x/\(World.room w R x u).cell? ⟨R,1,none⟩=some u/\R<(World.room w R x u).heap.size:=by
 obtain⟨g,A',n',L,h,I,J,O⟩:=r
 refine⟨?_,?_,by rw[gX];exact J⟩
 ·rw[Hz _ _ _ _ (fun e=>by injection e with _ e;omega)]
  exact World.cell?_setCell_same _ _ _ h
 ·exact World.cell?_setCell_same _ _ _ ((Hz _ _ _ _ (fun e=>by injection e with _ e;omega)).trans I)
theorem fF {w:World} {A:Option Addr} {n c N:Nat} (h:Num w (.slice A n c) N):n=0↔N=0:=by
 obtain⟨A',n',J,l,e,r,U,I,V,X⟩:=h
 obtain⟨rfl,rfl,rfl⟩:A=A'/\n=n'/\c=J:=by injection e with L O Q;exact⟨L,O,Q⟩
 constructor
 ·intro e
  have hl:l=[]:=FV (by rw[r.1];exact e)
  rw[<-I,hl,M.aW]
 ·intro e
  have:=M.cS.eq_nil U (by rw[I];exact e)
  rw[<-r.1,this];rfl
structure EF (W:World) (b:Nat) (g:Bool) (A:Option Addr) (n c:Nat) (z:Int):Prop where
 box:qW W b g A n c
 num:o9 W g A n c z
structure Loc where
 b:Nat
 g:Bool
 A:Option Addr
 n:Nat
 c:Nat
 z:Int
def HL (w:World) (L M:List Loc) (W:World):Prop:=(∀ x∈L,EF W x.b x.g x.A x.n x.c x.z)/\(∀ x∈M,kW W (.agg #[.bool x.g,.slice x.A x.n x.c]) x.z)/\Below w.heap.size w W
end Go.Proofs.YtdbgiijdgedggaaGreatDoor
namespace Go.Proofs.YtdbgiijdgedggaaGreatDoor
open Go.RowKit Go.ChangeShapes Go.WideShapes Go.Joins
theorem gZ {w W:World} {R:Nat} {z:Int} {g:Bool} {A:Option Addr} {n c:Nat} (m:Num W (.slice A n c) z.natAbs) (I:decide (z<0)=g) (r:Room W R) (hb:Below w.heap.size w W) (h:w.heap.size<=R):
  xu w z (.returned (.agg #[.bool g,.slice A n c])) (World.room W R (.bool g) (.slice A n c)):=by
 subst I
 exact⟨_,rfl,⟨_,rfl,wS m r⟩,lR hb h _ _⟩
theorem nP (g:Bool) (A:Option Addr) (n c:Nat) (z:Int) (w:World) (h:o9 w g A n c z) (hn:n<=900000):
  Calls Tryz.prog 32 #[.agg #[.bool g,.slice A n c]] w (xu w z):=by
 have HN:=Gn fun(W:World) (q:aS w g A n c 1 W)=>vj (h.below q.fM).1 hn
 have X:=aS.one w g A n c
 have V:=Gn h.2
 clear h hn
 cases g with
 |false=>
  have hz:=V.out
  rw[Z.kx] at hz
  by_cases h0:z.natAbs=0
  ·have O:=Gn h0
   have HE:Hid (decide (z<0)=false):=Gq (by omega)
   clear h0 hz V
   go_enter Tryz.func32,Tryz.ntmps32
   go_wp2_with fail
   refine(HN.out _ X).mono ?_
   rintro e w1 ⟨v1,rfl,I,b1⟩
   obtain⟨A1,L,c1,l1,rfl,Q⟩:=id I
   have hl:=fF I
   have ah:L<=9223372036854775807:=Fo Q.2.2.2.1 Q.2.2.2.2
   have J:=X.below b1
   have ad:L=0:=hl.2 O.out
   subst ad
   clear hl Q b1 X HN
   have U:Room w1 (w.heap.size+1):=J.room 0 (by omega)
   obtain⟨k0,k1,_⟩:=eB (x:=.bool false) (u:=.slice A1 0 c1) U
   unfold World.room at k0 k1
   have r:=Gn (gZ (g:=false) I HE.out U J.fM (by omega))
   obtain⟨x0,x1,x2,_⟩:=J.box
   obtain⟨xr,yr,zr,qr,⟨f0,f1,f2,f3⟩⟩:=U
   have f4:=f3 0
   have f5:=f3 1
   clear f3 J I
   go_wp2_with fail
   exact GD (v:=.agg #[.bool false,.slice A1 0 c1]) (by simp[results,Tryz.results32,go_sem,k0,k1]) rfl r.out
  ·have O:=Gn h0
   have HE:Hid (decide (z<0)=false):=Gq (by omega)
   clear h0 hz V
   go_enter Tryz.func32,Tryz.ntmps32
   go_wp2_with fail
   refine(HN.out _ X).mono ?_
   rintro e w1 ⟨v1,rfl,I,b1⟩
   obtain⟨A1,L,c1,l1,rfl,Q⟩:=id I
   have hl:=fF I
   have ah:L<=9223372036854775807:=Fo Q.2.2.2.1 Q.2.2.2.2
   have J:=X.below b1
   have ad:0<L:=H8 fun e=>O.out (hl.1 e)

   clear hl Q b1 X HN
   have U:Room w1 (w.heap.size+1):=J.room 0 (by omega)
   obtain⟨k0,k1,_⟩:=eB (x:=.bool false) (u:=.slice A1 L c1) U
   unfold World.room at k0 k1
   have r:=Gn (gZ (g:=false) I HE.out U J.fM (by omega))
   obtain⟨x0,x1,x2,_⟩:=J.box
   obtain⟨xr,yr,zr,qr,⟨f0,f1,f2,f3⟩⟩:=U
   have f4:=f3 0
   have f5:=f3 1
   clear f3 J I
   go_wp2_with fail
   exact GD (v:=.agg #[.bool false,.slice A1 L c1]) (by simp[results,Tryz.results32,go_sem,k0,k1]) rfl r.out
 |true=>
  have hz:=V.out
  rw[Z.tk] at hz
  by_cases h0:z.natAbs=0
  ·have O:=Gn h0
   have HE:Hid (decide (z<0)=false):=Gq (by omega)
   clear h0 hz V
   go_enter Tryz.func32,Tryz.ntmps32
   go_wp2_with fail
   refine(HN.out _ X).mono ?_
   rintro e w1 ⟨v1,rfl,I,b1⟩
   obtain⟨A1,L,c1,l1,rfl,Q⟩:=id I
   have hl:=fF I
   have ah:L<=9223372036854775807:=Fo Q.2.2.2.1 Q.2.2.2.2
   have J:=X.below b1
   have ad:L=0:=hl.2 O.out
   subst ad
   clear hl Q b1 X HN
   have U:Room w1 (w.heap.size+1):=J.room 0 (by omega)
   obtain⟨k0,k1,_⟩:=eB (x:=.bool false) (u:=.slice A1 0 c1) U
   unfold World.room at k0 k1
   have r:=Gn (gZ (g:=false) I HE.out U J.fM (by omega))
   obtain⟨x0,x1,x2,_⟩:=J.box
   obtain⟨xr,yr,zr,qr,⟨f0,f1,f2,f3⟩⟩:=U
   have f4:=f3 0
   have f5:=f3 1
   clear f3 J I
   go_wp2_with fail
   exact GD (v:=.agg #[.bool false,.slice A1 0 c1]) (by simp[results,Tryz.results32,go_sem,k0,k1]) rfl r.out
  ·have O:=Gn h0
   have HE:Hid (decide (z<0)=true):=FW (by omega)
   clear h0 hz V
   go_enter Tryz.func32,Tryz.ntmps32
   go_wp2_with fail
   refine(HN.out _ X).mono ?_
   rintro e w1 ⟨v1,rfl,I,b1⟩
   obtain⟨A1,L,c1,l1,rfl,Q⟩:=id I
   have hl:=fF I
   have ah:L<=9223372036854775807:=Fo Q.2.2.2.1 Q.2.2.2.2
   have J:=X.below b1
   have ad:0<L:=H8 fun e=>O.out (hl.1 e)

   clear hl Q b1 X HN
   have U:Room w1 (w.heap.size+1):=J.room 0 (by omega)
   obtain⟨k0,k1,_⟩:=eB (x:=.bool true) (u:=.slice A1 L c1) U
   unfold World.room at k0 k1
   have r:=Gn (gZ (g:=true) I HE.out U J.fM (by omega))
   obtain⟨x0,x1,x2,_⟩:=J.box
   obtain⟨xr,yr,zr,qr,⟨f0,f1,f2,f3⟩⟩:=U
   have f4:=f3 0
   have f5:=f3 1
   clear f3 J I
   go_wp2_with fail
   exact GD (v:=.agg #[.bool true,.slice A1 L c1]) (by simp[results,Tryz.results32,go_sem,k0,k1]) rfl r.out
theorem kW.form {w:World} {v:Value} {z:Int} (h:kW w v z):∃ g A n c,v=.agg #[.bool g,.slice A n c]/\Num w (.slice A n c) z.natAbs/\decide (z<0)=g:=by
 obtain⟨u,rfl,h⟩:=h
 obtain⟨A,n,c,l,rfl,h⟩:=h
 exact⟨_,A,n,c,rfl,⟨A,n,c,l,rfl,h⟩,rfl⟩
theorem Bj (g:Bool) (A:Option Addr) (n c:Nat) (z:Int) (w:World) (h:o9 w g A n c z) (hn:n<=900000):
  Calls Tryz.prog 143 #[.agg #[.bool g,.slice A n c]] w fun e w'=>e=.returned (.int .i64 (Z.qK z))/\Below w.heap.size w w':=by
 have HN:=Gn fun(W:World) (q:aS w g A n c 0 W)=>nP g A n c z W (h.below q.fM) hn
 have I:=aS.zero w g A n c
 clear h hn
 rcases Z.jR z with⟨O,Q⟩|⟨O,Q⟩|⟨O,Q⟩
 ·rw[Q]
  have hz:=Gn O
  clear O Q
  go_enter Tryz.func143,Tryz.ntmps143
  go_wp2_with fail
  refine(HN.out _ I).mono ?_
  rintro e w1 ⟨v1,rfl,n1,J⟩
  obtain⟨g9,U,L,c9,rfl,m9,r⟩:=n1.form
  obtain rfl:g9=true:=by rw[<-r];exact FW (by have:=hz.out;omega)
  have hl:0<L:=H8 fun e=>(by have:=hz.out;have:=(fF m9).1 e;omega)
  have ad:L<=9223372036854775807:=by obtain⟨_,_,_,_,e,_,_,_,p1,p2⟩:=m9;injection e with e1 X e3;subst X e3;exact Fo p1 p2

  have V:=(I.below J).fM.alloc (I.below J).fM.size (.cells #[.bool true,.slice U L c9] 47)
  clear I J m9 r
  go_wp2_with fail
  go_ret
  exact⟨rfl,V⟩
 ·rw[Q]
  have hz:=Gn O
  clear O Q
  go_enter Tryz.func143,Tryz.ntmps143
  go_wp2_with fail
  refine(HN.out _ I).mono ?_
  rintro e w1 ⟨v1,rfl,n1,J⟩
  obtain⟨g9,U,L,c9,rfl,m9,r⟩:=n1.form
  obtain rfl:g9=false:=by rw[<-r];exact Gq (by have:=hz.out;omega)
  have hl:L=0:=(fF m9).2 (by have:=hz.out;omega)
  have ad:L<=9223372036854775807:=by obtain⟨_,_,_,_,e,_,_,_,p1,p2⟩:=m9;injection e with e1 X e3;subst X e3;exact Fo p1 p2
  subst hl
  have V:=(I.below J).fM.alloc (I.below J).fM.size (.cells #[.bool false,.slice U 0 c9] 47)
  clear I J m9 r
  go_wp2_with fail
  go_ret
  exact⟨rfl,V⟩
 ·rw[Q]
  have hz:=Gn O
  clear O Q
  go_enter Tryz.func143,Tryz.ntmps143
  go_wp2_with fail
  refine(HN.out _ I).mono ?_
  rintro e w1 ⟨v1,rfl,n1,J⟩
  obtain⟨g9,U,L,c9,rfl,m9,r⟩:=n1.form
  obtain rfl:g9=false:=by rw[<-r];exact Gq (by have:=hz.out;omega)
  have hl:0<L:=H8 fun e=>(by have:=hz.out;have:=(fF m9).1 e;omega)
  have ad:L<=9223372036854775807:=by obtain⟨_,_,_,_,e,_,_,_,p1,p2⟩:=m9;injection e with e1 X e3;subst X e3;exact Fo p1 p2

  have V:=(I.below J).fM.alloc (I.below J).fM.size (.cells #[.bool false,.slice U L c9] 47)
  clear I J m9 r
  go_wp2_with fail
  go_ret
  exact⟨rfl,V⟩
theorem AU {w:World} {A B:Option Addr} {n m c d N K:Nat} (h:Num w (.slice A n c) N) (k:Num w (.slice B m d) K):
  Calls Tryz.prog 78 #[.slice A n c,.slice B m d] w fun e w'=>e=.returned (.bool (decide (N=K)))/\Below w.heap.size w w':=by
 obtain⟨A',n',X,l,e,r,O,Q,h4,h5⟩:=h
 obtain⟨B',m',d',l',Z,U,k2,V,k4,k5⟩:=k
 obtain⟨rfl,rfl,rfl⟩:A=A'/\n=n'/\c=X:=by injection e with I J L;exact⟨I,J,L⟩
 obtain⟨rfl,rfl,rfl⟩:B=B'/\m=m'/\d=d':=by injection Z with I J L;exact⟨I,J,L⟩
 have:=yY A B n m c d l l' w r U (by omega) (by omega)
 have he:decide (l=l')=decide (N=K):=by
  refine decide_eq_decide.2 ⟨fun e=>by rw[<-Q,<-V,e],fun e=>M.uniq r.2.1 U.2.1 O k2 (by rw[Q,V,e])⟩
 rw[he] at this
 exact this.mono fun _ _ ⟨r,j,O⟩=>⟨r,by rw[O];exact below_drewN (Gp _ _) j⟩
theorem Aj {u v:Value} {z y:Int} {w:World} (h:kW w u z) (k:kW w v y):
  Calls Tryz.prog 34 #[u,v] w fun e w'=>e=.returned (.bool (decide (z=y)))/\Below w.heap.size w w':=by
 obtain⟨u',rfl,h⟩:=h
 obtain⟨v',rfl,k⟩:=k
 obtain⟨A,n,c,_,rfl,_⟩:=id h
 obtain⟨B,m,d,_,rfl,_⟩:=id k
 have J:=nL.zero w (decide (z<0)) (decide (y<0)) A B n c m d
 have L:=Gn (AU (h.below J.fM) (k.below J.fM))
 obtain⟨g,Q⟩:∃ g,Hid (decide (z<0)=g):=⟨_,rfl⟩
 obtain⟨g',I⟩:∃ g,Hid (decide (y<0)=g):=⟨_,rfl⟩
 obtain⟨s,V⟩:∃ s,Hid (decide (z.natAbs=y.natAbs)=s):=⟨_,rfl⟩
 obtain⟨r,U⟩:∃ r,Hid (decide (z=y)=r):=⟨_,rfl⟩
 have X:Hid (r=(s&&(g == g'))):=by
  rw[<-Q.out,<-I.out,<-V.out,<-U.out]
  show decide (z=y)=(decide (z.natAbs=y.natAbs)&&(decide (z<0) == decide (y<0)))
  by_cases e:z=y
  ·subst e;simp
  ·rw[Gq e]
   by_cases e2:z.natAbs=y.natAbs
   ·rw[FW e2]
    have:decide (z<0)≠decide (y<0):=fun h=>by
     have h:=decide_eq_decide.1 h
     omega
    simpa using this
   ·rw[Gq e2];rfl
 rw[Q.out,I.out] at J L ⊢
 rw[V.out] at L
 rw[U.out]
 have e:=X.out
 clear h k Q I V U X
 go_enter Tryz.func34,Tryz.ntmps34
 go_wp2_with fail
 refine L.out.mono ?_
 rintro e w1 ⟨rfl,Z⟩
 have O:=J.below Z
 have bl:=O.fM
 obtain⟨x0,x1,x2,_⟩:=O.box
 obtain⟨y0,y1,y2,_⟩:=O.Cw
 clear Z J O L
 cases s <;> cases g <;> cases g' <;> (simp at e;subst e;go_wp2_with fail;go_ret;exact⟨rfl,bl⟩)
structure bJ where
 A:Option Addr
 n:Nat
 c:Nat
 g:Bool
 B:Option Addr
 m:Nat
 d:Nat
 C:Option Addr
 p:Nat
 f:Nat
abbrev bJ.cells (P:bJ) (x:Nd):Array Value:=#[.int .i64 x.op,.int .i64 x.sort,.slice P.A P.n P.c,.string x.name,.bool P.g,.slice P.B P.m P.d,.slice P.C P.p P.f]
def Gs (G:Nat->Prop) (A:Option Addr) (n:Nat):Prop:=∀ a,A=some a->0<n->G a.block
theorem Gs.zero (G:Nat->Prop) (A:Option Addr):Gs G A 0:=fun _ _ h=>absurd h (by decide)
theorem Gs.mono {G G':Nat->Prop} {A:Option Addr} {n:Nat} (h:Gs G A n) (r:∀ k,G k->G' k):Gs G' A n:=fun a e hn=>r _ (h a e hn)
theorem aH.turn {F G:Nat->Prop} {w w':World} {A:Option Addr} {n:Nat} {l:List Int} (h:aH w A n l) (hT:ae F w w') (J:Gs G A n) (I:∀ k,G k->¬F k):aH w' A n l:=
 ⟨h.len,fun hn=>by
  obtain⟨b,off,e,r,hc⟩:=h.at_ hn
  have hb:=I _ (J _ e hn)
  exact⟨b,off,e,Fp r hT.size,fun i x L=>(hT.cell (p:=⟨b,off+i,none⟩) r hb).trans (hc i x L)⟩⟩
theorem cd.turn {F G:Nat->Prop} {w w':World} {A:Option Addr} {n:Nat} {l:List (Int×Int)} (h:cd w A n l) (hT:ae F w w') (L:Gs G A n) (J:∀ k,G k->¬F k):cd w' A n l:=
 ⟨h.len,fun hn=>by
  obtain⟨b,off,e,r,hc⟩:=h.at_ hn
  have hb:=J _ (L _ e hn)
  exact⟨b,off,e,Fp r hT.size,fun i x I=>⟨(hT.cell (p:=⟨b,off+i*2,none⟩) r hb).trans (hc i x I).1,(hT.cell (p:=⟨b,off+i*2+1,none⟩) r hb).trans (hc i x I).2⟩⟩⟩
theorem o9.turn {F G:Nat->Prop} {w w':World} {g:Bool} {A:Option Addr} {n c:Nat} {z:Int} (h:o9 w g A n c z) (hT:ae F w w') (X:Gs G A n) (V:∀ k,G k->¬F k):o9 w' g A n c z:=by
 obtain⟨⟨l,I,J,L,O,Q⟩,U⟩:=h
 refine⟨⟨l,⟨I.1,I.2.1,fun hn=>?_⟩,J,L,O,Q⟩,U⟩
 obtain⟨b,off,e,r,hc⟩:=I.2.2 hn
 have hb:=V _ (X _ e hn)
 exact⟨b,off,e,Fp r hT.size,fun j Z=>(hT.cell (p:=⟨b,off+j,none⟩) r hb).trans (hc j Z)⟩
structure dk (w:World) (G:Nat->Prop) (P:bJ) (x:Nd):Prop where
 a:aH w P.A P.n x.a
 num:o9 w P.g P.B P.m P.d (x.num:Int)
 str:cd w P.C P.p x.str
 few:P.n<=1000000/\P.m<=2000/\P.p<=1000000
 g:Gs G P.A P.n/\Gs G P.B P.m/\Gs G P.C P.p
theorem dk.below {w w':World} {G:Nat->Prop} {P:bJ} {x:Nd} (h:dk w G P x) (hb:Below w.heap.size w w'):dk w' G P x:=⟨h.a.below hb,h.num.below hb,h.str.below hb,h.few,h.g⟩
theorem dk.mono {w:World} {G G':Nat->Prop} {P:bJ} {x:Nd} (h:dk w G P x) (r:∀ k,G k->G' k):dk w G' P x:=⟨h.a,h.num,h.str,h.few,h.g.1.mono r,h.g.2.1.mono r,h.g.2.2.mono r⟩
theorem dk.turn {F G:Nat->Prop} {w w':World} {P:bJ} {x:Nd} (h:dk w G P x) (hT:ae F w w') (r:∀ k,G k->¬F k):dk w' G P x:=⟨h.a.turn hT h.g.1 r,h.num.turn hT h.g.2.1 r,h.str.turn hT h.g.2.2 r,h.few,h.g⟩
noncomputable def Nd.same (x y:Nd):Bool:=@decide (x=y) (Classical.propDecidable _)
theorem Nd.jj {x y:Nd}:Nd.same x y=true↔x=y:=by unfold Nd.same;exact @decide_eq_true_iff _ (Classical.propDecidable _)
abbrev vq (w:World) (V1 V2:Array Value) (W:World):Prop:=aa W w.heap.size 50 V1/\aa W (w.heap.size+1) 50 V2/\Below w.heap.size w W
theorem vq.below {w W J:World} {r I:Array Value} (q:vq w r I W) (h:Below W.heap.size W J):vq w r I J:=
 ⟨(h.block _ q.1.lt).trans q.1,(h.block _ q.2.1.lt).trans q.2.1,q.2.2.trans (h.mono q.2.2.size)⟩
abbrev BV (w:World) (P R:bJ) (x y:Nd) (W:World):Prop:=W.cell? ⟨w.heap.size,4,none⟩=some (.bool P.g)/\W.cell? ⟨w.heap.size,5,none⟩=some (.slice P.B P.m P.d)/\W.cell? ⟨w.heap.size+1,4,none⟩=some (.bool R.g)/\W.cell? ⟨w.heap.size+1,5,none⟩=some (.slice R.B R.m R.d)/\vq w (P.cells x) (R.cells y) W
theorem BV.of {w W:World} {P R:bJ} {x y:Nd} (q:vq w (P.cells x) (R.cells y) W):BV w P R x y W:=
 ⟨by rw[q.1.cell];rfl,by rw[q.1.cell];rfl,by rw[q.2.1.cell];rfl,by rw[q.2.1.cell];rfl,q⟩
theorem BV.keep {w W h:World} {P R:bJ} {x y:Nd} (r:Below W.heap.size W h) (q:BV w P R x y W):BV w P R x y h:=BV.of (q.2.2.2.2.below r)
theorem xH (w:World) {G G':Nat->Prop} (P R:bJ) (x y:Nd) (h:dk w G P x) (h':dk w G' R y):
  Calls Tryz.prog 17 #[.agg (P.cells x),.agg (R.cells y)] w fun e w'=>e=.returned (.bool (Nd.same x y))/\Below w.heap.size w w':=by
 obtain⟨A,n,c,g,B,m,d,C,p,f⟩:=P
 obtain⟨A',n',L,I,B',m',d',J,O,f'⟩:=R
 obtain⟨X,ah⟩:∃ X,(w.alloc (.cells (bJ.cells ⟨A,n,c,g,B,m,d,C,p,f⟩ x) 50)).alloc (.cells (bJ.cells ⟨A',n',L,I,B',m',d',J,O,f'⟩ y) 50)=X:=⟨_,rfl⟩
 have q0:vq w (bJ.cells ⟨A,n,c,g,B,m,d,C,p,f⟩ x) (bJ.cells ⟨A',n',L,I,B',m',d',J,O,f'⟩ y) X:=by
  rw[<-ah]
  exact⟨(Fq _ _ _ (by simp)).trans (aa.new w _ _),by have:=aa.new (w.alloc (.cells (bJ.cells ⟨A,n,c,g,B,m,d,C,p,f⟩ x) 50)) 50 (bJ.cells ⟨A',n',L,I,B',m',d',J,O,f'⟩ y);rwa [H9] at this,((Gp _ w).alloc (Fm _) _).alloc (by simp) _⟩
 have H1:=Gn (BU X A n c x.a A' n' L y.a (h.a.below q0.2.2) (h'.a.below q0.2.2) (by have:=h.few.1;simp only at this;omega))
 have ad:Hid (∀ W Q,Below W.heap.size W Q->(W.cell? ⟨w.heap.size,4,none⟩=some (.bool g)/\W.cell? ⟨w.heap.size,5,none⟩=some (.slice B m d)/\W.cell? ⟨w.heap.size+1,4,none⟩=some (.bool I)/\W.cell? ⟨w.heap.size+1,5,none⟩=some (.slice B' m' d')/\vq w (bJ.cells ⟨A,n,c,g,B,m,d,C,p,f⟩ x) (bJ.cells ⟨A',n',L,I,B',m',d',J,O,f'⟩ y) W)->(Q.cell? ⟨w.heap.size,4,none⟩=some (.bool g)/\Q.cell? ⟨w.heap.size,5,none⟩=some (.slice B m d)/\Q.cell? ⟨w.heap.size+1,4,none⟩=some (.bool I)/\Q.cell? ⟨w.heap.size+1,5,none⟩=some (.slice B' m' d')/\vq w (bJ.cells ⟨A,n,c,g,B,m,d,C,p,f⟩ x) (bJ.cells ⟨A',n',L,I,B',m',d',J,O,f'⟩ y) Q)):=fun W Q hk q=>BV.keep (P:=⟨A,n,c,g,B,m,d,C,p,f⟩) (R:=⟨A',n',L,I,B',m',d',J,O,f'⟩) (x:=x) (y:=y) hk q
 have H2:=Gn fun W (q:W.cell? ⟨w.heap.size,4,none⟩=some (.bool g)/\W.cell? ⟨w.heap.size,5,none⟩=some (.slice B m d)/\W.cell? ⟨w.heap.size+1,4,none⟩=some (.bool I)/\W.cell? ⟨w.heap.size+1,5,none⟩=some (.slice B' m' d')/\vq w (bJ.cells ⟨A,n,c,g,B,m,d,C,p,f⟩ x) (bJ.cells ⟨A',n',L,I,B',m',d',J,O,f'⟩ y) W)=>nP g B m d (x.num:Int) W (h.num.below q.2.2.2.2.2.2) (by have:=h.few.2.1;simp only at this;omega)
 have H3:=Gn fun W (q:W.cell? ⟨w.heap.size,4,none⟩=some (.bool g)/\W.cell? ⟨w.heap.size,5,none⟩=some (.slice B m d)/\W.cell? ⟨w.heap.size+1,4,none⟩=some (.bool I)/\W.cell? ⟨w.heap.size+1,5,none⟩=some (.slice B' m' d')/\vq w (bJ.cells ⟨A,n,c,g,B,m,d,C,p,f⟩ x) (bJ.cells ⟨A',n',L,I,B',m',d',J,O,f'⟩ y) W)=>nP I B' m' d' (y.num:Int) W (h'.num.below q.2.2.2.2.2.2) (by have:=h'.few.2.1;simp only at this;omega)
 have H4:Hid (∀ W u v,kW W u (x.num:Int)->kW W v (y.num:Int)->Calls Tryz.prog 34 #[u,v] W fun e w'=>e=.returned (.bool (decide ((x.num:Int)=(y.num:Int))))/\Below W.heap.size W w'):=fun W u v hu hv=>Aj hu hv
 have H5:=Gn fun W (q:vq w (bJ.cells ⟨A,n,c,g,B,m,d,C,p,f⟩ x) (bJ.cells ⟨A',n',L,I,B',m',d',J,O,f'⟩ y) W)=>CM W C p f x.str J O f' y.str (h.str.below q.2.2) (h'.str.below q.2.2) (by have:=h.few.2.2;simp only at this;omega)
 obtain⟨r,hr⟩:∃ r,Nd.same x y=r:=⟨_,rfl⟩
 obtain⟨sA,hA⟩:∃ s,kK x.a y.a=s:=⟨_,rfl⟩
 obtain⟨sZ,hZ⟩:∃ s,decide ((x.num:Int)=(y.num:Int))=s:=⟨_,rfl⟩
 obtain⟨sT,hT⟩:∃ s,qH x.str y.str=s:=⟨_,rfl⟩
 obtain⟨sO,dO⟩:∃ s,(x.op == y.op)=s:=⟨_,rfl⟩
 obtain⟨sS,dS⟩:∃ s,(x.sort == y.sort)=s:=⟨_,rfl⟩
 obtain⟨sN,dN⟩:∃ s,(x.name.toList == y.name.toList)=s:=⟨_,rfl⟩
 have HE:Hid (r=(sA&&sZ&&sT&&sO&&sS&&sN)):=by
  rw[<-hr,<-hA,<-hZ,<-hT,<-dO,<-dS,<-dN]
  show Nd.same x y=_
  rw[Ia,Nd.jj]
  simp only[GY,Hu,Gw,kK,qH]
  constructor
  ·rintro rfl
   simp
  ·rintro⟨⟨⟨⟨⟨h1,h2⟩,h3⟩,h4⟩,h5⟩,h6⟩
   obtain⟨o,s,a,nm,k,t⟩:=x
   obtain⟨o',s',a',ba,k',t'⟩:=y
   simp only at h1 h2 h3 h4 h5 h6
   have h2:k=k':=by omega
   have h6:nm=ba:=by
    rw[GA,GA] at h6
    exact ByteArray.ext (Array.toList_inj.1 h6)
   subst h1 h2 h3 h4 h5 h6
   rfl
 rw[hr]
 rw[hA] at H1
 rw[hZ] at H4
 rw[hT] at H5
 have HQ:=Gn q0
 clear h h' hr hA hZ hT q0
 go_enter Tryz.func17,Tryz.ntmps17
 have ao:X.cell? ⟨w.heap.size,2,none⟩=some (.slice A n c):=by rw[HQ.out.1.cell];rfl
 have av:X.cell? ⟨w.heap.size+1,2,none⟩=some (.slice A' n' L):=by rw[HQ.out.2.1.cell];rfl
 go_wp2_with fail
 refine H1.out.mono ?_
 rintro e Q ⟨rfl,b1⟩
 have Q1:=Gn (HQ.out.below b1)
 have HS:Hid (Q.drew.cell? ⟨w.heap.size,4,none⟩=some (.bool g)/\Q.drew.cell? ⟨w.heap.size,5,none⟩=some (.slice B m d)/\Q.drew.cell? ⟨w.heap.size+1,4,none⟩=some (.bool I)/\Q.drew.cell? ⟨w.heap.size+1,5,none⟩=some (.slice B' m' d')/\vq w (bJ.cells ⟨A,n,c,g,B,m,d,C,p,f⟩ x) (bJ.cells ⟨A',n',L,I,B',m',d',J,O,f'⟩ y) Q.drew):=BV.of (P:=⟨A,n,c,g,B,m,d,C,p,f⟩) (R:=⟨A',n',L,I,B',m',d',J,O,f'⟩) (x:=x) (y:=y) (Q1.out.below ⟨rfl,rfl,rfl,Fm _,fun _ _=>rfl⟩)
 clear b1 HQ H1 ah Q1 ao av
 go_wp2_with fail
 go_region_held3 (fun W'=>W'.cell? ⟨w.heap.size,4,none⟩=some (.bool g)/\W'.cell? ⟨w.heap.size,5,none⟩=some (.slice B m d)/\W'.cell? ⟨w.heap.size+1,4,none⟩=some (.bool I)/\W'.cell? ⟨w.heap.size+1,5,none⟩=some (.slice B' m' d')/\vq w (bJ.cells ⟨A,n,c,g,B,m,d,C,p,f⟩ x) (bJ.cells ⟨A',n',L,I,B',m',d',J,O,f'⟩ y) W')
  (first|(with_reducible exact ad.out _ _ (by assumption) (by assumption))|(with_reducible exact HS.out))
  (first|(go_at_call 32;(with_reducible refine(H2.out _ ?_).mono ?_);assumption;rintro e w2 ⟨u,rfl,hu,b2⟩)|(go_at_call 32;(with_reducible refine(H3.out _ ?_).mono ?_);assumption;rintro e w3 ⟨v,rfl,hv,b3⟩;replace hu:=hu.below b3)|(go_at_call 34;(with_reducible refine(H4.out _ _ _ ?_ ?_).mono ?_);exact hu;exact hv;rintro e w4 ⟨rfl,b4⟩))
 rename_i hh
 have Q4:=Gn hh.2.2.2.2
 clear hh HS ad H2 H3 H4 hu hv b2 b3 b4
 have a1:w4.cell? ⟨w.heap.size,6,none⟩=some (.slice C p f):=by rw[Q4.out.1.cell];rfl
 have a7:w4.cell? ⟨w.heap.size+1,6,none⟩=some (.slice J O f'):=by rw[Q4.out.2.1.cell];rfl
 go_wp2_with fail
 refine(H5.out _ Q4.out).mono ?_
 rintro e Z ⟨rfl,b5⟩
 have V:=Gn (Q4.out.below b5)
 clear b5 Q4 H5 a1 a7
 have bb:Z.cell? ⟨w.heap.size,0,none⟩=some (.int .i64 x.op):=by rw[V.out.1.cell];rfl
 have bl:Z.cell? ⟨w.heap.size+1,0,none⟩=some (.int .i64 y.op):=by rw[V.out.2.1.cell];rfl
 have bn:Z.cell? ⟨w.heap.size,1,none⟩=some (.int .i64 x.sort):=by rw[V.out.1.cell];rfl
 have bo:Z.cell? ⟨w.heap.size+1,1,none⟩=some (.int .i64 y.sort):=by rw[V.out.2.1.cell];rfl
 have bp:Z.cell? ⟨w.heap.size,3,none⟩=some (.string x.name):=by rw[V.out.1.cell];rfl
 have bx:Z.cell? ⟨w.heap.size+1,3,none⟩=some (.string y.name):=by rw[V.out.2.1.cell];rfl
 have U:=HE.out
 clear HE
 cases sA with
 |false=>
  simp at U
  subst U
  go_wp2_with fail
  go_ret
  exact⟨rfl,V.out.2.2⟩
 |true=>
 cases sZ with
 |false=>
  simp at U
  subst U
  go_wp2_with fail
  go_ret
  exact⟨rfl,V.out.2.2⟩
 |true=>
 cases sT with
 |false=>
  simp at U
  subst U
  go_wp2_with fail
  go_ret
  exact⟨rfl,V.out.2.2⟩
 |true=>
 cases sO with
 |false=>
  simp at U
  subst U
  go_wp2_with fail
  go_ret
  exact⟨rfl,V.out.2.2⟩
 |true=>
 cases sS with
 |false=>
  simp at U
  subst U
  go_wp2_with fail
  go_ret
  exact⟨rfl,V.out.2.2⟩
 |true=>
  simp at U
  subst U
  go_wp2_with fail
  go_ret
  exact⟨rfl,V.out.2.2⟩
end Go.Proofs.YtdbgiijdgedggaaGreatDoor
