import Derived.Test.YtdbgiijdgedggaaGreatDoorQM32
import Derived.Test.YtdbgiijdgedggaaGreatDoorQM36
set_option linter.unusedSimpArgs false
set_option linter.unusedVariables false
set_option maxRecDepth 100000
set_option maxHeartbeats 25600000
namespace Go.Proofs.YtdbgiijdgedggaaGreatDoor
open Go.RowKit
structure Mk.eI (w0 w:World) (b:Nat) (F:Nat->Prop) (N:List Nd) (A:Option Addr) (n c:Nat) (L:List (iZ×Dc)):Prop where
 base:Below w0.heap.size w0 w
 T:dD w0
 K:iJ w0
 bk:Bk w b F N
 low:∀ k,F k->w0.heap.size<=k
 dc:rX w (fun k=>¬F k) A n c L
 few:n<=200
 ok:Mk.vU (L.map (·.2))
theorem vB (w0 w:World) (b:Nat) (F:Nat->Prop) (N:List Nd) (A:Option Addr) (n c:Nat) (L:List (iZ×Dc)) (h:Mk.eI w0 w b F N A n c L):
  Calls Tryz.prog 44 #[.pointer (some ⟨b,0,none⟩),.slice A n c] w fun e w'=>(∃ (E:Mk.Env) (M:Nat) (Y:Mk.Lay),e=.returned (.pointer (some ⟨M,0,none⟩))/\E.Ok/\E.w0=w0/\E.D=L.map (·.2)/\E.n=n/\E.bk=b/\Mk.aF E w' M Y ⟨N,[],[],[]⟩/\Y.Fb=F/\∀ k,Mk.ag M Y k->F k\/w.heap.size<=k)/\Below w.heap.size w w':=by
 have HP:=Gn (Bn w A n c L h.dc (by have:=h.few;omega) (fun q J=>by have:=h.ok.name q.2 (Ir J);unfold maxLen;omega))
 have ba:∀ W:World,(Instr.makeMap 115 none).run Tryz.prog W=.ok (.map (some W.heap.size)) (W.alloc (.map #[] 0)):=fun W=>run_makeMap _ W
 have HH:=Gn h
 clear h
 go_enter Tryz.func44,Tryz.ntmps44
 go_wp2_with fail
 refine HP.out.mono ?_
 rintro e I ⟨rfl,⟨Dm,ho,hT⟩,b1⟩
 obtain⟨W2,ao⟩:∃ W2,I.alloc (.map #[] 0)=W2:=⟨_,rfl⟩
 obtain⟨W3,av⟩:∃ W3,W2.alloc (.cells #[.pointer (some ⟨b,0,none⟩),.slice A n c,.map (some w.heap.size),.map (some I.heap.size),.slice none 0 0,.slice none 0 0] 172)=W3:=⟨_,rfl⟩
 have a7:W2.heap.size=I.heap.size+1:=by rw[<-ao];simp
 have V:Below I.heap.size I W2:=by rw[<-ao];exact(Gp _ _).alloc (Fm _) _
 have Z:Below W2.heap.size W2 W3:=by rw[<-av];exact(Gp _ _).alloc (Fm _) _
 have X:Below I.heap.size I W3:=V.trans (Z.mono V.size)
 have O:Below w.heap.size w W3:=b1.trans (X.mono b1.size)
 have U:=HH.out
 have Q:=U.bk.lt
 have hE:Mk.Env.Ok ⟨w0,A,n,c,L,I,fun k=>¬F k,w.heap.size,b⟩:=⟨U.dc.turn (ae.af (F:=fun _=>False) b1) fun k _ r=>⟨id,r⟩,U.few,U.T,U.K,fun k r _ e=>(by have r:w.heap.size<=k:=r;have:=Q k e;omega),⟨_,n,Dm,by have:=U.few;unfold maxLen;omega,ho,hT⟩⟩
 have ad:W3.ownsMap Tryz.prog 9 (plainElem (H:=Unit) Tryz.prog 3) I.heap.size 0 (.map []):=by
  have:=World.ownsMap_made (P:=Tryz.prog) (H:=Unit) I 9 (plainElem Tryz.prog 3)
  rw[ao] at this
  exact(ae.af (F:=fun _=>False) Z).map this id
 have ah:Mk.aF ⟨w0,A,n,c,L,I,fun k=>¬F k,w.heap.size,b⟩ W3 W2.heap.size ⟨I.heap.size,none,0,none,0,F,[],[]⟩ ⟨N,[],[],[]⟩:=by
  refine⟨U.base.trans (O.mono U.base.size),fun k r=>?_,?_,U.bk.below O,⟨⟨.map [],ad,kb.none_,rfl⟩,List.nodup_nil⟩,Gg _ _ _ _,rfl,fun _ J=>(FD J).elim,Gg _ _ _ _,rfl,fun _ J=>(FD J).elim,fun _ J=>(FD J).elim,.nil,
   fun e=>?_,fun e=>?_,fun g e=>(by cases e),fun g e=>(by cases e),fun _ J=>(FD J).elim,(ae.af X),fun k hP r e=>?_⟩
  ·have h0:=U.base.size
   have h1:=b1.size
   show w0.heap.size<=k
   rcases r with rfl|r|rfl|e|e|⟨q,J,_⟩
   ·omega
   ·exact U.low k r
   ·show w0.heap.size<=I.heap.size;omega
   ·cases e
   ·cases e
   ·exact(FD J).elim
  ·rw[<-av];exact aa.new W2 _ _
  ·have:=Q _ e
   have:=b1.size
   omega
  ·have:I.heap.size<w.heap.size:=Q _ e
   have:=b1.size
   omega
  ·have r:k<I.heap.size:=r
   rcases e with rfl|e|rfl|e|e|⟨q,J,_⟩
   ·omega
   ·exact hP e
   ·exact absurd r (Nat.lt_irrefl I.heap.size)
   ·cases e
   ·cases e
   ·exact(FD J).elim
 have HE:Hid (∃ (E:Mk.Env) (M:Nat) (Y:Mk.Lay),Ending.returned (.pointer (some ⟨W2.heap.size,0,none⟩))=.returned (.pointer (some ⟨M,0,none⟩))/\E.Ok/\E.w0=w0/\E.D=L.map (·.2)/\E.n=n/\E.bk=b/\Mk.aF E W3 M Y ⟨N,[],[],[]⟩/\Y.Fb=F/\∀ k,Mk.ag M Y k->F k\/w.heap.size<=k):=
  ⟨_,_,_,rfl,hE,rfl,rfl,rfl,rfl,ah,rfl,fun k r=>by
   have h1:=b1.size
   rcases r with rfl|r|rfl|e|e|⟨q,J,_⟩
   ·exact .inr (by omega)
   ·exact .inl r
   ·exact .inr h1
   ·cases e
   ·cases e
   ·exact(FD J).elim⟩
 have a1:=Gn O
 rw[a7] at HE
 clear hE ah ad U Q V Z X O HH HP ho hT b1
 go_wp2
 go_ret
 exact⟨HE.out,a1.out⟩
theorem BZ (w0 w:World) (b:Nat) (F:Nat->Prop) (N:List Nd) (A:Option Addr) (n c:Nat) (L:List (iZ×Dc)) (x:Sx) (J:Option Addr) (O:Nat) (h:Mk.eI w0 w b F N A n c L) (hG:Gl w0) (hI:Tm.Inv N) (hN:N.length<=20000)
  (hx:aJ w (fun k _=>¬F k) x J O) (bp:Sx.bH x) (ad:x.size+Mk.room (L.map (·.2)) n<=4700):
  Calls Tryz.prog 13 #[.pointer (some ⟨b,0,none⟩),.slice A n c,aX x J O] w fun e w'=>cr w b F (Bd.tm (L.map (·.2)) n [] N x) e w':=by
 obtain⟨U,X⟩:∃ U,w.alloc (dr x J O)=U:=⟨_,rfl⟩
 have Q:Below w.heap.size w U:=by rw[<-X];exact(Gp _ w).alloc (Fm _) _
 have r:Below w.heap.size w U.drew:=⟨Q.os,Q.tape,Q.output,Q.size,Q.block⟩
 have ao:aa U w.heap.size 27 #[.bool x.list,.int .i64 x.k,.string x.T,.int .i64 x.ta,.int .i64 x.at_,.slice J x.L.length O]:=by rw[<-X];exact aa.new w _ _
 have hS:∀ W,aa W w.heap.size 27 #[.bool x.list,.int .i64 x.k,.string x.T,.int .i64 x.ta,.int .i64 x.at_,.slice J x.L.length O]->(W.cell? ⟨w.heap.size,0,none⟩=some (.bool x.list)/\W.cell? ⟨w.heap.size,1,none⟩=some (.int .i64 x.k)/\W.cell? ⟨w.heap.size,2,none⟩=some (.string x.T)/\W.cell? ⟨w.heap.size,3,none⟩=some (.int .i64 x.ta)/\W.cell? ⟨w.heap.size,4,none⟩=some (.int .i64 x.at_)/\W.cell? ⟨w.heap.size,5,none⟩=some (.slice J x.L.length O)):=fun W h=>
  ⟨h.cell 0,h.cell 1,h.cell 2,h.cell 3,h.cell 4,h.cell 5⟩
 have HN:Hid (Calls Tryz.prog 44 #[.pointer (some ⟨b,0,none⟩),.slice A n c] U.drew fun e I=>∃ M:Nat,e=.returned (.pointer (some ⟨M,0,none⟩))/\(I.cell? ⟨w.heap.size,0,none⟩=some (.bool x.list)/\I.cell? ⟨w.heap.size,1,none⟩=some (.int .i64 x.k)/\I.cell? ⟨w.heap.size,2,none⟩=some (.string x.T)/\I.cell? ⟨w.heap.size,3,none⟩=some (.int .i64 x.ta)/\I.cell? ⟨w.heap.size,4,none⟩=some (.int .i64 x.at_)/\I.cell? ⟨w.heap.size,5,none⟩=some (.slice J x.L.length O))/\
   Calls Tryz.prog 45 #[.pointer (some ⟨M,0,none⟩),aX x J O,.map none] I fun e w'=>cr w b F (Bd.tm (L.map (·.2)) n [] N x) e w'/\(w'.cell? ⟨w.heap.size,0,none⟩=some (.bool x.list)/\w'.cell? ⟨w.heap.size,1,none⟩=some (.int .i64 x.k)/\w'.cell? ⟨w.heap.size,2,none⟩=some (.string x.T)/\w'.cell? ⟨w.heap.size,3,none⟩=some (.int .i64 x.ta)/\w'.cell? ⟨w.heap.size,4,none⟩=some (.int .i64 x.at_)/\w'.cell? ⟨w.heap.size,5,none⟩=some (.slice J x.L.length O))):=by
  have bE:Mk.eI w0 U.drew b F N A n c L:=⟨h.base.trans (r.mono h.base.size),h.T,h.K,h.bk.below r,h.low,h.dc.turn (ae.af (F:=fun _=>False) r) fun k _ Z=>⟨id,Z⟩,h.few,h.ok⟩
  refine(vB w0 U.drew b F N A n c L bE).mono ?_
  rintro e I ⟨⟨E,M,Y,rfl,hE,e0,eD,en,bC,bB,b3,a7⟩,b1⟩
  have bx:aa I w.heap.size 27 #[.bool x.list,.int .i64 x.k,.string x.T,.int .i64 x.ta,.int .i64 x.at_,.slice J x.L.length O]:=(b1.block _ ao.lt).trans ao
  have b2:U.drew.heap.size=w.heap.size+1:=by rw[<-X];simp[World.drew]
  have a1:Below w.heap.size w I:=r.trans (b1.mono r.size)
  have bz:∀ k,k<U.drew.heap.size->¬F k->¬Mk.ag M Y k:=fun k Z hF e=>(a7 k e).elim hF fun e2=>by omega
  have bL:¬F w.heap.size:=fun e=>by have:=h.bk.lt _ e;omega
  have bP:aJ I (fun k _=>¬Mk.ag M Y k) x J O:=⟨hx.le,hx.tree.bR (ae.af (F:=fun _=>False) a1) fun k b6 Z=>⟨id,bz k (by omega) Z⟩⟩
  have hlen:E.D.length=n:=by rw[hE.len,en]
  have Z:=DL E hE (by rw[e0];exact hG) (by rw[eD];exact h.ok) I M Y N x J O none [] bB bP bp (.inl ⟨rfl,rfl⟩) hI hN (fun _ hp=>(FD hp).elim) (by rw[hlen,eD];exact ad)
  rw[hlen,eD] at Z
  refine⟨M,rfl,hS I bx,Z.mono ?_⟩
  rintro e w2 ⟨rfl,s',⟨Y',r2,t2,y2⟩,bD⟩
  refine⟨⟨rfl,Y'.Fb,?_,?_,fun k Z=>?_⟩,hS w2 (t2.lies bx (bz _ (by omega) bL))⟩
  ·have:=r2.aO
   rw[bC,bD] at this
   exact this
  ·exact(ae.af (F:=F) a1).trans t2 fun k Z=>(a7 k Z).imp id fun e=>by omega
  ·rcases y2 k (.inr (.inl Z)) with e|e
   ·exact(a7 k e).imp id fun e=>by omega
   ·have:=a1.size
    exact .inr (by omega)
 have HS:=Gn (hS U.drew ao)
 generalize Bd.tm (L.map (·.2)) n [] N x=R at HN ⊢
 obtain⟨xn,bo⟩:∃ xn,x.L.length=xn:=⟨_,rfl⟩
 obtain⟨xl,bn⟩:∃ xl,x.list=xl:=⟨_,rfl⟩
 obtain⟨xk,bl⟩:∃ xk,x.k=xk:=⟨_,rfl⟩
 obtain⟨xT,ba⟩:∃ xT,x.T=xT:=⟨_,rfl⟩
 obtain⟨av,ah⟩:∃ av,x.ta=av:=⟨_,rfl⟩
 obtain⟨xa,bb⟩:∃ xa,x.at_=xa:=⟨_,rfl⟩
 have bT:w.alloc (.cells #[.bool xl,.int .i64 xk,.string xT,.int .i64 av,.int .i64 xa,.slice J xn O] 27)=U:=by rw[<-X,<-bn,<-bl,<-ba,<-ah,<-bb,<-bo]
 unfold aX at HN ⊢
 rw[bo,bn,bl,ba,ah,bb] at HN HS ⊢
 clear h hG hI hN hx bp ad Q r ao hS bo bn bl ba ah bb X
 go_enter Tryz.func13,Tryz.ntmps13
 go_wp2_with fail
 go_region_held3 (fun W=>W.cell? ⟨w.heap.size,0,none⟩=some (.bool xl)/\W.cell? ⟨w.heap.size,1,none⟩=some (.int .i64 xk)/\W.cell? ⟨w.heap.size,2,none⟩=some (.string xT)/\W.cell? ⟨w.heap.size,3,none⟩=some (.int .i64 av)/\W.cell? ⟨w.heap.size,4,none⟩=some (.int .i64 xa)/\W.cell? ⟨w.heap.size,5,none⟩=some (.slice J xn O))
  (first|exact HS.out|assumption)
  (first|(go_at_call 44;refine HN.out.mono ?_;rintro e I ⟨M,rfl,b4,hg⟩)|(go_at_call 45;refine Calls.mono (by assumption) ?_;rintro e w2 ⟨⟨rfl,v⟩,b5⟩))
 all_goals
  have V:=Gn v
  clear v
  go_wp2
  go_ret2
  exact⟨rfl,V.out⟩
end Go.Proofs.YtdbgiijdgedggaaGreatDoor
namespace Go.Proofs.YtdbgiijdgedggaaGreatDoor
abbrev Bi:ByteArray:=⟨#[40,108,101,116,32,40,40,121,32,40,43,32,120,32,49,41,41,41,32,40,42,32,50,32,121,41,41]⟩
abbrev CZ:List eG:=[(1,⟨#[40]⟩,0),(3,⟨#[108,101,116]⟩,1),(1,⟨#[40]⟩,5),(1,⟨#[40]⟩,6),(3,⟨#[121]⟩,7),(1,⟨#[40]⟩,9),(3,⟨#[43]⟩,10),(3,⟨#[120]⟩,12),(4,⟨#[49]⟩,14),(2,⟨#[41]⟩,15),(2,⟨#[41]⟩,16),(2,⟨#[41]⟩,17),(1,⟨#[40]⟩,19),(3,⟨#[42]⟩,20),(4,⟨#[50]⟩,22),(3,⟨#[121]⟩,24),(2,⟨#[41]⟩,25),(2,⟨#[41]⟩,26)]
abbrev pI:Sx:=⟨true,0,ByteArray.empty,0,0,[⟨false,3,⟨#[108,101,116]⟩,1,1,[]⟩,⟨true,0,ByteArray.empty,0,5,[⟨true,0,ByteArray.empty,0,6,[⟨false,3,⟨#[121]⟩,7,7,[]⟩,⟨true,0,ByteArray.empty,0,9,[⟨false,3,⟨#[43]⟩,10,10,[]⟩,⟨false,3,⟨#[120]⟩,12,12,[]⟩,⟨false,4,⟨#[49]⟩,14,14,[]⟩]⟩]⟩]⟩,⟨true,0,ByteArray.empty,0,19,[⟨false,3,⟨#[42]⟩,20,20,[]⟩,⟨false,4,⟨#[50]⟩,22,22,[]⟩,⟨false,3,⟨#[121]⟩,24,24,[]⟩]⟩]⟩
theorem zb:Lx.lex 4000 Bi.data.toList=([(1,[40],27),(3,[108,101,116],26),(1,[40],22),(1,[40],21),(3,[121],20),(1,[40],18),(3,[43],17),(3,[120],15),(4,[49],13),(2,[41],12),(2,[41],11),(2,[41],10),(1,[40],8),(3,[42],7),(4,[50],5),(3,[121],3),(2,[41],2),(2,[41],1)],0,[]):=by
 rw[Lx.gu 27 4000 27 _ (by decide) (by decide) (by decide)]
 decide +kernel
theorem Av:jh Bi CZ 0 27:=by
 refine⟨by decide,by decide,by decide,fun h=>absurd h (by decide),fun _=>?_⟩
 rw[zb]
 exact⟨rfl,rfl,rfl⟩
theorem vt:aN (27:Int) (CZ.map CP) [⟨pI,0,0⟩]:=by
 exact aN.list (1,⟨#[40]⟩,0) (2,⟨#[41]⟩,26) [(3,⟨#[108,101,116]⟩,1),(1,⟨#[40]⟩,5),(1,⟨#[40]⟩,6),(3,⟨#[121]⟩,7),(1,⟨#[40]⟩,9),(3,⟨#[43]⟩,10),(3,⟨#[120]⟩,12),(4,⟨#[49]⟩,14),(2,⟨#[41]⟩,15),(2,⟨#[41]⟩,16),(2,⟨#[41]⟩,17),(1,⟨#[40]⟩,19),(3,⟨#[42]⟩,20),(4,⟨#[50]⟩,22),(3,⟨#[121]⟩,24),(2,⟨#[41]⟩,25)] [] [⟨false,3,⟨#[108,101,116]⟩,1,1,[]⟩,⟨true,0,ByteArray.empty,0,5,[⟨true,0,ByteArray.empty,0,6,[⟨false,3,⟨#[121]⟩,7,7,[]⟩,⟨true,0,ByteArray.empty,0,9,[⟨false,3,⟨#[43]⟩,10,10,[]⟩,⟨false,3,⟨#[120]⟩,12,12,[]⟩,⟨false,4,⟨#[49]⟩,14,14,[]⟩]⟩]⟩]⟩,⟨true,0,ByteArray.empty,0,19,[⟨false,3,⟨#[42]⟩,20,20,[]⟩,⟨false,4,⟨#[50]⟩,22,22,[]⟩,⟨false,3,⟨#[121]⟩,24,24,[]⟩]⟩] [] rfl rfl (.atom (3,⟨#[108,101,116]⟩,1) _ _ (by decide) (by decide) (.list (1,⟨#[40]⟩,5) (2,⟨#[41]⟩,17) [(1,⟨#[40]⟩,6),(3,⟨#[121]⟩,7),(1,⟨#[40]⟩,9),(3,⟨#[43]⟩,10),(3,⟨#[120]⟩,12),(4,⟨#[49]⟩,14),(2,⟨#[41]⟩,15),(2,⟨#[41]⟩,16)] [(1,⟨#[40]⟩,19),(3,⟨#[42]⟩,20),(4,⟨#[50]⟩,22),(3,⟨#[121]⟩,24),(2,⟨#[41]⟩,25)] [⟨true,0,ByteArray.empty,0,6,[⟨false,3,⟨#[121]⟩,7,7,[]⟩,⟨true,0,ByteArray.empty,0,9,[⟨false,3,⟨#[43]⟩,10,10,[]⟩,⟨false,3,⟨#[120]⟩,12,12,[]⟩,⟨false,4,⟨#[49]⟩,14,14,[]⟩]⟩]⟩] _ rfl rfl (.list (1,⟨#[40]⟩,6) (2,⟨#[41]⟩,16) [(3,⟨#[121]⟩,7),(1,⟨#[40]⟩,9),(3,⟨#[43]⟩,10),(3,⟨#[120]⟩,12),(4,⟨#[49]⟩,14),(2,⟨#[41]⟩,15)] [] [⟨false,3,⟨#[121]⟩,7,7,[]⟩,⟨true,0,ByteArray.empty,0,9,[⟨false,3,⟨#[43]⟩,10,10,[]⟩,⟨false,3,⟨#[120]⟩,12,12,[]⟩,⟨false,4,⟨#[49]⟩,14,14,[]⟩]⟩] _ rfl rfl (.atom (3,⟨#[121]⟩,7) _ _ (by decide) (by decide) (.list (1,⟨#[40]⟩,9) (2,⟨#[41]⟩,15) [(3,⟨#[43]⟩,10),(3,⟨#[120]⟩,12),(4,⟨#[49]⟩,14)] [] [⟨false,3,⟨#[43]⟩,10,10,[]⟩,⟨false,3,⟨#[120]⟩,12,12,[]⟩,⟨false,4,⟨#[49]⟩,14,14,[]⟩] _ rfl rfl (.atom (3,⟨#[43]⟩,10) _ _ (by decide) (by decide) (.atom (3,⟨#[120]⟩,12) _ _ (by decide) (by decide) (.atom (4,⟨#[49]⟩,14) _ _ (by decide) (by decide) .nil))) .nil)) .nil) (.list (1,⟨#[40]⟩,19) (2,⟨#[41]⟩,25) [(3,⟨#[42]⟩,20),(4,⟨#[50]⟩,22),(3,⟨#[121]⟩,24)] [] [⟨false,3,⟨#[42]⟩,20,20,[]⟩,⟨false,4,⟨#[50]⟩,22,22,[]⟩,⟨false,3,⟨#[121]⟩,24,24,[]⟩] _ rfl rfl (.atom (3,⟨#[42]⟩,20) _ _ (by decide) (by decide) (.atom (4,⟨#[50]⟩,22) _ _ (by decide) (by decide) (.atom (3,⟨#[121]⟩,24) _ _ (by decide) (by decide) .nil))) .nil))) (by simp[Sx.bf,Sx.deep]) .nil
theorem vE:bW Bi [⟨pI,0,0⟩]:=⟨CZ,0,27,_,Av,vt,rfl⟩
abbrev AH:ByteArray:=⟨#[40,43,32,120,32,121,41]⟩
abbrev CW:List eG:=[(1,⟨#[40]⟩,0),(3,⟨#[43]⟩,1),(3,⟨#[120]⟩,3),(3,⟨#[121]⟩,5),(2,⟨#[41]⟩,6)]
abbrev rB:Sx:=⟨true,0,ByteArray.empty,0,0,[⟨false,3,⟨#[43]⟩,1,1,[]⟩,⟨false,3,⟨#[120]⟩,3,3,[]⟩,⟨false,3,⟨#[121]⟩,5,5,[]⟩]⟩
theorem wW:Lx.lex 4000 AH.data.toList=([(1,[40],7),(3,[43],6),(3,[120],4),(3,[121],2),(2,[41],1)],0,[]):=by
 rw[Lx.gu 7 4000 7 _ (by decide) (by decide) (by decide)]
 decide +kernel
theorem zy:jh AH CW 0 7:=by
 refine⟨by decide,by decide,by decide,fun h=>absurd h (by decide),fun _=>?_⟩
 rw[wW]
 exact⟨rfl,rfl,rfl⟩
theorem vz:aN (7:Int) (CW.map CP) [⟨rB,0,0⟩]:=by
 exact aN.list (1,⟨#[40]⟩,0) (2,⟨#[41]⟩,6) [(3,⟨#[43]⟩,1),(3,⟨#[120]⟩,3),(3,⟨#[121]⟩,5)] [] [⟨false,3,⟨#[43]⟩,1,1,[]⟩,⟨false,3,⟨#[120]⟩,3,3,[]⟩,⟨false,3,⟨#[121]⟩,5,5,[]⟩] [] rfl rfl (.atom (3,⟨#[43]⟩,1) _ _ (by decide) (by decide) (.atom (3,⟨#[120]⟩,3) _ _ (by decide) (by decide) (.atom (3,⟨#[121]⟩,5) _ _ (by decide) (by decide) .nil))) (by simp[Sx.bf,Sx.deep]) .nil
theorem vR:bW AH [⟨rB,0,0⟩]:=⟨CW,0,7,_,zy,vz,rfl⟩
abbrev zH:ByteArray:=⟨#[40,115,116,114,46,105,110,95,114,101,32,120,32,120,41]⟩
abbrev Dd:List eG:=[(1,⟨#[40]⟩,0),(3,⟨#[115,116,114,46,105,110,95,114,101]⟩,1),(3,⟨#[120]⟩,11),(3,⟨#[120]⟩,13),(2,⟨#[41]⟩,14)]
abbrev si:Sx:=⟨true,0,ByteArray.empty,0,0,[⟨false,3,⟨#[115,116,114,46,105,110,95,114,101]⟩,1,1,[]⟩,⟨false,3,⟨#[120]⟩,11,11,[]⟩,⟨false,3,⟨#[120]⟩,13,13,[]⟩]⟩
theorem yu:Lx.lex 4000 zH.data.toList=([(1,[40],15),(3,[115,116,114,46,105,110,95,114,101],14),(3,[120],4),(3,[120],2),(2,[41],1)],0,[]):=by
 rw[Lx.gu 15 4000 15 _ (by decide) (by decide) (by decide)]
 decide +kernel
theorem Aw:jh zH Dd 0 15:=by
 refine⟨by decide,by decide,by decide,fun h=>absurd h (by decide),fun _=>?_⟩
 rw[yu]
 exact⟨rfl,rfl,rfl⟩
theorem uR:aN (15:Int) (Dd.map CP) [⟨si,0,0⟩]:=by
 exact aN.list (1,⟨#[40]⟩,0) (2,⟨#[41]⟩,14) [(3,⟨#[115,116,114,46,105,110,95,114,101]⟩,1),(3,⟨#[120]⟩,11),(3,⟨#[120]⟩,13)] [] [⟨false,3,⟨#[115,116,114,46,105,110,95,114,101]⟩,1,1,[]⟩,⟨false,3,⟨#[120]⟩,11,11,[]⟩,⟨false,3,⟨#[120]⟩,13,13,[]⟩] [] rfl rfl (.atom (3,⟨#[115,116,114,46,105,110,95,114,101]⟩,1) _ _ (by decide) (by decide) (.atom (3,⟨#[120]⟩,11) _ _ (by decide) (by decide) (.atom (3,⟨#[120]⟩,13) _ _ (by decide) (by decide) .nil))) (by simp[Sx.bf,Sx.deep]) .nil
theorem uH:bW zH [⟨si,0,0⟩]:=⟨Dd,0,15,_,Aw,uR,rfl⟩
abbrev AR:ByteArray:=⟨#[83,116,114,105,110,103]⟩
abbrev Cj:List eG:=[(3,⟨#[83,116,114,105,110,103]⟩,0)]
abbrev wB:Sx:=⟨false,3,⟨#[83,116,114,105,110,103]⟩,0,0,[]⟩
theorem yp:Lx.lex 4000 AR.data.toList=([(3,[83,116,114,105,110,103],6)],0,[]):=by
 rw[Lx.gu 6 4000 6 _ (by decide) (by decide) (by decide)]
 decide +kernel
theorem zI:jh AR Cj 0 6:=by
 refine⟨by decide,by decide,by decide,fun h=>absurd h (by decide),fun _=>?_⟩
 rw[yp]
 exact⟨rfl,rfl,rfl⟩
theorem uA:aN (6:Int) (Cj.map CP) [⟨wB,0,0⟩]:=by
 exact aN.atom (3,⟨#[83,116,114,105,110,103]⟩,0) _ _ (by decide) (by decide) .nil
theorem vL:bW AR [⟨wB,0,0⟩]:=⟨Cj,0,6,_,zI,uA,rfl⟩
abbrev qN:List Dc:=[⟨⟨#[120]⟩,2,false,[],Sx.zero⟩]
abbrev eb:Nd:=⟨1,2,[],⟨#[120]⟩,0,[]⟩
abbrev eS:Nd:=⟨4,2,[],ByteArray.empty,1,[]⟩
abbrev gF:Nd:=⟨15,2,[0,1],ByteArray.empty,0,[]⟩
abbrev lY:Nd:=⟨4,2,[],ByteArray.empty,2,[]⟩
abbrev sD:Nd:=⟨17,2,[3,2],ByteArray.empty,0,[]⟩
abbrev kH:List Nd:=[eb,eS,gF,lY,sD]
theorem ef {x y:Nd} (h:x.op≠y.op):x≠y:=fun e=>h (by rw[e])
theorem wH {x y:Nd} (h:x.num≠y.num):x≠y:=fun e=>h (by rw[e])
theorem kS {l:List Nd} {op:Int} {a:List Int} {w:List Nat} {more:Bool} {own:Nat} (h:Tm.asks op=some (w,more,own)):Tm.app l op a=if a.length<w.length\/(w.length<a.length/\more=false)\/200<a.length then(l,0,1)
  else if Tm.ct l a=false then(l,0,1) else if Tm.fU w 0 63 (a.map (Tm.a6 l))=false then(l,0,90) else if op=17/\1<Tm.free l a then(l,0,101) else Tm.add l (Tm.node op own l a):=by
 rw[Tm.app,h]
theorem EW:Tm.const [] ⟨#[120]⟩ 2=([eb],0,0):=by
 unfold Tm.const
 rw[FQ (by decide),Tm.fD FD (by decide)]
 rfl
theorem E9:Tm.num [eb] ((1:Nat):Int)=([eb,eS],1,0):=by
 unfold Tm.num
 rw[FQ (by decide)]
 exact Tm.fD (l:=[eb]) (x:=eS) (fun h=>ef (x:=eS) (y:=eb) (by decide) (F0.1 h)) (by decide)
theorem EZ:Tm.app [eb,eS] 15 [0,1]=([eb,eS,gF],2,0):=by
 rw[kS (w:=[73,73]) (more:=true) (own:=73) (by decide),FQ (by decide),FQ (by decide),FQ (by decide),FQ (by decide)]
 refine Tm.fD (l:=[eb,eS]) (x:=gF) (fun h=>?_) (by decide)
 rcases FE.1 h with h|h
 ·exact ef (x:=gF) (y:=eb) (by decide) h
 ·exact ef (x:=gF) (y:=eS) (by decide) (F0.1 h)
theorem E7:Tm.num [eb,eS,gF] ((2:Nat):Int)=([eb,eS,gF,lY],3,0):=by
 unfold Tm.num
 rw[FQ (by decide)]
 refine Tm.fD (l:=[eb,eS,gF]) (x:=lY) (fun h=>?_) (by decide)
 rcases FE.1 h with h|h
 ·exact ef (x:=lY) (y:=eb) (by decide) h
 rcases FE.1 h with h|h
 ·exact wH (x:=lY) (y:=eS) (by decide) h
 ·exact ef (x:=lY) (y:=gF) (by decide) (F0.1 h)
theorem E6:Tm.app [eb,eS,gF,lY] 17 [3,2]=(kH,4,0):=by
 rw[kS (w:=[73,73]) (more:=true) (own:=73) (by decide),FQ (by decide),FQ (by decide),FQ (by decide),FQ (by decide)]
 refine Tm.fD (l:=[eb,eS,gF,lY]) (x:=sD) (fun h=>?_) (by decide)
 rcases FE.1 h with h|h
 ·exact ef (x:=sD) (y:=eb) (by decide) h
 rcases FE.1 h with h|h
 ·exact ef (x:=sD) (y:=eS) (by decide) h
 rcases FE.1 h with h|h
 ·exact ef (x:=sD) (y:=gF) (by decide) h
 ·exact ef (x:=sD) (y:=lY) (by decide) (F0.1 h)
theorem E8:Tm.const kH ⟨#[120]⟩ 2=(kH,0,0):=by
 unfold Tm.const
 rw[FQ (by decide)]
 exact Tm.tR (l:=kH) (i:=0) rfl fun j h=>absurd h (Gv _)
theorem yo (D:List Dc) (k:Nat) (sc:Sc) (N:List Nd) (s:ByteArray) (ta a:Int) (L:List Sx) (h:j8 s.data.toList=true):Bd.tm D k sc N ⟨false,4,s,ta,a,L⟩=Tm.num N (T.dv s.data.toList):=by
 rw[Bd.iB]
 unfold Bd.step
 rw[FQ (fun e:false=true=>by cases e)]
 unfold Bd.kf
 rw[Fx rfl,Fx h]
theorem kp (D:List Dc) (k:Nat) (sc:Sc) (N:List Nd) (T:ByteArray) (ta a:Int) (L:List Sx) (h:¬(T.data.toList=[116,114,117,101]\/T.data.toList=[102,97,108,115,101])) (r:Bd.reserved T.data.toList=false):Bd.tm D k sc N ⟨false,3,T,ta,a,L⟩=match Bd.bound sc T with
  |some id=>(N,id,0)
  |none=>match Bd.decl D T k with
   |none=>(N,0,100)
   |some j=>match D[j]? with
    |none=>(N,0,100)
    |some d=>if d.cL=true then(if d.par=[] then Bd.fn D j [] N else(N,0,1)) else Tm.const N d.name d.sort:=by
 rw[Bd.iB]
 unfold Bd.step
 rw[FQ (fun e:false=true=>by cases e)]
 unfold Bd.kf
 rw[FQ (show ¬(3:Int)=4 by decide),FQ (show ¬(3:Int)=6 by decide),Fx rfl]
 unfold Bd.jA
 rw[FQ h,FQ (by rw[r];decide)]
 rfl
theorem wk (D:List Dc) (k:Nat) (sc:Sc) (N:List Nd) (T:ByteArray) (ta a a2:Int) (L r:List Sx) (h:¬T.data.toList=[108,101,116]) (I:Bd.op T.data.toList r.length≠0):Bd.tm D k sc N ⟨true,0,ByteArray.empty,0,a2,⟨false,3,T,ta,a,L⟩::r⟩=match Bd.each (Bd.tm D k sc) N r with
  |(N',ids,e)=>if e=0 then Tm.app N' (Bd.op T.data.toList r.length) ids else(N',0,e):=by
 rw[Bd.iB]
 unfold Bd.step
 rw[Fx rfl]
 unfold Bd.gD
 simp only
 rw[FQ (fun e:false=true\/(3:Int)≠3=>e.elim (fun e=>by cases e) fun e=>e rfl),FQ h,Fx I]
theorem Dp:Bd.tm qN 1 [] [] ⟨false,3,⟨#[120]⟩,12,12,[]⟩=([eb],0,0):=by
 rw[kp _ _ _ _ _ _ _ _ (by decide) (by decide)]
 exact EW
theorem DX:Bd.tm qN 1 [] [] ⟨true,0,ByteArray.empty,0,9,[⟨false,3,⟨#[43]⟩,10,10,[]⟩,⟨false,3,⟨#[120]⟩,12,12,[]⟩,⟨false,4,⟨#[49]⟩,14,14,[]⟩]⟩=([eb,eS,gF],2,0):=by
 rw[wk _ _ _ _ _ _ _ _ _ _ (by decide) (by decide)]
 have e:Bd.each (Bd.tm qN 1 []) [] [⟨false,3,⟨#[120]⟩,12,12,[]⟩,⟨false,4,⟨#[49]⟩,14,14,[]⟩]=([eb,eS],[0,1],0):=by
  rw[Bd.each,Dp]
  simp only[Hy]
  rw[Bd.each,yo _ _ _ _ _ _ _ _ (by decide),show T.dv [49]=1 by decide,E9]
  rfl
 rw[e]
 exact EZ
theorem D7:Bd.tm qN 1 [(⟨#[121]⟩,2)] [eb,eS,gF] ⟨true,0,ByteArray.empty,0,19,[⟨false,3,⟨#[42]⟩,20,20,[]⟩,⟨false,4,⟨#[50]⟩,22,22,[]⟩,⟨false,3,⟨#[121]⟩,24,24,[]⟩]⟩=(kH,4,0):=by
 rw[wk _ _ _ _ _ _ _ _ _ _ (by decide) (by decide)]
 have e:Bd.each (Bd.tm qN 1 [(⟨#[121]⟩,2)]) [eb,eS,gF] [⟨false,4,⟨#[50]⟩,22,22,[]⟩,⟨false,3,⟨#[121]⟩,24,24,[]⟩]=([eb,eS,gF,lY],[3,2],0):=by
  rw[Bd.each,yo _ _ _ _ _ _ _ _ (by decide),show T.dv [50]=2 by decide,E7]
  simp only[Hy]
  rw[Bd.each,kp _ _ _ _ _ _ _ _ (by decide) (by decide)]
  rfl
 rw[e]
 exact E6
theorem uq:Bd.tm qN 1 [] [] pI=(kH,4,0):=by
 rw[Bd.iB]
 unfold Bd.step
 rw[Fx rfl]
 unfold Bd.gD
 simp only
 rw[FQ (by decide),Fx (by decide)]
 rw[Bd.oc (m:=[(⟨#[121]⟩,⟨true,0,ByteArray.empty,0,9,[⟨false,3,⟨#[43]⟩,10,10,[]⟩,⟨false,3,⟨#[120]⟩,12,12,[]⟩,⟨false,4,⟨#[49]⟩,14,14,[]⟩]⟩)]) _ _ _ _ _ rfl rfl (by decide) (by decide)]
 refine(Bd.andThen_ok (N':=[eb,eS,gF]) (a:=[2]) ?_).trans ?_
 ·simp only[GK,GL]
  rw[Bd.each,DX]
  rfl
 ·exact D7
theorem AF:Bd.tm qN 1 [] kH rB=(kH,0,100):=by
 rw[wk _ _ _ _ _ _ _ _ _ _ (by decide) (by decide)]
 have e:Bd.each (Bd.tm qN 1 []) kH [⟨false,3,⟨#[120]⟩,3,3,[]⟩,⟨false,3,⟨#[121]⟩,5,5,[]⟩]=(kH,[],100):=by
  rw[Bd.each,kp _ _ _ _ _ _ _ _ (by decide) (by decide)]
  have h:(match Bd.bound [] ⟨#[120]⟩ with
  |some id=>(kH,id,0)
  |none=>match Bd.decl qN ⟨#[120]⟩ 1 with
   |none=>(kH,0,100)
   |some j=>match qN[j]? with
    |none=>(kH,0,100)
    |some d=>if d.cL=true then(if d.par=[] then Bd.fn qN j [] kH else(kH,0,1)) else Tm.const kH d.name d.sort:bN)=(kH,0,0):=E8
  rw[h]
  simp only[Hy]
  rw[Bd.each,kp _ _ _ _ _ _ _ _ (by decide) (by decide)]
  rfl
 rw[e]
 rfl
theorem Ac:Bd.tm qN 1 [] kH si=(kH,0,101):=by
 rw[Bd.iB]
 unfold Bd.step
 rw[Fx rfl]
 unfold Bd.gD
 simp only
 rw[FQ (by decide),FQ (by decide),FQ (by decide),Fx (by decide)]
end Go.Proofs.YtdbgiijdgedggaaGreatDoor
namespace Go.Proofs.YtdbgiijdgedggaaGreatDoor
open Go.RowKit
theorem Mk.eI.below {w0 w w':World} {b:Nat} {F:Nat->Prop} {N:List Nd} {A:Option Addr} {n c:Nat} {L:List (iZ×Dc)} (h:Mk.eI w0 w b F N A n c L) (hb:Below w.heap.size w w'):Mk.eI w0 w' b F N A n c L:=
 ⟨h.base.trans (hb.mono h.base.size),h.T,h.K,h.bk.below hb,h.low,h.dc.turn (ae.af (F:=fun _=>False) hb) fun k _ r=>⟨id,r⟩,h.few,h.ok⟩
theorem Mk.eI.next {w0 w w':World} {b:Nat} {F F':Nat->Prop} {N N':List Nd} {A:Option Addr} {n c:Nat} {L:List (iZ×Dc)} (h:Mk.eI w0 w b F N A n c L) (I:Bk w' b F' N') (hT:ae F w w') (hF:∀ k,F' k->F k\/w.heap.size<=k):Mk.eI w0 w' b F' N' A n c L:=
 ⟨h.base.trans (hT.below h.base.size h.low),h.T,h.K,I,fun k r=>(hF k r).elim (h.low k) fun e=>Fo h.base.size e,h.dc.turn hT fun k J r=>⟨r,fun e=>(hF k e).elim r fun O=>by omega⟩,h.few,h.ok⟩
theorem Sx.bH.of:∀ (k:Nat) (x:Sx),x.size<=k->x.size<=1000->x.wide<=1048576->Sx.bH x
 |0,x,h,_,_=>absurd h (by have:=x.size_pos;omega)
 |k+1,x,h,r,I=>by
  have hw:=x.oD
  refine .mk x (by omega) (by have:=x.size_eq;have:=Sx.jq x.L;omega) fun y hy=>?_
  have J:=Sx.cV hy
  have O:=Sx.wD hy
  exact Sx.bH.of k y (by omega) (by omega) (by omega)
theorem Mk.qJ (D:List Dc):∀ k,k<=D.length->Mk.room D k=Bd.sizes (D.take k)+k
 |0,_=>by rw[Mk.room];simp[Bd.sizes]
 |k+1,h=>by
  have hd:D[k]?=some D[k]:=Ge h
  rw[Mk.room,Mk.qJ D k (by omega),Bd.fS hd,hd]
  simp only[GZ,G0]
  omega
theorem Bd.kC (D:List Dc):∀ k,k<=D.length->Bd.ez D (fun _=>true) k=Bd.l9 (D.take k)
 |0,_=>by rw[Bd.ez];rfl
 |k+1,h=>by
  have hd:D[k]?=some D[k]:=Ge h
  rw[Bd.ez,Bd.kC D k (by omega),Bd.nf hd]
  unfold Bd.arity
  rw[hd]
  simp only
  cases D[k].cL <;> simp
theorem Bd.uJ.ok {D:List Dc} {x:Sx} (h:Bd.uJ D x) (r:∀ d∈D,zm 1048576 d):Mk.vU D/\∀ k,k<=D.length->Mk.room D k<=660:=by
 have hs:∀ (j:Nat) d,D[j]?=some d->d.body.size<=600:=fun j d hd=>by
  have I:=h.sizes
  have J:=Fg.1 hd
  have Q:=Bd.fS hd
  have L:Bd.sizes (D.take (j+1))<=Bd.sizes D:=by
   conv=>rhs;rw[<-FM (j+1) D]
   unfold Bd.sizes
   rw[Hf,List.sum_append]
   omega
  omega
 refine⟨⟨fun j d hd=>⟨h.par d (FP hd),(r d (FP hd)).par⟩,fun j d hd=>Sx.bH.of d.body.size d.body (Fm _) (by have:=hs j d hd;omega) (r d (FP hd)).wide,fun d hd=>(r d hd).name,?_⟩,fun k O=>?_⟩
 ·rw[Bd.kC D _ (Fm _),Ib]
  exact h.l9
 ·rw[Mk.qJ D k O]
  have I:=h.sizes
  have J:=h.n
  have L:Bd.sizes (D.take k)<=Bd.sizes D:=by
   conv=>rhs;rw[<-FM k D]
   unfold Bd.sizes
   rw[Hf,List.sum_append]
   omega
  omega
theorem Ci:Mk.vU qN:=⟨fun j d hd=>by
 have:=FP hd
 rw[F0.1 this]
 exact⟨by decide,fun _ hp=>(FD hp).elim⟩,fun j d hd=>by
 have:=FP hd
 rw[F0.1 this]
 exact .mk _ (by decide) (by decide) fun _ hy=>(FD hy).elim,fun d hd=>by rw[F0.1 hd];decide,by decide⟩
theorem yy {x:Sx} (h:x.size<=1000) (r:x.wide<=1048576):Sx.bH x:=Sx.bH.of _ x (Fm _) h r
theorem yx:pI.size<=600/\pI.wide<=1048576:=⟨by simp[Sx.size,Sx.sizes],by decide +kernel⟩
theorem yS:rB.size<=600/\rB.wide<=1048576:=⟨by simp[Sx.size,Sx.sizes],by decide +kernel⟩
theorem wK:si.size<=600/\si.wide<=1048576:=⟨by simp[Sx.size,Sx.sizes],by decide +kernel⟩
theorem yz:Mk.room qN 1<=100:=by decide +kernel
theorem uo:Tm.Inv kH:=by
 have h:=(Bd.good qN 1 pI [] [] Tm.Inv.nil (fun _ h=>(FD h).elim)).1.1
 simp only[uq] at h
 exact h
abbrev Ej:List (iZ×Dc):=[(⟨none,0,none,0⟩,⟨⟨#[120]⟩,2,false,[],Sx.zero⟩)]
theorem xZ (w:World) (hT:dD w) (hK:iJ w) (hG:Gl w):
  Calls Tryz.prog 11 #[] w fun e w'=>e=.returned (.bool true)/\Below w.heap.size w w':=by
 obtain⟨I,bC⟩:∃ I,w.alloc (.cells Z9 37)=I:=⟨_,rfl⟩
 obtain⟨W2,bD⟩:∃ W2,I.alloc (.cells #[.string ⟨#[120]⟩,.int .i64 2,.bool false,.slice none 0 0,.bool false,.int .i64 0,.string ⟨#[]⟩,.int .i64 0,.int .i64 0,.slice none 0 0] 56)=W2:=⟨_,rfl⟩
 have cy:I.heap.size=w.heap.size+1:=by rw[<-bC];simp
 have cz:W2.heap.size=w.heap.size+2:=by rw[<-bD];simp;omega
 have bz:Below w.heap.size w I:=by rw[<-bC];exact(Gp _ w).alloc (Fm _) _
 have bB:Below I.heap.size I W2:=by rw[<-bD];exact(Gp _ _).alloc (Fm _) _
 have X:=bz.trans (bB.mono bz.size)
 have ch:Bk W2 w.heap.size (fun k=>k=w.heap.size) []:=by
  have:=BA w
  rw[bC] at this
  exact this.below bB
 have cf:aa W2 I.heap.size 56 #[.string ⟨#[120]⟩,.int .i64 2,.bool false,.slice none 0 0,.bool false,.int .i64 0,.string ⟨#[]⟩,.int .i64 0,.int .i64 0,.slice none 0 0]:=by
  have:=aa.new I 56 #[.string ⟨#[120]⟩,.int .i64 2,.bool false,.slice none 0 0,.bool false,.int .i64 0,.string ⟨#[]⟩,.int .i64 0,.int .i64 0,.slice none 0 0]
  rw[bD] at this
  exact this
 have cl:rX W2 (fun k=>¬k=w.heap.size) (some ⟨I.heap.size,0,none⟩) 1 1 Ej:=by
  refine⟨rfl,(fun e=>by cases e),fun _=>⟨I.heap.size,0,rfl,by omega,by omega,fun i q hq=>?_⟩⟩
  have hi:i=0:=by
   have:=(Fg.1 hq).1
   simpa using this
  subst hi
  obtain rfl:q=(⟨none,0,none,0⟩,⟨⟨#[120]⟩,2,false,[],Sx.zero⟩):=by simpa using hq.symm
  refine⟨fun j u hu=>?_,⟨⟨fun h=>absurd h (by decide)⟩,⟨⟨Fm _,Fz _⟩,.nil _⟩⟩⟩
  rw[Hx,Ho,FA,cf.cell,<-Hs]
  exact hu
 have ad:Mk.eI w W2 w.heap.size (fun k=>k=w.heap.size) [] (some ⟨I.heap.size,0,none⟩) 1 1 Ej:=⟨X,hT,hK,ch,fun k hk=>by omega,cl,by decide,Ci⟩
 have L:=Gn ad
 have cq:=Gn hG
 have b8:=Gn (sW W2 Bi pI (by decide) vE)
 have HR:=Gn fun(W:World) (s:ByteArray) (x:Sx) (hs:s.size<=4000000) (h:bW s [⟨x,0,0⟩])=>sW W s x hs h
 have V:Hid (∀ (W:World) (F:Nat->Prop) (N:List Nd) (x:Sx) (xA:Option Addr) (xc:Nat),Mk.eI w W w.heap.size F N (some ⟨I.heap.size,0,none⟩) 1 1 Ej->Tm.Inv N->N.length<=20000->aJ W (fun k _=>¬F k) x xA xc->x.size<=600->x.wide<=1048576->
   Calls Tryz.prog 13 #[.pointer (some ⟨w.heap.size,0,none⟩),.slice (some ⟨I.heap.size,0,none⟩) 1 1,aX x xA xc] W fun e w'=>cr W w.heap.size F (Bd.tm qN 1 [] N x) e w'):=fun W F N x xA xc h1 h2 h3 h4 h5 h6=>
  BZ w W w.heap.size F N _ 1 1 Ej x xA xc h1 hG h2 h3 h4 (yy (by omega) h6) (by have:=yz;show x.size+Mk.room qN 1<=_;omega)
 clear ad cl cf ch X bB bz cy cz hT hK hG
 go_enter Tryz.func11,Tryz.ntmps11
 go_wp2_with fail
 have cj:=L.out.bk.lt
 refine b8.out.mono ?_
 rintro e w3 ⟨⟨A1,c1,rfl,U⟩,b3⟩
 have bE:=L.out.below b3
 have bn:=Gn (V.out w3 _ [] pI A1 c1 bE Tm.Inv.nil (by decide) ⟨U.le,U.tree.mono fun k _ _ hk e=>by have:=cj k e;omega⟩ yx.1 yx.2)
 rw[uq] at bn
 have b2:=Gn bE
 clear bE U b3 b8 cj L
 go_wp2_with fail
 refine bn.out.mono ?_
 rintro e w4 ⟨rfl,F4,k4,t4,f4⟩
 have a1:=Gn (b2.out.next k4 t4 f4)
 clear bn b2 k4 t4 f4
 go_wp2_with fail
 refine(HR.out w4 AH rB (by decide) vR).mono ?_
 rintro e w5 ⟨⟨A2,c2,rfl,U⟩,b5⟩
 have bL:=a1.out.below b5
 have bo:=Gn (V.out w5 _ kH rB A2 c2 bL uo (by decide) ⟨U.le,U.tree.mono fun k _ _ hk e=>by have:=a1.out.bk.lt k e;omega⟩ yS.1 yS.2)
 rw[AF] at bo
 have b4:=Gn bL
 clear bL U b5 a1
 go_wp2_with fail
 refine bo.out.mono ?_
 rintro e w6 ⟨rfl,F6,k6,t6,f6⟩
 have a7:=Gn (b4.out.next k6 t6 f6)
 clear bo b4 k6 t6 f6
 go_wp2_with fail
 refine(HR.out w6 zH si (by decide) uH).mono ?_
 rintro e w7 ⟨⟨A3,c3,rfl,U⟩,b7⟩
 have bP:=a7.out.below b7
 have bp:=Gn (V.out w7 _ kH si A3 c3 bP uo (by decide) ⟨U.le,U.tree.mono fun k _ _ hk e=>by have:=a7.out.bk.lt k e;omega⟩ wK.1 wK.2)
 rw[Ac] at bp
 have b6:=Gn bP
 clear bP U b7 a7
 go_wp2_with fail
 refine bp.out.mono ?_
 rintro e w8 ⟨rfl,F8,k8,t8,f8⟩
 have bT:=b6.out.next k8 t8 f8
 have b1:=Gn (CJ w8 w.heap.size F8 kH 4 sD bT.bk rfl)
 have ba:=Gn bT.base
 clear bp b6 k8 t8 f8 bT V
 go_wp2_with fail
 refine b1.out.mono ?_
 rintro e w9 ⟨⟨P,rfl,_⟩,b9⟩
 have bb:=Gn (ba.out.trans (b9.mono ba.out.size))
 clear b1 b9 ba
 obtain⟨Q,ah⟩:∃ Q,w9.alloc (.cells #[.int .i64 17,.int .i64 2,.slice P.A P.n P.c,.string ByteArray.empty,.bool P.g,.slice P.B P.m P.d,.slice P.C P.p P.f] 50)=Q:=⟨_,rfl⟩
 have Z:Below w.heap.size w Q:=by rw[<-ah];exact bb.out.alloc bb.out.size _
 have ao:aa Q w9.heap.size 50 #[.int .i64 17,.int .i64 2,.slice P.A P.n P.c,.string ByteArray.empty,.bool P.g,.slice P.B P.m P.d,.slice P.C P.p P.f]:=by rw[<-ah];exact aa.new w9 _ _
 have J:=Gn Z
 have O:=Gn ao
 have ca:=Gn (HR.out Q AR wB (by decide) vL)
 have cb:=Gn fun(W:World) (A:Option Addr) (c:Nat)=>zK W wB A c
 have cv:Hid (∀ W,Calls Tryz.prog 39 #[.string ⟨#[108,101,116]⟩] W fun e w'=>e=.returned (.bool true)/\w'=W):=fun W=>by
  have:=fu ⟨#[108,101,116]⟩ W
  rwa [show Bd.reserved (⟨#[108,101,116]⟩:ByteArray).data.toList=true by decide] at this
 have cx:Hid (∀ W,Calls Tryz.prog 39 #[.string ⟨#[120]⟩] W fun e w'=>e=.returned (.bool false)/\w'=W):=fun W=>by
  have:=fu ⟨#[120]⟩ W
  rwa [show Bd.reserved (⟨#[120]⟩:ByteArray).data.toList=false by decide] at this
 clear bb Z ao HR cq
 go_wp2_with fail
 refine ca.out.mono ?_
 rintro e cE ⟨⟨A4,c4,rfl,_⟩,cc⟩
 have bl:=Gn (cb.out cE A4 c4)
 rw[show Bd.sort wB=(3,0) by decide] at bl
 have r:=Gn cc
 clear ca cb cc
 go_wp2_with fail
 refine bl.out.mono ?_
 rintro e cF ⟨rfl,bx⟩
 have av:=((r.out.trans (bx.mono r.out.size)).block _ O.out.lt).trans O.out
 have c12:cF.cell? ⟨w9.heap.size,0,none⟩=some (.int .i64 17):=by rw[aa.cell (t:=50) (cs:=#[.int .i64 17,.int .i64 2,.slice P.A P.n P.c,.string ByteArray.empty,.bool P.g,.slice P.B P.m P.d,.slice P.C P.p P.f]) av];rfl
 have HE:=Gn (J.out.trans ((r.out.trans (bx.mono r.out.size)).mono J.out.size))
 clear bl r J O bx av
 go_wp2_with (go_at_call 39;(first|(with_reducible refine(cv.out _).mono ?_)|(with_reducible refine(cx.out _).mono ?_));rintro e cN ⟨rfl,rfl⟩)
 go_ret
 exact⟨rfl,HE.out⟩
end Go.Proofs.YtdbgiijdgedggaaGreatDoor
namespace Go.Proofs.YtdbgiijdgedggaaGreatDoor
theorem Bd.pJ {f:List Nd->Sx->bN}:∀ (l:List Sx) (N:List Nd),(∀ y∈l,∀ M,M.length<=20000->(f M y).1.length<=20000)->N.length<=20000->(Bd.each f N l).1.length<=20000
 |[],_,_,h=>h
 |x::l,N,hf,h=>by
  have r:=hf x Gc N h
  rw[Bd.each]
  cases O:f N x with
  |mk N' q=>
   obtain⟨id,e⟩:=q
   rw[O] at r
   simp only at r ⊢
   have I:=Bd.pJ l N' (fun y hy=>hf y (Gd _ hy)) r
   split
   ·cases J:Bd.each f N' l with
    |mk L q=>
     obtain⟨ids,Q⟩:=q
     rw[J] at I
     simp only at I ⊢
     split <;> exact I
   ·exact r
theorem Bd.Cq {D:List Dc} {j:Nat} (h:∀ y sc N,N.length<=20000->(Bd.tm D j sc N y).1.length<=20000) (A:List Int) (N:List Nd) (r:N.length<=20000):(Bd.fn D j A N).1.length<=20000:=by
 unfold Bd.fn Bd.fV
 split
 ·exact r
 ·split
  ·exact r
  ·split
   ·exact r
   ·exact h _ _ _ r
theorem Bd.Cu (D:List Dc):∀ k x,∀ (sc:Sc) (N:List Nd),N.length<=20000->(Bd.tm D k sc N x).1.length<=20000:=by
 refine Bd.induct fun k x hk X=>?_
 intro sc N I
 have Q:∀ (sc:Sc) (l:List Sx),(∀ y∈l,y.size<x.size)->(Bd.each (Bd.tm D k sc) N l).1.length<=20000:=fun sc l hl=>Bd.pJ l N (fun y hy M Z=>X y (hl y hy) sc M Z) I
 have hF:∀ j,j<k->∀ A N,N.length<=20000->(Bd.fn D j A N).1.length<=20000:=fun j V A N I=>Bd.Cq (fun y sc N I=>hk j y V sc N I) A N I
 rw[Bd.iB]
 unfold Bd.step
 split
 ·unfold Bd.gD
  cases U:x.L with
  |nil=>exact I
  |cons h r=>
   simp only
   have hr:∀ y∈r,y.size<x.size:=fun y hy=>Sx.cV (by rw[U];exact Gd _ hy)
   split
   ·exact I
   split
   ·unfold Bd.dP
    split
    ·rename_i b t
     split
     ·exact I
     cases hb:Bd.binds b.L with
     |none=>exact I
     |some m=>
      simp only
      obtain⟨z1,z2⟩:=Bd.jd U hb
      have J:=Q sc (m.map (·.2)) z2
      split
      ·exact I
      split
      ·exact I
      cases O:Bd.each (Bd.tm D k sc) N (m.map (·.2)) with
      |mk N' q=>
       obtain⟨ids,e⟩:=q
       rw[O] at J
       simp only at J ⊢
       split
       ·exact X t z1 _ N' J
       ·exact J
    ·exact I
   have J:=Q sc r hr
   cases O:Bd.each (Bd.tm D k sc) N r with
   |mk N' q=>
    obtain⟨ids,e⟩:=q
    rw[O] at J
    simp only at J ⊢
    split
    ·split
     ·exact Tm.rN J _ _
     ·exact J
    split
    ·exact I
    split
    ·exact I
    cases hd:Bd.decl D h.T k with
    |none=>exact I
    |some j=>
     simp only
     split
     ·split
      ·exact hF j (Bd.bK hd).1 ids N' J
      ·exact J
     ·exact I
 ·unfold Bd.kf
  split
  ·split
   ·exact Tm.rr I _
   ·exact I
  split
  ·exact Tm.sF I _
  split
  ·unfold Bd.jA
   split
   ·exact Tm.oV I _
   split
   ·exact I
   cases hb:Bd.bound sc x.T with
   |some i=>exact I
   |none=>
    simp only
    cases hd:Bd.decl D x.T k with
    |none=>exact I
    |some j=>
     simp only
     cases V:D[j]? with
     |none=>exact I
     |some d=>
      simp only
      split
      ·split
       ·exact hF j (Bd.bK hd).1 [] N I
       ·exact I
      ·exact Tm.kI I _ _
  ·exact I
end Go.Proofs.YtdbgiijdgedggaaGreatDoor
