import Derived.Test.YtdbgiijdgedggaaGreatDoorQM14
import Derived.Test.YtdbgiijdgedggaaGreatDoorQM11
set_option linter.unusedSimpArgs false
set_option linter.unusedVariables false
set_option maxRecDepth 100000
set_option maxHeartbeats 25600000
namespace Go.Proofs.YtdbgiijdgedggaaGreatDoor
open Go.RowKit
structure Bk (w:World) (b:Nat) (F:Nat->Prop) (l:List Nd):Prop where
 Fe:∃ (Ft I:Nat->Prop) (A:Option Addr) (c:Nat) (L:List (bJ×Nd)),fJ w Ft b (l.map Tm.key) (.slice A l.length c)/\(∀ k,F k↔(Ft k\/(Value.slice A l.length c).ownBlock=some k)\/I k)/\(∀ k,(Value.slice A l.length c).ownBlock=some k->¬Ft k)/\gL w 0 A c L/\L.map (·.2)=l/\(∀ q∈L,iQ w I q.1 q.2)/\∀ k,I k->¬(Ft k\/(Value.slice A l.length c).ownBlock=some k)/\k<w.heap.size
 good:∀ x∈l,Tm.Good x
theorem gL.bR {F:Nat->Prop} {w w':World} {B:Nat} {A:Option Addr} {c n:Nat} {L:List (bJ×Nd)} (h:gL w B A c L) (hn:L.length=n) (hT:ae F w w') (hF:∀ k,(Value.slice A n c).ownBlock=some k->¬F k):gL w' B A c L:=by
 subst hn
 exact hT.own h hF
theorem gL.EU {w:World} {B:Nat} {A:Option Addr} {c n:Nat} {L:List (bJ×Nd)} (h:gL w B A c L) (hn:L.length=n):∀ k,(Value.slice A n c).ownBlock=some k->k<w.heap.size:=by
 subst hn
 exact fun k r=>(Gh h k r).2
theorem Bk.turn {G F:Nat->Prop} {w w':World} {b:Nat} {l:List Nd} (h:Bk w b F l) (hT:ae G w w') (O:∀ k,F k->¬G k):Bk w' b F l:=by
 obtain⟨⟨V,I,A,c,L,X,J,Z,h4,Q,h6,U⟩,hg⟩:=h
 have hL:L.length=l.length:=by rw[<-Q,Fi]
 exact⟨⟨V,I,A,c,L,X.turn hT (fun i hi=>O i ((J i).2 (.inl (.inl hi)))),J,Z,h4.bR hL hT (fun k r=>O k ((J k).2 (.inl (.inr r)))),Q,fun q hq=>(h6 q hq).turn hT (fun k r=>O k ((J k).2 (.inr r))),fun k r=>⟨(U k r).1,Fp (U k r).2 hT.size⟩⟩,hg⟩
theorem Bk.below {w w':World} {b:Nat} {F:Nat->Prop} {l:List Nd} (h:Bk w b F l) (hb:Below w.heap.size w w'):Bk w' b F l:=h.turn (G:=fun _=>False) (ae.af hb) fun _ _=>id
theorem Bk.lt {w:World} {b:Nat} {F:Nat->Prop} {l:List Nd} (h:Bk w b F l):∀ k,F k->k<w.heap.size:=by
 obtain⟨⟨Z,I,A,c,L,r,J,h3,O,Q,h6,U⟩,hg⟩:=h
 have V:L.length=l.length:=by rw[<-Q,Fi]
 intro k X
 rcases(J k).1 X with(e|e)|e
 ·exact r.lt k e
 ·exact O.EU V k e
 ·exact(U k e).2
abbrev Z9:Array Value:=#[.map none,.slice none 0 0,.slice none 0 0]
theorem BA (w:World):Bk (w.alloc (.cells Z9 37)) w.heap.size (fun k=>k=w.heap.size) []:=
 ⟨⟨fun k=>k=w.heap.size,fun _=>False,none,0,[],fJ.new w _,fun _=>⟨fun h=> .inl (.inl h),fun h=>h.elim (fun h=>h.elim id (fun e=>nomatch e)) False.elim⟩,(fun _ e=>nomatch e),Gg _ _ _ _,rfl,fun _ r=>absurd r FD,fun _ e=>e.elim⟩,fun _ I=>absurd I FD⟩
theorem Bk.cell {w:World} {b:Nat} {F:Nat->Prop} {l:List Nd} (h:Bk w b F l):∃ A c,b<w.heap.size/\w.cell? ⟨b,2,none⟩=some (.slice A l.length c)/\
  ∀ (i:Nat) x,l[i]?=some x->∃ g off P,A=some ⟨g,off,none⟩/\g<w.heap.size/\iQ w (fun _=>True) P x/\∀ j u,(P.cells x)[j]?=some u->w.cell? ⟨g,off+i*7+j,none⟩=some u:=by
 obtain⟨⟨Ft,I,A,c,L,⟨⟨m,v,V,_⟩,_⟩,h2,h3,O,Q,Z,h7⟩,hg⟩:=h
 have hL:L.length=l.length:=by rw[<-Q,Fi]
 refine⟨A,c,V.lt,by rw[V.cell];rfl,fun i x U=>?_⟩
 rw[<-Q,Fj] at U
 obtain⟨q,J,rfl⟩:=FT.1 U
 have ad:=(Fg.1 J).1
 rcases O.2 with⟨_,e⟩|⟨g,cap,cur,e,_,r,_⟩
 ·omega
 ·injection e with X _ _
  subst X
  exact⟨g,0,q.1,rfl,(Fl.1 r).1,(Z q (FP J)).mono (fun _ _=>trivial),fun j u hu=>by rw[FA];exact O.cell J hu⟩
theorem yO (w:World) (b:Nat) (F:Nat->Prop) (l:List Nd) (h:Bk w b F l):Calls Tryz.prog 15 #[.pointer (some ⟨b,0,none⟩)] w fun e w'=>e=.returned (.int .i64 (l.length:Nat))/\Below w.heap.size w w':=by
 obtain⟨A,c,hb,hc,_⟩:=h.cell
 obtain⟨n,hn⟩:∃ n,l.length=n:=⟨_,rfl⟩
 rw[hn] at hc ⊢
 clear h hn
 go_enter Tryz.func15,Tryz.ntmps15
 go_wp2
 go_ret
 exact⟨rfl,Gp _ _⟩
theorem xR (w:World) (b:Nat) (F:Nat->Prop) (l:List Nd) (h:Bk w b F l) (i:Int):Calls Tryz.prog 47 #[.pointer (some ⟨b,0,none⟩),.int .i64 i] w fun e w'=>e=.returned (.bool (decide (0<=i/\i<l.length)))/\Below w.heap.size w w':=by
 have HL:=Gn (yO w b F l h)
 obtain⟨n,hn⟩:∃ n,l.length=n:=⟨_,rfl⟩
 rw[hn] at HL ⊢
 clear h hn
 by_cases J:0<=i
 ·by_cases r:i<(n:Int)
  ·rw[FW (show 0<=i/\i<(n:Int) from⟨J,r⟩)]
   have d1:decide (i<(n:Int))=true:=FW r
   go_enter Tryz.func47,Tryz.ntmps47
   go_wp2_with (go_at_call 15;refine HL.out.mono ?_;rintro e L ⟨rfl,I⟩)
   go_ret
   exact⟨rfl,I⟩
  ·rw[Gq (show ¬(0<=i/\i<(n:Int)) from fun h=>r h.2)]
   have d1:decide (i<(n:Int))=false:=Gq r
   go_enter Tryz.func47,Tryz.ntmps47
   go_wp2_with (go_at_call 15;refine HL.out.mono ?_;rintro e L ⟨rfl,I⟩)
   go_ret
   exact⟨rfl,I⟩
 ·rw[Gq (show ¬(0<=i/\i<(n:Int)) from fun h=>J h.1)]
  clear HL
  go_enter Tryz.func47,Tryz.ntmps47
  go_wp2
  go_ret
  exact⟨rfl,Gp _ _⟩
theorem wT (w:World) (b:Nat) (F:Nat->Prop) (l:List Nd) (h:Bk w b F l) (A:Option Addr) (n c:Nat) (a:List Int) (ha:aH w A n a) (hn:n<=1000000):
  Calls Tryz.prog 80 #[.pointer (some ⟨b,0,none⟩),.slice A n c] w fun e w'=>e=.returned (.bool (Tm.ct l a))/\Below w.heap.size w w':=by
 obtain⟨r,hr⟩:∃ r,Tm.ct l a=r:=⟨_,rfl⟩
 have HR:Hid (∀ i,i<=n->(∀ z∈a.take i,decide (0<=z/\z<(l.length:Int))=true)->(∀ z,a[i]?=some z->decide (0<=z/\z<(l.length:Int))=false->r=false)/\(i=n->r=true)):=fun i _ hi=>by
  refine⟨fun z hz hd=>?_,fun e=>?_⟩
  ·rw[<-hr]
   unfold Tm.ct
   rw[List.all_eq_false]
   exact⟨z,FP hz,by simpa using hd⟩
  ·rw[<-hr]
   unfold Tm.ct
   rw[Gt]
   intro z hz
   have:z∈a.take i:=by rw[e,<-ha.len,Ib];exact hz
   exact hi z this
 rw[hr]
 have HA:=Gn ha
 have HH:=Gn fun W (hW:Below w.heap.size w W) (i:Int)=>xR W b F l (h.below hW) i
 clear h ha hr
 go_enter Tryz.func80,Tryz.ntmps80
 go_wp2_with fail
 go_loopw [9] (fun iv wr=>∃ i:Nat,i<=n/\iv=.int .i64 (i:Nat)/\Hid (Below w.heap.size w wr/\∀ z∈a.take i,decide (0<=z/\z<(l.length:Int))=true)) (fun iv _=>n-(intOf iv).toNat)
 case atStart=>exact⟨0,Fz _,rfl,Gp _ _,fun z hz=>by simp at hz⟩
 case round=>
  obtain⟨i,hi,rfl,I⟩:=hrel
  by_cases Z:i<n
  ·have ah:(i:Int)<(n:Int):=by omega
   have av:(0:Int)<=(i:Int):=by omega
   obtain⟨bA,oA,z,rfl,hz,ad,_,hc⟩:=HA.out.get Z
   obtain⟨_,cz⟩:=hc wr I.out.1
   have HC:=Gn (HH.out wr I.out.1 z)
   have Q:=Gn (HR.out i hi I.out.2)
   have HZ:=Gn hz
   have L:Hid (∀ J,Below wr.heap.size wr J->decide (0<=z/\z<(l.length:Int))=true->Below w.heap.size w J/\∀ y∈a.take (i+1),decide (0<=y/\y<(l.length:Int))=true):=fun J U hd=>by
    refine⟨I.out.1.trans (U.mono I.out.1.size),fun y hy=>?_⟩
    rw[take_one hz] at hy
    rcases F7.1 hy with hy|hy
    ·exact I.out.2 y hy
    ·rw[F0.1 hy];exact hd
   have O:Hid (∀ J,Below wr.heap.size wr J->Below w.heap.size w J):=fun J U=>I.out.1.trans (U.mono I.out.1.size)
   have a1:IntKind.i64.wrap ((i:Int)+1)=(i:Int)+1:=GR _ (by omega)
   obtain⟨d,hd⟩:∃ d,decide (0<=z/\z<(l.length:Int))=d:=⟨_,rfl⟩
   rw[hd] at HC L
   have HD:=Gn hd
   clear hz ad hc I HA HH HR hd
   go_wp2_with fail
   refine HC.out.mono ?_
   rintro e J ⟨rfl,U⟩
   have B1:=Gn U
   clear HC U cz
   cases d with
   |true=>
    have V:=Gn (L.out J B1.out rfl)
    clear L Q HZ HD O B1
    go_wp2
    go_roundw
    case rel=>exact⟨i+1,by omega,by go_num,V.out⟩
    case measure=>simp[intOf];omega
   |false=>
    obtain rfl:=Q.out.1 z HZ.out HD.out
    have V:=Gn (O.out J B1.out)
    clear L Q HZ HD O B1
    go_wp2
    go_ret
    exact⟨rfl,V.out⟩
  ·have X:i=n:=by omega
   have ao:¬(i:Int)<(n:Int):=by omega
   obtain rfl:=(HR.out i hi I.out.2).2 X
   have V:=Gn I.out.1
   clear I HA HH HR Z X hi
   go_wp2
   go_ret
   exact⟨rfl,V.out⟩
theorem CJ (w:World) (b:Nat) (F:Nat->Prop) (l:List Nd) (i:Nat) (x:Nd) (h:Bk w b F l) (hi:l[i]?=some x):Calls Tryz.prog 16 #[.pointer (some ⟨b,0,none⟩),.int .i64 (i:Int)] w fun e w'=>(∃ P:bJ,e=.returned (.tuple #[.agg (P.cells x),.bool true])/\dk w' (fun _=>True) P x)/\Below w.heap.size w w':=by
 obtain⟨W0,X⟩:∃ W0,w.alloc (.cells #[.int .i64 0,.int .i64 0,.slice none 0 0,.string ⟨#[]⟩,.bool false,.slice none 0 0,.slice none 0 0] 50)=W0:=⟨_,rfl⟩
 have B0:Below w.heap.size w W0:=by rw[<-X];exact(Gp _ w).alloc (Fm _) _
 have L0:aa W0 w.heap.size 50 #[.int .i64 0,.int .i64 0,.slice none 0 0,.string ⟨#[]⟩,.bool false,.slice none 0 0,.slice none 0 0]:=by rw[<-X];exact aa.new w _ _
 have bb:=(Fg.1 hi).1
 have HH:=Gn (xR W0 b F l (h.below B0) (i:Int))
 rw[FW (show 0<=(i:Int)/\(i:Int)<(l.length:Int) by omega)] at HH
 obtain⟨A,c,hb,hc,hx⟩:=(h.below B0).cell
 obtain⟨g,off,P,rfl,hg,hP,ba⟩:=hx i x hi
 have bl:(0:Int)<=(i:Int):=by omega
 obtain⟨n,hn⟩:∃ n,l.length=n:=⟨_,rfl⟩
 rw[hn] at hc bb
 have bn:(i:Int)<(n:Int):=by omega
 have Q:=Gn B0
 have V:=Gn L0
 have HP:=Gn hP
 have HC:=Gn ba
 have ad:Hid (W0.cell? ⟨b,2,none⟩=some (.slice (some ⟨g,off,none⟩) n c)):=hc
 obtain⟨pA,pn,pc,pg,pB,pm,pd,pC,pp,pf⟩:=P
 clear h hi B0 L0 hx hP ba hc hn bb
 go_enter Tryz.func16,Tryz.ntmps16
 go_wp2_with fail
 refine HH.out.mono ?_
 rintro e w1 ⟨rfl,b1⟩
 have ao:=Q.out.trans (b1.mono Q.out.size)
 have cb:w1.cell? ⟨b,2,none⟩=some (.slice (some ⟨g,off,none⟩) n c):=(b1.cell (p:=⟨b,2,none⟩) hb).trans ad.out
 have O:∀ j u,(bJ.cells ⟨pA,pn,pc,pg,pB,pm,pd,pC,pp,pf⟩ x)[j]?=some u->w1.cell? ⟨g,off+i*7+j,none⟩=some u:=fun j u hu=>(b1.cell (p:=⟨g,off+i*7+j,none⟩) hg).trans (HC.out j u hu)
 have c0:=O 0 _ rfl
 have c1:=O 1 _ rfl
 have c2:=O 2 _ rfl
 have c3:=O 3 _ rfl
 have c4:=O 4 _ rfl
 have c5:=O 5 _ rfl
 have c6:=O 6 _ rfl
 have av:aa w1 w.heap.size 50 #[.int .i64 0,.int .i64 0,.slice none 0 0,.string ⟨#[]⟩,.bool false,.slice none 0 0,.slice none 0 0]:=(b1.block _ V.out.lt).trans V.out
 have ah:=Gn (DT w1 _ x (HP.out.below b1))
 have U:=Gn ao
 have L:=Gn av
 simp only[Ho] at c0
 clear HH b1 Q V HP HC ad ao av O X
 go_wp2_with fail
 refine ah.out.mono ?_
 rintro e w2 ⟨⟨P',rfl,a1⟩,b2⟩
 obtain⟨Z,qn,qc,qg,qB,qm,qd,qC,qp,qf⟩:=P'
 have r:aa w2 w.heap.size 50 #[.int .i64 0,.int .i64 0,.slice none 0 0,.string ⟨#[]⟩,.bool false,.slice none 0 0,.slice none 0 0]:=(b2.block _ L.out.lt).trans L.out
 obtain⟨J,a7⟩:∃ J,((((((w2.setCell ⟨w.heap.size,0,none⟩ (.int .i64 x.op)).setCell ⟨w.heap.size,1,none⟩ (.int .i64 x.sort)).setCell ⟨w.heap.size,2,none⟩ (.slice Z qn qc)).setCell ⟨w.heap.size,3,none⟩ (.string x.name)).setCell ⟨w.heap.size,4,none⟩ (.bool qg)).setCell ⟨w.heap.size,5,none⟩ (.slice qB qm qd)).setCell ⟨w.heap.size,6,none⟩ (.slice qC qp qf)=J:=⟨_,rfl⟩
 have I:aa J w.heap.size 50 #[.int .i64 x.op,.int .i64 x.sort,.slice Z qn qc,.string x.name,.bool qg,.slice qB qm qd,.slice qC qp qf]:=by
  rw[<-a7]
  exact((((((r.put 0 (.int .i64 x.op)).put 1 (.int .i64 x.sort)).put 2 (.slice Z qn qc)).put 3 (.string x.name)).put 4 (.bool qg)).put 5 (.slice qB qm qd)).put 6 (.slice qC qp qf)
 have T4:ae (fun k=>k=w.heap.size) w2 J:=by
  rw[<-a7]
  exact(((((((ae.refl (fun k=>k=w.heap.size) w2).put (p:=⟨w.heap.size,0,none⟩) (.inl rfl) _).put (p:=⟨w.heap.size,1,none⟩) (.inl rfl) _).put (p:=⟨w.heap.size,2,none⟩) (.inl rfl) _).put (p:=⟨w.heap.size,3,none⟩) (.inl rfl) _).put (p:=⟨w.heap.size,4,none⟩) (.inl rfl) _).put (p:=⟨w.heap.size,5,none⟩) (.inl rfl) _).put (p:=⟨w.heap.size,6,none⟩) (.inl rfl) _
 have HE:Hid (dk J (fun _=>True) ⟨Z,qn,qc,qg,qB,qm,qd,qC,qp,qf⟩ x/\Below w.heap.size w J):=by
  refine⟨((a1.turn T4 (fun k hk e=>by have:=L.out.lt;omega)).E0).mono (fun _ _=>trivial),?_⟩
  exact((ae.af (F:=fun k=>w.heap.size<=k) (U.out.trans (b2.mono U.out.size))).trans T4 (fun k hk=> .inl (by omega))).below (Fm _) (fun _ h=>h)
 have k0:J.cell? ⟨w.heap.size,0,none⟩=some (.int .i64 x.op):=by rw[I.cell];rfl
 have k1:J.cell? ⟨w.heap.size,1,none⟩=some (.int .i64 x.sort):=by rw[I.cell];rfl
 have k2:J.cell? ⟨w.heap.size,2,none⟩=some (.slice Z qn qc):=by rw[I.cell];rfl
 have k3:J.cell? ⟨w.heap.size,3,none⟩=some (.string x.name):=by rw[I.cell];rfl
 have k4:J.cell? ⟨w.heap.size,4,none⟩=some (.bool qg):=by rw[I.cell];rfl
 have k5:J.cell? ⟨w.heap.size,5,none⟩=some (.slice qB qm qd):=by rw[I.cell];rfl
 have k6:J.cell? ⟨w.heap.size,6,none⟩=some (.slice qC qp qf):=by rw[I.cell];rfl
 have r0:=r.cell 0
 have r1:=r.cell 1
 have r2:=r.cell 2
 have r3:=r.cell 3
 have r4:=r.cell 4
 have r5:=r.cell 5
 have r6:=r.cell 6
 have y0:=r.free 0
 have y1:=r.free 1
 have y2:=r.free 2
 have y3:=r.free 3
 have y4:=r.free 4
 have y5:=r.free 5
 have y6:=r.free 6
 have ll:=r.lt
 simp at r0 r1 r2 r3 r4 r5 r6
 clear ah a1 b2 r I T4 U L c0 c1 c2 c3 c4 c5 c6 cb
 go_wp2
 exact GD (v:=.tuple #[.agg #[.int .i64 x.op,.int .i64 x.sort,.slice Z qn qc,.string x.name,.bool qg,.slice qB qm qd,.slice qC qp qf],.bool true]) (by simp[results,Tryz.results16,go_sem,k0,k1,k2,k3,k4,k5,k6]) rfl ⟨⟨⟨Z,qn,qc,qg,qB,qm,qd,qC,qp,qf⟩,rfl,HE.out.1⟩,HE.out.2⟩
theorem Cy (w:World) (b:Nat) (F:Nat->Prop) (l:List Nd) (i:Int) (h:Bk w b F l) (hi:i<0\/(l.length:Int)<=i):Calls Tryz.prog 16 #[.pointer (some ⟨b,0,none⟩),.int .i64 i] w fun e w'=>e=.returned (.tuple #[.agg #[.int .i64 0,.int .i64 0,.slice none 0 0,.string ⟨#[]⟩,.bool false,.slice none 0 0,.slice none 0 0],.bool false])/\Below w.heap.size w w':=by
 obtain⟨U,Q⟩:∃ U,w.alloc (.cells #[.int .i64 0,.int .i64 0,.slice none 0 0,.string ⟨#[]⟩,.bool false,.slice none 0 0,.slice none 0 0] 50)=U:=⟨_,rfl⟩
 have Z:Below w.heap.size w U:=by rw[<-Q];exact(Gp _ w).alloc (Fm _) _
 have L0:aa U w.heap.size 50 #[.int .i64 0,.int .i64 0,.slice none 0 0,.string ⟨#[]⟩,.bool false,.slice none 0 0,.slice none 0 0]:=by rw[<-Q];exact aa.new w _ _
 have HH:=Gn (xR U b F l (h.below Z) i)
 rw[Gq (show ¬(0<=i/\i<(l.length:Int)) by omega)] at HH
 have L:=Gn Z
 have O:=Gn L0
 clear h hi Z L0
 go_enter Tryz.func16,Tryz.ntmps16
 go_wp2_with fail
 refine HH.out.mono ?_
 rintro e X ⟨rfl,b2⟩
 have r:aa X w.heap.size 50 #[.int .i64 0,.int .i64 0,.slice none 0 0,.string ⟨#[]⟩,.bool false,.slice none 0 0,.slice none 0 0]:=(b2.block _ O.out.lt).trans O.out
 obtain⟨J,V⟩:∃ J,((((((X.setCell ⟨w.heap.size,0,none⟩ (.int .i64 0)).setCell ⟨w.heap.size,1,none⟩ (.int .i64 0)).setCell ⟨w.heap.size,2,none⟩ (.slice none 0 0)).setCell ⟨w.heap.size,3,none⟩ (.string ⟨#[]⟩)).setCell ⟨w.heap.size,4,none⟩ (.bool false)).setCell ⟨w.heap.size,5,none⟩ (.slice none 0 0)).setCell ⟨w.heap.size,6,none⟩ (.slice none 0 0)=J:=⟨_,rfl⟩
 have I:aa J w.heap.size 50 #[.int .i64 0,.int .i64 0,.slice none 0 0,.string ⟨#[]⟩,.bool false,.slice none 0 0,.slice none 0 0]:=by
  rw[<-V]
  exact((((((r.put 0 (.int .i64 0)).put 1 (.int .i64 0)).put 2 (.slice none 0 0)).put 3 (.string ⟨#[]⟩)).put 4 (.bool false)).put 5 (.slice none 0 0)).put 6 (.slice none 0 0)
 have T4:ae (fun k=>k=w.heap.size) X J:=by
  rw[<-V]
  exact(((((((ae.refl (fun k=>k=w.heap.size) X).put (p:=⟨w.heap.size,0,none⟩) (.inl rfl) _).put (p:=⟨w.heap.size,1,none⟩) (.inl rfl) _).put (p:=⟨w.heap.size,2,none⟩) (.inl rfl) _).put (p:=⟨w.heap.size,3,none⟩) (.inl rfl) _).put (p:=⟨w.heap.size,4,none⟩) (.inl rfl) _).put (p:=⟨w.heap.size,5,none⟩) (.inl rfl) _).put (p:=⟨w.heap.size,6,none⟩) (.inl rfl) _
 have HE:Hid (Below w.heap.size w J):=
  ((ae.af (F:=fun k=>w.heap.size<=k) (L.out.trans (b2.mono L.out.size))).trans T4 (fun k hk=> .inl (by omega))).below (Fm _) (fun _ h=>h)
 have k0:J.cell? ⟨w.heap.size,0,none⟩=some (.int .i64 0):=by rw[I.cell];rfl
 have k1:J.cell? ⟨w.heap.size,1,none⟩=some (.int .i64 0):=by rw[I.cell];rfl
 have k2:J.cell? ⟨w.heap.size,2,none⟩=some (.slice none 0 0):=by rw[I.cell];rfl
 have k3:J.cell? ⟨w.heap.size,3,none⟩=some (.string ⟨#[]⟩):=by rw[I.cell];rfl
 have k4:J.cell? ⟨w.heap.size,4,none⟩=some (.bool false):=by rw[I.cell];rfl
 have k5:J.cell? ⟨w.heap.size,5,none⟩=some (.slice none 0 0):=by rw[I.cell];rfl
 have k6:J.cell? ⟨w.heap.size,6,none⟩=some (.slice none 0 0):=by rw[I.cell];rfl
 have r0:=r.cell 0
 have r1:=r.cell 1
 have r2:=r.cell 2
 have r3:=r.cell 3
 have r4:=r.cell 4
 have r5:=r.cell 5
 have r6:=r.cell 6
 have y0:=r.free 0
 have y1:=r.free 1
 have y2:=r.free 2
 have y3:=r.free 3
 have y4:=r.free 4
 have y5:=r.free 5
 have y6:=r.free 6
 have ll:=r.lt
 simp at r0 r1 r2 r3 r4 r5 r6
 clear HH b2 r I T4 L O Q
 go_wp2
 exact GD (v:=.tuple #[.agg #[.int .i64 0,.int .i64 0,.slice none 0 0,.string ⟨#[]⟩,.bool false,.slice none 0 0,.slice none 0 0],.bool false]) (by simp[results,Tryz.results16,go_sem,k0,k1,k2,k3,k4,k5,k6]) rfl ⟨rfl,HE.out⟩
theorem fJ.put {w:World} {F:Nat->Prop} {r:Nat} {X:List Ky} {V:Value} (h:fJ w F r X V) (I:Value):fJ (w.setCell ⟨r,2,none⟩ I) F r X I:=by
 obtain⟨⟨m,v,J,Q,Z,L⟩,ok,jP,lt,few⟩:=h
 have ht:ae (fun i=>i=r) w (w.setCell ⟨r,2,none⟩ I):=(ae.refl (fun i=>i=r) w).put (p:=⟨r,2,none⟩) (.inl rfl) I
 refine⟨⟨m,v,J.put 2 I,ht.own Q (fun g hg e=>aT Q J (by decide) (e▸hg)),Z,?_⟩,ok,jP,fun i hi=>Fp (lt i hi) ht.size,few⟩
 rcases L with L|⟨mb,D,rfl,hF,U,O⟩
 ·exact .inl L
 ·exact .inr ⟨mb,D,rfl,hF,ht.map U (fun e=>ed J U e.symm),O⟩
theorem cM.step {w w' r:World} {F:Nat->Prop} {J:Nat} {I:List Ky} {V:Value} (h:cM w F J I V w') (hb:Below w'.heap.size w' r):cM w F J I V r:=by
 obtain⟨F',L,O,Q,U⟩:=h
 exact⟨F',L.below hb,O.step hb,Q,U⟩
theorem Bk.grow {w Z U r:World} {b:Nat} {F Ft I:Nat->Prop} {A A':Option Addr} {n c O:Nat} {l:List Nd} {L:List (bJ×Nd)} {x:Nd} {V:bJ} (hn:l.length=n)
  (h2:∀ k,F k↔(Ft k\/(Value.slice A n c).ownBlock=some k)\/I k) (h3:∀ k,(Value.slice A n c).ownBlock=some k->¬Ft k) (h4:gL w 0 A c L) (h5:L.map (·.2)=l) (h6:∀ q∈L,iQ w I q.1 q.2) (h7:∀ k,I k->¬(Ft k\/(Value.slice A n c).ownBlock=some k)/\k<w.heap.size)
  (hg:∀ x∈l,Tm.Good x) (hx:Tm.Good x) (hL:cM w Ft b (l.map Tm.key++[Tm.key x]) (.slice A n c) Z) (b6:Below Z.heap.size Z U) (hP:iQ U (fun k=>Z.heap.size<=k) V x)
  (g7:(U.alloc (.cells (V.cells x) 50)).grownBy r (Value.slice A n c).ownBlock) (o7:r.ownsRow 0 50 7 (.slice A' (n+1) O) (n+1) (bq L++bq [(V,x)]))
  (v7:(Value.slice A' (n+1) O).ownBlock=(Value.slice A n c).ownBlock\/(Value.slice A' (n+1) O).ownBlock=some (U.alloc (.cells (V.cells x) 50)).heap.size):
  ∃ F',Bk (r.setCell ⟨b,2,none⟩ (.slice A' (n+1) O)) b F' (l++[x])/\ae F w (r.setCell ⟨b,2,none⟩ (.slice A' (n+1) O))/\∀ k,F' k->F k\/w.heap.size<=k:=by
 obtain⟨J,k1,k2,k3,k4⟩:=hL
 have ao:L.length=n:=by rw[<-hn,<-h5,Fi]
 have ad:∀ k,(Value.slice A n c).ownBlock=some k->k<w.heap.size:=fun k h=>h4.EU ao k h
 have X:∀ k,(Value.slice A n c).ownBlock=some k->¬J k:=fun k h e=>(k4 k e).elim (h3 k h) (fun e2=>by have:=ad k h;omega)
 have bb:=b6.size
 have bl:U.heap.size+1<=r.heap.size:=Fo (Nat.le_of_eq (by simp)) g7.size
 have ba:=k2.size
 have s8:(r.setCell ⟨b,2,none⟩ (.slice A' (n+1) O)).heap.size=r.heap.size:=by simp[World.setCell]
 have tg:ae (fun k=>(Value.slice A n c).ownBlock=some k) U r:=((ae.refl (fun k=>(Value.slice A n c).ownBlock=some k) U).alloc (.cells (V.cells x) 50)).trans (ae.aB g7 (fun _ e _=>e)) (fun _ e=> .inl e)
 have t57:ae (fun k=>(Value.slice A n c).ownBlock=some k) Z r:=(ae.af b6).trans tg (fun _ e=> .inl e)
 have hb:J b:=k1.jP
 have a1:fJ r J b (l.map Tm.key++[Tm.key x]) (.slice A n c):=k1.turn t57 (fun i hi e=>X i e hi)
 have a7:=a1.put (.slice A' (n+1) O)
 have Q:∀ k,(Value.slice A' (n+1) O).ownBlock=some k->¬J k/\((Value.slice A n c).ownBlock=some k\/U.heap.size<k):=fun k h=>by
  rcases v7 with e|e
  ·rw[e] at h
   exact⟨X k h,.inl h⟩
  ·rw[e] at h
   have:=Fk h
   simp at this
   exact⟨fun e2=>by have:=k1.lt k e2;omega,.inr (by omega)⟩
 have ah:ae (fun k=>k=b) r (r.setCell ⟨b,2,none⟩ (.slice A' (n+1) O)):=(ae.refl (fun k=>k=b) r).put (p:=⟨b,2,none⟩) (.inl rfl) _
 have o8:=ah.own o7 (fun k h e=>(Q k h).1 (e▸hb))
 have av:ae (fun k=>Ft k\/(Value.slice A n c).ownBlock=some k) w (r.setCell ⟨b,2,none⟩ (.slice A' (n+1) O)):=by
  have u1:ae (fun k=>Ft k\/(Value.slice A n c).ownBlock=some k) w Z:=k2.mono (fun i _ hi=> .inl hi)
  have u2:ae (fun k=>Ft k\/(Value.slice A n c).ownBlock=some k) w r:=u1.trans t57 (fun i hi=> .inl (.inr hi))
  exact u2.trans ah (fun i hi=>by
   rcases k4 i (hi▸hb) with e|e
   ·exact .inl (.inl e)
   ·exact .inr e)
 refine⟨fun k=>(J k\/(Value.slice A' (n+1) O).ownBlock=some k)\/(I k\/(Z.heap.size<=k/\k<U.heap.size)),⟨⟨J,fun k=>I k\/(Z.heap.size<=k/\k<U.heap.size),A',O,L++[(V,x)],?_,fun k=>?_,fun k h=>?_,?_,by rw[Hf,h5];rfl,fun q hq=>?_,fun k h=>?_⟩,fun y hy=>?_⟩,av.mono (fun i _ hi=>(h2 i).2 (.inl hi)),fun k h=>?_⟩
 ·rw[Hf,Gb,hn]
  exact a7
 ·rw[Gb,hn]
  exact Iff.rfl
 ·rw[Gb,hn] at h
  exact(Q k h).1
 ·unfold gL
  rw[Gb,ao]
  have e:bq L++bq [(V,x)]=bq (L++[(V,x)]):=by simp[bq]
  rw[<-e]
  exact o8
 ·rcases F7.1 hq with hq|hq
  ·exact((h6 q hq).turn av (fun k h e=>(h7 k h).1 e)).mono fun k h=> .inl h
  ·rw[F0.1 hq]
   have q1:=hP.inside
   have q2:=q1.turn tg (fun k h e=>by have:=ad k e;omega)
   have q3:=q2.turn ah (fun k h e=>by have:=k1.lt b hb;omega)
   exact q3.mono fun k h=> .inr h
 ·rw[Gb,hn,s8]
  rcases h with h|h
  ·obtain⟨e1,e2⟩:=h7 k h
   refine⟨fun e=>?_,by omega⟩
   rcases e with e|e
   ·rcases k4 k e with e|e
    ·exact e1 (.inl e)
    ·omega
   ·rcases(Q k e).2 with e|e
    ·exact e1 (.inr e)
    ·omega
  ·refine⟨fun e=>?_,by omega⟩
   rcases e with e|e
   ·have:=k1.lt k e
    omega
   ·rcases(Q k e).2 with e|e
    ·have:=ad k e
     omega
    ·omega
 ·rcases F7.1 hy with hy|hy
  ·exact hg y hy
  ·rw[F0.1 hy];exact hx
 ·rcases h with(e|e)|e|e
  ·rcases k4 k e with e|e
   ·exact .inl ((h2 k).2 (.inl (.inl e)))
   ·exact .inr e
  ·rcases(Q k e).2 with e|e
   ·exact .inl ((h2 k).2 (.inl (.inr e)))
   ·exact .inr (by omega)
  ·exact .inl ((h2 k).2 (.inr e))
  ·exact .inr (by omega)
theorem D6 (P:bJ) (x:Nd) (w:World) (j:Nat) (u:Value) (h:(bq [(P,x)])[j]?=some u):(w.alloc (.cells (P.cells x) 50)).cell? ((⟨w.heap.size,0,none⟩:Addr).add j)=some u:=by
 rw[addr_add,FA,(aa.new w 50 (P.cells x)).cell]
 simpa [bq,sX] using h
theorem Cx {x:Nd} (L:(Lit.int .i64 x.op).wf=true) (hs:(Lit.int .i64 x.sort).wf=true) (hn:x.name.size<=1000000) {w:World} {G:Nat->Prop} {P:bJ} (h:iQ w G P x):(Tm.key x).Ok:=by
 refine⟨L,hs,by unfold maxLen;show x.name.size<=_;omega,?_⟩
 have Q:=Tm.jY (l:=Tm.vW x) fun z hz=>by
  unfold Tm.vW at hz
  rcases F7.1 hz with hz|hz
  ·rcases F7.1 hz with hz|hz
   ·exact h.CN z hz
   ·obtain⟨q,J,rfl⟩:=Hh.1 hz
    have:=Tm.mZ _ q J
    rw[M.bS] at this
    exact Ff (by omega)
  ·have I:=h.CK
   revert I hz
   generalize x.str=t
   induction t with
   |nil=>intro hz _;cases hz
   |cons r t O=>
    intro hz I
    rw[Tm.flat] at hz
    rcases FE.1 hz with rfl|hz
    ·exact(I r (by simp)).1
    rcases FE.1 hz with rfl|hz
    ·exact(I r (by simp)).2
    ·exact O hz (fun q J=>I q (Gd _ J))
 have U:(Tm.vW x).length<=140000:=by
  unfold Tm.vW
  have V:=h.a.len
  have X:=h.num.1
  have Z:=h.str.len
  have h6:=h.few
  rw[Gb,Gb,Fi,Tm.bX]
  omega
 show(Tm.spell (Tm.vW x)).toArray.size<=maxLen
 unfold maxLen
 simp
 omega
def cr (w:World) (b:Nat) (F:Nat->Prop) (r:List Nd×Int×Int) (e:Ending) (w':World):Prop:=e=.returned (.tuple #[.int .i64 r.2.1,.int .i64 r.2.2])/\∃ F',Bk w' b F' r.1/\ae F w w'/\∀ k,F' k->F k\/w.heap.size<=k
theorem cr.up {w W w':World} {b:Nat} {F:Nat->Prop} {r:List Nd×Int×Int} {e:Ending} (h:cr W b F r e w') (hb:Below w.heap.size w W):cr w b F r e w':=by
 obtain⟨I,F',J,L,O⟩:=h
 exact⟨I,F',J,(ae.af hb).trans L (fun _ e=> .inl e),fun k Q=>(O k Q).imp id (fun e=>Fo hb.size e)⟩
theorem cr.same {w w':World} {b:Nat} {F:Nat->Prop} {l:List Nd} {x y:Int} (h:Bk w b F l) (hb:Below w.heap.size w w'):cr w b F (l,x,y) (.returned (.tuple #[.int .i64 x,.int .i64 y])) w':=
 ⟨rfl,F,h.below hb,ae.af hb,fun _=> .inl⟩
theorem nx (w:World) (b:Nat) (F:Nat->Prop) (l:List Nd) (P:bJ) (x:Nd) {G:Nat->Prop} (h:Bk w b F l) (hx:iQ w G P x) (hG:∀ k,G k->¬F k) (ah:Tm.Good x) (ho:(Lit.int .i64 x.op).wf=true) (hs:(Lit.int .i64 x.sort).wf=true) (b9:x.name.size<=1000000) (hn:l.length<=30000) (hT:dD w):
  Calls Tryz.prog 79 #[.pointer (some ⟨b,0,none⟩),.agg (P.cells x)] w fun e w'=>cr w b F (Tm.add l x) e w':=by
 obtain⟨W0,dO⟩:∃ W0,w.alloc (.cells (P.cells x) 50)=W0:=⟨_,rfl⟩
 have B0:Below w.heap.size w W0:=by rw[<-dO];exact(Gp _ w).alloc (Fm _) _
 have L0:aa W0 w.heap.size 50 (P.cells x):=by rw[<-dO];exact aa.new w _ _
 have bn:=Cx ho hs b9 hx
 have HK:=Gn (C6 W0 P x (hx.a.below B0) (hx.num.below B0) (hx.str.below B0) hx.CN hx.CK hx.few.1 hx.few.2.1 hx.few.2.2 (hT.on B0))
 obtain⟨⟨Ft,I,A,c,L,h1,h2,h3,h4,h5,h6,h7⟩,hg⟩:=id h
 obtain⟨r,a1⟩:∃ r,Tm.key x=r:=⟨_,rfl⟩
 obtain⟨n,ao⟩:∃ n,l.length=n:=⟨_,rfl⟩
 have bT:∀ i bb,xF (l.map Tm.key) r i bb->Hid (∀ W,Below w.heap.size w W->Calls Tryz.prog 125 #[.pointer (some ⟨b,0,none⟩),r.v] W fun e w'=>e=.returned (.tuple #[.int .i64 i,.bool bb])/\Below W.heap.size W w'):=fun i bb hp W hW=>
  Ca W Ft b (l.map Tm.key) _ r i bb hp (by rw[<-a1];exact bn) (h1.below hW)
 have bo:r∈l.map Tm.key↔x∈l:=by rw[<-a1];exact Tm.AZ hg ah
 obtain⟨pA,pn,pc,pg,pB,pm,pd,pC,pp,pf⟩:=P
 have c0:=L0.cell 0
 have c1:=L0.cell 1
 have c2:=L0.cell 2
 have c3:=L0.cell 3
 have c4:=L0.cell 4
 have c5:=L0.cell 5
 have c6:=L0.cell 6
 simp at c0 c1 c2 c3 c4 c5 c6
 rw[a1] at HK
 have av:=Gn B0
 have bC:=Gn L0
 have HH:=Gn h
 by_cases bp:x∈l
 · -- it is there
  have U:Tm.add l x=(l,((Tm.idx x l:Nat):Int),0):=by rw[Tm.add,Fx (Tm.eH.2 bp)]
  rw[U]
  have HF:=bT (Tm.idx x l:Nat) true (.inl ⟨rfl,Tm.idx x l,by rw[Fj,(Tm.oz bp).1,<-a1];rfl,rfl⟩)
  obtain⟨ix,en⟩:∃ ix:Int,((Tm.idx x l:Nat):Int)=ix:=⟨_,rfl⟩
  rw[en] at HF ⊢
  clear h hx hG ah ho hs b9 hn hT B0 L0 bn h1 h2 h3 h4 h5 h6 h7 hg a1 bT bo U en bp ao
  go_enter Tryz.func79,Tryz.ntmps79
  go_wp2_with fail
  refine HK.out.mono ?_
  rintro e J ⟨rfl,b1⟩
  have V:=av.out.trans (b1.mono av.out.size)
  obtain⟨W2,X⟩:∃ W2,J.alloc (.cells r.cells 208)=W2:=⟨_,rfl⟩
  have Q:Below w.heap.size w W2:=by rw[<-X];exact V.alloc V.size _
  have ad:aa W2 J.heap.size 208 r.cells:=by rw[<-X];exact aa.new J _ _
  have ba:Hid (∀ s:cu W2,Calls Tryz.prog 125 #[.pointer (some ⟨b,0,none⟩),.agg #[.int .i64 r.op,.int .i64 r.sort,.string r.name,.string r.list]] s.at_ fun e w'=>e=.returned (.tuple #[.int .i64 ix,.bool true])/\Below s.at_.heap.size s.at_ w'):=fun s=>HF.out s.at_ (Q.trans (s.ok.mono Q.size))
  have O:Hid (∀ s:cu W2,aa s.at_ J.heap.size 208 r.cells):=fun s=>(s.ok.block _ ad.lt).trans ad
  have Z:=Gn Q
  clear HK HF b1 V Q ad av bC c0 c1 c2 c3 c4 c5 c6
  go_wp2_with fail
  refine cB (C:=qG W2) (by kernel_rfl) (by kernel_rfl) (dt (Gp _ W2)) ?_
  have b3:∀ s:cu W2,s.at_.cell? ⟨J.heap.size,0,none⟩=some (.int .i64 r.op):=fun s=>by rw[(O.out s).cell];rfl
  have b5:∀ s:cu W2,s.at_.cell? ⟨J.heap.size,1,none⟩=some (.int .i64 r.sort):=fun s=>by rw[(O.out s).cell];rfl
  have b7:∀ s:cu W2,s.at_.cell? ⟨J.heap.size,2,none⟩=some (.string r.name):=fun s=>by rw[(O.out s).cell];rfl
  have b8:∀ s:cu W2,s.at_.cell? ⟨J.heap.size,3,none⟩=some (.string r.list):=fun s=>by rw[(O.out s).cell];rfl
  repeat(go_big_quiet_step ((go_at_call 125;with_reducible exact dw (ba.out _))))
  refine wpQuiet_nil ?_
  rintro _ ⟨s,rfl⟩
  have HV:=Gn (cr.same (x:=ix) (y:=0) HH.out (Z.out.trans (s.ok.mono Z.out.size)))
  clear b3 b5 b7 b8 O ba Z HH X
  generalize s.at_=W3 at*
  clear s
  go_wp2
  go_ret2
  exact HV.out
 · -- it is not there
  have HF:=bT 0 false (.inr ⟨rfl,fun e=>bp (bo.1 e),rfl⟩)
  have bE:=Gn fun W (hW:Below w.heap.size w W)=>yO W b F l (h.below hW)
  rw[ao] at bE
  rcases Tm.et l x with⟨e,_⟩|⟨_,bL,U⟩|⟨_,b2,U⟩
  ·exact absurd e bp
  ·rw[U]
   rw[ao] at bL
   have e0:(20000:Int)<=(n:Int):=by omega
   have ea:¬(n:Int)<20000:=by omega
   clear h hx hG ah ho hs b9 hn hT B0 L0 bn h1 h2 h3 h4 h5 h6 h7 hg a1 bT bo U bp ao bL
   go_enter Tryz.func79,Tryz.ntmps79
   go_wp2_with fail
   refine HK.out.mono ?_
   rintro e J ⟨rfl,b1⟩
   have V:=av.out.trans (b1.mono av.out.size)
   obtain⟨W2,X⟩:∃ W2,J.alloc (.cells r.cells 208)=W2:=⟨_,rfl⟩
   have Q:Below w.heap.size w W2:=by rw[<-X];exact V.alloc V.size _
   have ad:aa W2 J.heap.size 208 r.cells:=by rw[<-X];exact aa.new J _ _
   have ba:Hid (∀ s:cu W2,Calls Tryz.prog 125 #[.pointer (some ⟨b,0,none⟩),.agg #[.int .i64 r.op,.int .i64 r.sort,.string r.name,.string r.list]] s.at_ fun e w'=>e=.returned (.tuple #[.int .i64 0,.bool false])/\Below s.at_.heap.size s.at_ w'):=fun s=>HF.out s.at_ (Q.trans (s.ok.mono Q.size))
   have O:Hid (∀ s:cu W2,aa s.at_ J.heap.size 208 r.cells):=fun s=>(s.ok.block _ ad.lt).trans ad
   have Z:=Gn Q
   clear HK HF b1 V Q ad av bC c0 c1 c2 c3 c4 c5 c6
   go_wp2_with fail
   refine cB (C:=qG W2) (by kernel_rfl) (by kernel_rfl) (dt (Gp _ W2)) ?_
   have b3:∀ s:cu W2,s.at_.cell? ⟨J.heap.size,0,none⟩=some (.int .i64 r.op):=fun s=>by rw[(O.out s).cell];rfl
   have b5:∀ s:cu W2,s.at_.cell? ⟨J.heap.size,1,none⟩=some (.int .i64 r.sort):=fun s=>by rw[(O.out s).cell];rfl
   have b7:∀ s:cu W2,s.at_.cell? ⟨J.heap.size,2,none⟩=some (.string r.name):=fun s=>by rw[(O.out s).cell];rfl
   have b8:∀ s:cu W2,s.at_.cell? ⟨J.heap.size,3,none⟩=some (.string r.list):=fun s=>by rw[(O.out s).cell];rfl
   repeat(go_big_quiet_step ((go_at_call 125;with_reducible exact dw (ba.out _))))
   refine wpQuiet_nil ?_
   rintro _ ⟨s,rfl⟩
   have bz:=Z.out.trans (s.ok.mono Z.out.size)
   have bD:=Gn (bE.out _ bz)
   have bx:=Gn bz
   clear b3 b5 b7 b8 O ba Z X bE bz
   generalize s.at_=W3 at*
   clear s
   go_wp2_with fail
   refine bD.out.mono ?_
   rintro e w4 ⟨rfl,b4⟩
   have HV:=Gn (cr.same (x:=0) (y:=2) HH.out (bx.out.trans (b4.mono bx.out.size)))
   clear bD bx HH b4
   go_wp2
   go_ret2
   exact HV.out
  ·rw[U]
   rw[ao] at b2
   have e1:¬(20000:Int)<=(n:Int):=by omega
   have ea:(n:Int)<20000:=by omega
   rw[ao] at h1 h2 h3 h7 ⊢
   have cv:L.length=n:=by rw[<-ao,<-h5,Fi]
   have cF:Hid (∀ W,Below w.heap.size w W->Calls Tryz.prog 126 #[.pointer (some ⟨b,0,none⟩),r.v] W fun e w'=>e=.returned (.tuple #[.int .i64 n,.bool true])/\cM W Ft b (l.map Tm.key++[r]) (.slice A n c) w'):=fun W hW=>by
    have:=yP W Ft b (l.map Tm.key) (.slice A n c) r (fun e=>bp (bo.1 e)) (by rw[<-a1];exact bn) (by rw[Fi,ao];omega) (h1.below hW)
    rwa [Fi,ao] at this
   have ch:Hid (∀ k,Ft k->k<w.heap.size):=h1.lt
   have HX:Hid (∀ w',ae Ft w w'->iQ w' G ⟨pA,pn,pc,pg,pB,pm,pd,pC,pp,pf⟩ x):=fun w' ht=>hx.turn ht (fun k hk e=>hG k hk ((h2 k).2 (.inl (.inl e))))
   obtain⟨NL,cj⟩:∃ NL:List Value,Hid (NL=bq L):=⟨_,rfl⟩
   have HO:Hid (∀ w',ae Ft w w'->w'.ownsRow 0 50 7 (.slice A n c) n NL):=fun w' ht=>by
    have:=h4.bR cv ht h3
    unfold gL at this
    rw[cv] at this
    rw[cj.out]
    exact this
   have cP:Hid (∀ k,(Value.slice A n c).ownBlock=some k->k≠b):=fun k hk e=>h3 k hk (e▸h1.jP)
   have cb:Hid (∀ w5 w6 w7 P' A' c',cM w Ft b (l.map Tm.key++[r]) (.slice A n c) w5->Below w5.heap.size w5 w6->iQ w6 (fun k=>w5.heap.size<=k) P' x->(w6.alloc (.cells (P'.cells x) 50)).grownBy w7 (Value.slice A n c).ownBlock->w7.ownsRow 0 50 7 (.slice A' (n+1) c') (n+1) (NL++bq [(P',x)])->
     ((Value.slice A' (n+1) c').ownBlock=(Value.slice A n c).ownBlock\/(Value.slice A' (n+1) c').ownBlock=some (w6.alloc (.cells (P'.cells x) 50)).heap.size)->cr w b F (l++[x],(n:Int),0) (.returned (.tuple #[.int .i64 n,.int .i64 0])) (w7.setCell ⟨b,2,none⟩ (.slice A' (n+1) c'))):=fun w5 w6 w7 P' A' c' q1 q2 q3 q4 q5 q6=>by
    rw[cj.out] at q5
    rw[<-a1] at q1
    exact⟨rfl,Bk.grow ao h2 h3 h4 h5 h6 h7 hg ah q1 q2 q3 q4 q5 q6⟩
   obtain⟨iN,hi,eD,eO,eP⟩:=Gj sG
   have eA:n+1<=maxLen:=by unfold maxLen;omega
   have ev:(n+1)*112<=140737488355328:=by omega
   clear h hx hG ah ho hs b9 hn hT B0 L0 bn h1 h2 h3 h4 h5 h6 h7 hg a1 bT bo U bp ao b2 cv HH
   go_enter Tryz.func79,Tryz.ntmps79
   go_wp2_with fail
   refine HK.out.mono ?_
   rintro e J ⟨rfl,b1⟩
   have V:=av.out.trans (b1.mono av.out.size)
   obtain⟨W2,X⟩:∃ W2,J.alloc (.cells r.cells 208)=W2:=⟨_,rfl⟩
   have Q:Below w.heap.size w W2:=by rw[<-X];exact V.alloc V.size _
   have ad:aa W2 J.heap.size 208 r.cells:=by rw[<-X];exact aa.new J _ _
   have cx:aa W2 w.heap.size 50 (bJ.cells ⟨pA,pn,pc,pg,pB,pm,pd,pC,pp,pf⟩ x):=by
    have:=(b1.block _ bC.out.lt).trans bC.out
    rw[<-X]
    exact(Fq _ _ _ (aa.lt (t:=50) this)).trans this
   have ba:Hid (∀ s:cu W2,Calls Tryz.prog 125 #[.pointer (some ⟨b,0,none⟩),.agg #[.int .i64 r.op,.int .i64 r.sort,.string r.name,.string r.list]] s.at_ fun e w'=>e=.returned (.tuple #[.int .i64 0,.bool false])/\Below s.at_.heap.size s.at_ w'):=fun s=>HF.out s.at_ (Q.trans (s.ok.mono Q.size))
   have O:Hid (∀ s:cu W2,aa s.at_ J.heap.size 208 r.cells):=fun s=>(s.ok.block _ ad.lt).trans ad
   have dd:Hid (∀ s:cu W2,aa s.at_ w.heap.size 50 (bJ.cells ⟨pA,pn,pc,pg,pB,pm,pd,pC,pp,pf⟩ x)):=fun s=>(s.ok.block _ cx.lt).trans cx
   have Z:=Gn Q
   have ca:Hid (w.heap.size<=J.heap.size):=V.size
   clear HK HF b1 V Q ad cx av bC c0 c1 c2 c3 c4 c5 c6
   go_wp2_with fail
   refine cB (C:=qG W2) (by kernel_rfl) (by kernel_rfl) (dt (Gp _ W2)) ?_
   have b3:∀ s:cu W2,s.at_.cell? ⟨J.heap.size,0,none⟩=some (.int .i64 r.op):=fun s=>by rw[(O.out s).cell];rfl
   have b5:∀ s:cu W2,s.at_.cell? ⟨J.heap.size,1,none⟩=some (.int .i64 r.sort):=fun s=>by rw[(O.out s).cell];rfl
   have b7:∀ s:cu W2,s.at_.cell? ⟨J.heap.size,2,none⟩=some (.string r.name):=fun s=>by rw[(O.out s).cell];rfl
   have b8:∀ s:cu W2,s.at_.cell? ⟨J.heap.size,3,none⟩=some (.string r.list):=fun s=>by rw[(O.out s).cell];rfl
   repeat(go_big_quiet_step ((go_at_call 125;with_reducible exact dw (ba.out _))))
   refine wpQuiet_nil ?_
   rintro _ ⟨s,rfl⟩
   have bz:=Z.out.trans (s.ok.mono Z.out.size)
   have bD:=Gn (bE.out _ bz)
   have bx:=Gn bz
   have cf:=Gn (O.out s)
   have cl:=Gn (dd.out s)
   clear b3 b5 b7 b8 O dd ba Z X bE bz
   generalize s.at_=W3 at*
   clear s
   go_wp2_with fail
   refine bD.out.mono ?_
   rintro e w4 ⟨rfl,b4⟩
   have cq:=bx.out.trans (b4.mono bx.out.size)
   have bB:=(b4.block _ cf.out.lt).trans cf.out
   have dS:=(b4.block _ cl.out.lt).trans cl.out
   have p0:=aa.cell (t:=208) (cs:=r.cells) bB 0
   have p1:=aa.cell (t:=208) (cs:=r.cells) bB 1
   have p2:=aa.cell (t:=208) (cs:=r.cells) bB 2
   have p3:=aa.cell (t:=208) (cs:=r.cells) bB 3
   simp at p0 p1 p2 p3
   have cz:=Gn (cF.out w4.drew (cq.trans ⟨rfl,rfl,rfl,Fm _,fun _ _=>rfl⟩))
   have dx:Hid (aa w4.drew w.heap.size 50 (bJ.cells ⟨pA,pn,pc,pg,pB,pm,pd,pC,pp,pf⟩ x)):=dS
   have cN:Hid (Below w.heap.size w w4.drew):=cq.trans ⟨rfl,rfl,rfl,Fm _,fun _ _=>rfl⟩
   have cc:aa w4.drew J.heap.size 208 r.cells:=bB
   have c7:Hid (w4.drew.cell? ⟨J.heap.size,0,none⟩=some (.int .i64 r.op)/\w4.drew.cell? ⟨J.heap.size,1,none⟩=some (.int .i64 r.sort)/\w4.drew.cell? ⟨J.heap.size,2,none⟩=some (.string r.name)/\w4.drew.cell? ⟨J.heap.size,3,none⟩=some (.string r.list)):=⟨p0,p1,p2,p3⟩
   have c8:Hid (∀ W,cM w4.drew Ft b (l.map Tm.key++[r]) (.slice A n c) W->W.cell? ⟨J.heap.size,0,none⟩=some (.int .i64 r.op)/\W.cell? ⟨J.heap.size,1,none⟩=some (.int .i64 r.sort)/\W.cell? ⟨J.heap.size,2,none⟩=some (.string r.name)/\W.cell? ⟨J.heap.size,3,none⟩=some (.string r.list)):=fun W hW=>by
    obtain⟨_,_,q2,_⟩:=hW
    have q:=q2.lies cc (fun e=>by have:=ch.out _ e;have:=ca.out;omega)
    exact⟨by rw[q.cell];rfl,by rw[q.cell];rfl,by rw[q.cell];rfl,by rw[q.cell];rfl⟩
   clear bD bx b4 cf cl cq bB dS cF cc p0 p1 p2 p3
   go_wp2_with fail
   go_region_held3 (fun W=>W.cell? ⟨J.heap.size,0,none⟩=some (.int .i64 r.op)/\W.cell? ⟨J.heap.size,1,none⟩=some (.int .i64 r.sort)/\W.cell? ⟨J.heap.size,2,none⟩=some (.string r.name)/\W.cell? ⟨J.heap.size,3,none⟩=some (.string r.list))
    (first|exact c7.out|exact c8.out _ (by assumption))
    (first|(go_at_call 126;refine cz.out.mono ?_;rintro e w5 ⟨rfl,l5⟩))
   obtain⟨eW,k1,k2,k3,k4⟩:=id l5
   obtain⟨⟨m5,v5,q5,_⟩,_⟩:=k1
   have y5:=q5.cell 2
   simp at y5
   have z5:=q5.lt
   have bl:=k2.lies dx.out (fun e=>by have:=ch.out _ e;omega)
   have c0:=bl.cell 0
   have c1:=bl.cell 1
   have c2:=bl.cell 2
   have c3:=bl.cell 3
   have c4:=bl.cell 4
   have c5:=bl.cell 5
   have c6:=bl.cell 6
   simp at c0 c1 c2 c3 c4 c5 c6
   have bP:cM w Ft b (l.map Tm.key++[r]) (.slice A n c) w5.drew:=(l5.after (ae.af cN.out) (fun _ e=>e) (fun _ e=> .inl e)).step ⟨rfl,rfl,rfl,Fm _,fun _ _=>rfl⟩
   have cy:ae Ft w w5.drew:=by obtain⟨_,_,q,_⟩:=bP;exact q
   have cY:=Gn (DT w5.drew _ x (HX.out _ cy))
   have cX:Hid (∀ w6,Below w5.drew.heap.size w5.drew w6->w6.ownsRow 0 50 7 (.slice A n c) n NL/\b<w6.heap.size/\w6.cell? ⟨b,2,none⟩=some (.slice A n c)):=fun w6 b6=>by
    have l6:=(ae.af (F:=fun _=>False) b6).lies (show aa w5.drew b 37 _ from q5) id
    exact⟨HO.out w6 (cy.step b6),l6.lt,by rw[l6.cell];rfl⟩
   have cE:Hid (∀ w6 w7 cs,Below w5.drew.heap.size w5.drew w6->(w6.alloc (.cells cs 50)).grownBy w7 (Value.slice A n c).ownBlock->b<w7.heap.size/\w7.cell? ⟨b,2,none⟩=some (.slice A n c)/\w7.frozen? ⟨b,2,none⟩=false):=fun w6 w7 cs b6 g7=>by
    have l6:=(ae.af (F:=fun _=>False) b6).lies (show aa w5.drew b 37 _ from q5) id
    have l7:=((ae.refl (fun _=>False) w6).alloc (.cells cs 50)).lies l6 id
    have l8:=(ae.aB (F:=fun k=>(Value.slice A n c).ownBlock=some k) g7 (fun g e _=>e)).lies l7 (fun e=>cP.out b e rfl)
    exact⟨l8.lt,by rw[l8.cell];rfl,l8.free 2⟩
   have cR:=Gn bP
   clear k2 k3 k4 q5 bl bP cy l5 HX HO cP dx cN cz c7 c8 ch ca
   go_wp2_with fail
   go_region_law (first
    |(refine ay rfl (.tmp 40) (.tmp 43) 35 rfl 0 50 iN (.agg #[.int .i64 0,.int .i64 0,.slice none 0 0,.string ByteArray.empty,.bool false,.slice none 0 0,.slice none 0 0]) 7 112 Tryz.underlying35 hi eD eO eP rfl (by decide) (.slice A n c) n NL (by simp[Act.eval]) (O6.out.alloc _) ⟨w6.heap.size,0,none⟩ 1 1 (bq [(⟨qA,qn,qc,qg,qB,qm,qd,qC,qp,qf⟩,x)]) (by simp[Act.eval]) rfl (fun j u hu=>D6 _ x w6 j u hu) (sq _) eA ev (Fz _) ?_;intro A2 er w7 o7 g7 a7;obtain⟨z7,y7,f7⟩:=cE.out w6 w7 _ B6.out g7;have O7:=Gn o7;have A7:=Gn a7;have G7:=Gn g7;clear o7 a7 g7)
    |(go_simp;go_at_call 48;refine cY.out.mono ?_;rintro e w6 ⟨⟨P',rfl,dN⟩,b6⟩;obtain⟨qA,qn,qc,qg,qB,qm,qd,qC,qp,qf⟩:=P';obtain⟨o6,z6,y6⟩:=cX.out w6 b6;have O6:=Gn o6;have B6:=Gn b6;have P6:=Gn dN;clear o6 b6 dN))
   all_goals
    have HV:=Gn (cb.out w5.drew w6 w7 ⟨qA,qn,qc,qg,qB,qm,qd,qC,qp,qf⟩ A2 er cR.out B6.out P6.out G7.out O7.out A7.out)
    clear cb cR B6 P6 G7 O7 A7 O6 cX cE cY c0 c1 c2 c3 c4 c5 c6 y5 z5 y6 z6 y7 z7 f7 cj
    go_wp2
    go_ret2
    exact HV.out
end Go.Proofs.YtdbgiijdgedggaaGreatDoor
