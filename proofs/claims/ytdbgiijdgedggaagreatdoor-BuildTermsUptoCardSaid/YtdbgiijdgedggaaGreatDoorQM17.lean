import Derived.Deep.Slices
import Derived.Deep.Fields
import Derived.ChangeSame
import Derived.RangeFuncNested
import Derived.RangeFuncBound
import Derived.RangeFuncCalls
import Derived.RangeFuncLeaves
import Derived.Shelf.Abstract
import Derived.Shelf.RegionOpen
import Derived.WalkKit
import Derived.OwnWalkIn
import Derived.TacticsInMore
import Derived.LoopNIn
import Derived.LoopIn
import Derived.Test.YtdbgiijdgedggaaGreatDoorQM13
import Derived.Test.YtdbgiijdgedggaaGreatDoorRows
import Derived.WalkSpells
import Derived.WalkLawsBesides
import Derived.KernelRfl
import Derived.BigQuiet
set_option linter.unusedSimpArgs false
set_option linter.unusedVariables false
set_option maxRecDepth 100000
set_option maxHeartbeats 25600000
namespace Go.Proofs.YtdbgiijdgedggaaGreatDoor
open Go.RowKit Go.Shelf
attribute [local go_sem] Oper.semAt_some
def eR (h:Option Nat) (W:World) (k:Nat):Prop:=∃ b t v,h=some b/\aa W b t #[v]/\v.ownBlock=some k
theorem eR.none {W:World} {k:Nat} (h:eR none W k):False:=by
 obtain⟨b,t,v,e,_⟩:=h
 cases e
theorem eR.back {r:Option Nat} {W I:World} {k:Nat} (h:eR r I k) (hs:∀ b,r=some b->I.heap[b]?=W.heap[b]?):eR r W k:=by
 obtain⟨b,t,v,e,hl,hv⟩:=h
 exact⟨b,t,v,e,(hs b e).symm.trans hl,hv⟩
structure lZ (Bl:Option Nat) (n₀ B:Nat) (W W':World):Prop where
 below:Below n₀ W W'
 kept:∀ k o,B<=k->W.heap[k]?=some o->o.isCells=true->¬eR Bl W k->W'.heap[k]?=some o
 sb:∀ k,k<W.heap.size->eR Bl W' k->eR Bl W k
 EB:(∀ k,eR Bl W k->k<W.heap.size)->∀ k,eR Bl W' k->k<W'.heap.size
theorem lZ.trans {I:Option Nat} {r B:Nat} {X Y Z:World} (h:lZ I r B X Y) (k:lZ I r B Y Z):lZ I r B X Z:=
 ⟨h.below.trans k.below,fun i o hi J hc hm=>k.kept i o hi (h.kept i o hi J hc hm) hc (fun hy=>hm (h.sb i (Fl.1 J).1 hy)),
  fun i hi hz=>h.sb i hi (k.sb i (Fp hi h.below.size) hz),fun L=>k.EB (h.EB L)⟩
theorem lZ.book {L:Option Nat} {r B:Nat} (hn:r<=B) (U:∀ b,L=some b->b<B) (W:World) (l:Nat) (o O:Obj) (hl:B<=l) (h:W.heap[l]?=some o) (hc:o.isCells=false) (_:o.isWalk=false):lZ L r B W (W.putObj l O):=by
 have hm:∀ k,eR L (W.putObj l O) k->eR L W k:=fun k I=>I.back fun b hb=>World.putObj_heap_other (by have:=U b hb;omega)
 have V:=(Fl.1 h).1
 refine⟨(Gp r W).grown (grownBy_putObj' W l O) (by omega) (fun k e=>by cases e;omega),fun k Z I Q J _=>?_,fun k _ I=>hm k I,fun X k I=>?_⟩
 ·by_cases e:k=l
  ·subst e
   rw[h] at Q
   cases Q
   rw[hc] at J
   cases J
  ·exact(World.putObj_heap_other (fun h=>e h)).trans Q
 ·exact Fp (X k (hm k I)) (grownBy_putObj' W l O).size
theorem lZ.tU {r B:Nat} {W I:World} (h:ae (fun k=>r<=k/\k<B) W I) (hn:r<=W.heap.size):lZ none r B W I:=
 ⟨h.below hn (fun _ e=>e.1),fun k _ L J _ _=>(h.block k (Fl.1 J).1 (fun e=>absurd e.2 (Nat.not_lt.2 L))).trans J,fun _ _ e=>e.none.elim,fun _ _ e=>e.none.elim⟩
theorem eZ {r B:Nat} {W I:World} (h:ae (fun k=>r<=k/\k<B) W I):KeepsFrom B W I:=
 ⟨h.size,fun k _ L J _=>(h.block k (Fl.1 J).1 (fun e=>absurd e.2 (Nat.not_lt.2 L))).trans J⟩
theorem lZ.alloc {I:Option Nat} {h B:Nat} {W:World} (hn:h<=W.heap.size) (J:∀ b,I=some b->b<W.heap.size) (o:Obj):lZ I h B W (W.alloc o):=by
 have hm:∀ k,eR I (W.alloc o) k->eR I W k:=fun k r=>r.back fun b hb=>Fq W o b (J b hb)
 exact⟨(Gp h W).alloc hn o,fun k Q _ L _ _=>(Fq W o k (Fl.1 L).1).trans L,fun k _ r=>hm k r,fun O k r=>Fp (O k (hm k r)) (by simp)⟩
theorem ft {β:Type} (b:Nat) (t:TypeId) (f:β->Array Value):Own (fun s W=>aa W b t (f s)):=fun s X Y row hs I h=>
 (I.block b hs.lt (fun e=>by
  obtain⟨o,r,hc⟩:=h b e.symm
  rw[show X.heap[b]?=_ from hs] at r
  cases r
  cases hc)).trans hs
def fX (w h W:World):Prop:=Below w.heap.size w W/\h.heap.size<=W.heap.size
theorem fX.own {β:Type} {w r:World} (h:w.heap.size<=r.heap.size):OwnFrom r.heap.size (fun(_:β) W=>fX w r W):=fun s X Y row hs I J=>
 ⟨ownFrom_below (Fm _) h s X Y row hs.1 I J,Fo hs.2 I.size⟩
theorem fX.alloc {w r W:World} (h:fX w r W) (o:Obj):fX w r (W.alloc o):=⟨h.1.alloc h.1.size o,Fo h.2 (by simp)⟩
theorem fX.turn {F:Nat->Prop} {w I W r:World} (h:fX w I W) (hT:ae F W r) (hF:∀ i,F i->w.heap.size<=i):fX w I r:=⟨h.1.trans (hT.below h.1.size hF),Fo h.2 hT.size⟩
theorem fX.end_ {w r W:World} (h:fX w r W) (hw:w.heap.size<=r.heap.size) {D:Nat} (J:r.heap.size<=D) (I:W.heap[D]?=some (.deferred (some []))) (o:Obj):Below w.heap.size w (W.putObj D o):=
 h.1.trans (belowK_b (w:=w) (Fm _) W D _ _ (by omega) I rfl rfl)
def Tx.pl (R:List (Int×Int)) (k:Nat):Int:=IntKind.i64.wrap (Lt.total (R.take k))
def Tx.item (R:List (Int×Int)) (k:Nat):Int×Int×Int:=(Tx.pl R k,(R[k]?.getD (0,0)).1,(R[k]?.getD (0,0)).2)
def Tx.items (R:List (Int×Int)) (k:Nat):List (Int×Int×Int):=(List.range k).map (Tx.item R)
theorem Tx.eC (R:List (Int×Int)) (k:Nat):Tx.items R (k+1)=Tx.items R k++[Tx.item R k]:=by simp[Tx.items,List.range_succ]
theorem Tx.uv (R:List (Int×Int)) (k:Nat):(Tx.items R k).length=k:=by simp[Tx.items]
theorem vw (a b:Int):IntKind.i64.wrap (IntKind.i64.wrap a+b)=IntKind.i64.wrap (a+b):=by
 simp only[IntKind.wrap,IntKind.signed,IntKind.bits]
 simp
 omega
theorem Tx.kr {R:List (Int×Int)} {k:Nat} {x:Int×Int} (h:R[k]?=some x):Tx.item R k=(Tx.pl R k,x.1,x.2):=by rw[Tx.item,h];rfl
theorem Tx.tZ {R:List (Int×Int)} {k:Nat} {x:Int×Int} (h:R[k]?=some x):Tx.pl R (k+1)=IntKind.i64.wrap (Tx.pl R k+x.2):=by
 have e:Lt.total (R.take (k+1))=Lt.total (R.take k)+x.2:=by
  rw[take_one h,Lt.dh,Lt.total,Lt.total]
  omega
 rw[Tx.pl,Tx.pl,e,vw]
abbrev Cb (x:Int×Int×Int):Array Value:=#[.int .i64 x.1,.agg #[.int .i64 x.2.1,.int .i64 x.2.2]]
theorem tJ (A:Option Addr) (n c:Nat) (w:World):
  Calls Tryz.prog 73 #[.slice A n c] w fun e w'=>e=.returned (.func (.func 117) #[] #[.pointer (some ⟨w.heap.size,0,none⟩)])/\w'=w.alloc (.cells #[.slice A n c] 48):=by
 go_enter Tryz.func73,Tryz.ntmps73
 go_wp2
 go_ret
 exact⟨rfl,rfl⟩
theorem wZ (m:Nat) (hm:1<=m) (l Bs:Nat) (X:Option Nat) (w0:World) (A:Option Addr) (n c:Nat) (R:List (Int×Int)) (h:cd w0 A n R) (hn:n<=1000000000) (B:Nat) (ad:∀ b,X=some b->b<B) (J Jx:List (Int×Int×Int)->World->Prop) (W:World) (bx:B<=W.heap.size) (hJ:AbidesFrom W.heap.size J)
  (hY:∀ pre x L,J pre L->pre.length<n->YieldAt Fence.wide (m-1) Tryz.prog l (Cb x) L fun e I=>
   (e=.returned (.bool true)/\J (pre++[x]) I/\lZ X w0.heap.size B L I)\/(e=.returned (.bool false)/\Jx (pre++[x]) I))
  (hb:Below w0.heap.size w0 W) (U:∀ k,eR X W k->k<W.heap.size) (bD:W.cell? ⟨Bs,0,none⟩=some (.slice A n c)) (h0:J [] W):
  CallsIn Fence.wide m Tryz.prog 117 #[.func (.yield l) #[] #[],.pointer (some ⟨Bs,0,none⟩)] W fun e I=>(∃ v,e=.returned v)/\
   ((∃ ys,ys=Tx.items R n/\J ys I)\/(∃ pre,(∃ k,k<=n/\pre=Tx.items R k)/\Jx pre I)):=by
 refine callsIn_of_wp Tryz.func117 rfl trivial ?_ rfl
 simp only[Tryz.ntmps117,List.size_toArray,FG,He,Nat.reduceAdd,Nat.reduceSub,Array.replicate_succ,Array.replicate_zero,List.push_toArray,List.append_toArray,FY,FZ]
 gi_wp2
 gi_loopw [3,8] (fun av iv wr=>∃ k:Nat,k<=n/\av=.int .i64 (Tx.pl R k)/\iv=.int .i64 k/\Hid (J (Tx.items R k) wr/\Below w0.heap.size w0 wr/\W.heap.size<=wr.heap.size/\∀ k,eR X wr k->k<wr.heap.size))
  (fun _ iv _=>n-(intOf iv).toNat)
 case atStart=>exact⟨0,Fz _,rfl,rfl,h0,hb,Fm _,U⟩
 case round=>
  obtain⟨k,hk,rfl,rfl,O⟩:=hrel
  by_cases a7:k<n
  ·obtain⟨b,off,⟨x1,x2⟩,rfl,hx,_,_,hc⟩:=h.get a7
   obtain⟨q1,q2,q3⟩:=hc wr O.out.2.1
   obtain⟨L,Q⟩:∃ L,wr.alloc (.cells #[.int .i64 x1,.int .i64 x2] 122)=L:=⟨_,rfl⟩
   have ah:J (Tx.items R k) L:=by
    rw[<-Q]
    exact hJ _ _ _ none O.out.1 (World.grownBy_alloc wr _ none) (fun r e=>by cases e)
   have V:aa L wr.heap.size 122 #[.int .i64 x1,.int .i64 x2]:=by rw[<-Q];exact aa.new wr _ _
   have hp:=Tx.tZ hx
   have hit:=Tx.kr hx
   simp only at hp hit
   obtain⟨p,bb⟩:∃ p,Tx.pl R k=p:=⟨_,rfl⟩
   rw[bb] at hp hit ⊢
   obtain⟨fn,tmps,assign,body,hy,hR⟩:=hY _ (p,x1,x2) L ah (by rw[Tx.uv];exact a7)
   have HN:Hid (∀ I,J (Tx.items R k++[(p,x1,x2)]) I->J (Tx.items R (k+1)) I):=fun I hj=>by rw[Tx.eC,hit];exact hj
   have HX:Hid (∀ I,Jx (Tx.items R k++[(p,x1,x2)]) I->Jx (Tx.items R (k+1)) I):=fun I hj=>by rw[Tx.eC,hit];exact hj
   have HR:=Gn hR
   have HF:Hid (∀ I,lZ X w0.heap.size B L I->Below w0.heap.size w0 I/\W.heap.size<=I.heap.size/\(∀ k,eR X I k->k<I.heap.size)/\aa I wr.heap.size 122 #[.int .i64 x1,.int .i64 x2]):=fun I hk=>by
    have hs:wr.heap.size<=L.heap.size:=by rw[<-Q];simp
    have bz:Below w0.heap.size w0 L:=by rw[<-Q];exact O.out.2.1.alloc O.out.2.1.size _
    have ba:∀ k,eR X L k->eR X wr k:=fun k hm=>hm.back fun b hb=>by
     rw[<-Q]
     exact Fq wr _ b (by have:=ad b hb;have:=O.out.2.2.1;omega)
    refine⟨bz.trans hk.below,Fo O.out.2.2.1 (Fo hs hk.below.size),hk.EB fun k hm=>Fp (O.out.2.2.2 k (ba k hm)) hs,?_⟩
    refine hk.kept _ _ (by have:=O.out.2.2.1;omega) V rfl fun hm=>?_
    exact absurd (O.out.2.2.2 _ (ba _ hm)) (Nat.lt_irrefl _)
   have bB:(k:Int)<(n:Int):=by omega
   have bC:(0:Int)<=(k:Int):=by omega
   have c0:L.cell? ⟨wr.heap.size,0,none⟩=some (.int .i64 x1):=by rw[V.cell];rfl
   have c1:L.cell? ⟨wr.heap.size,1,none⟩=some (.int .i64 x2):=by rw[V.cell];rfl
   clear hit bb ah V hR hx hc h0 hJ hY hb U bx ad h O
   gi_wp2
   refine HR.out.mono ?_
   rintro e W3 (⟨rfl,ao,a1⟩|⟨rfl,Z⟩)
   ·obtain⟨f1,f2,f3,f4⟩:=HF.out W3 a1
    have c2:W3.cell? ⟨wr.heap.size,1,none⟩=some (.int .i64 x2):=by rw[f4.cell];rfl
    have bn:=Gn (HN.out W3 ao)
    have bl:=Gn f1
    have bo:=Gn f3
    clear ao a1 f1 f3 f4 HF HN HX HR hy c0 c1 q2 q3
    gi_wp2
    go_roundw
    case rel=>exact⟨k+1,by omega,by rw[hp,IntWalk.i64_left],by go_num,bn.out,bl.out,f2,bo.out⟩
    case measure=>simp[intOf];omega
   ·have bp:=Gn (HX.out W3 Z)
    clear Z HF HN HX HR hy
    gi_wp2
    refine GD (results_none rfl _ _ _) rfl ?_
    exact⟨⟨_,rfl⟩,.inr ⟨_,⟨k+1,by omega,rfl⟩,bp.out⟩⟩
  ·obtain rfl:k=n:=by omega
   gi_wp2
   go_end0
   exact⟨⟨_,rfl⟩,.inl ⟨_,rfl,O.out.1⟩⟩
theorem oN (m:Nat) (hm:1<=m) (I:Nat) (Q:Option Nat) (w0:World) (A:Option Addr) (n c:Nat) (R:List (Int×Int)) (h:cd w0 A n R) (hn:n<=1000000000) (w:World) (L:∀ b,Q=some b->b<w.heap.size) (U:I<w.heap.size)
  (hb:Below w0.heap.size w0 w) (r:∀ k,eR Q w k->k<w.heap.size) (hc:w.cell? ⟨I,0,none⟩=some (.slice A n c)):
  SeqStopsK Fence.wide m Tryz.prog 117 #[.pointer (some ⟨I,0,none⟩)] Cb (lZ Q w0.heap.size w.heap.size) (fun ys=>ys=Tx.items R n) (fun pre=>∃ k,k<=n/\pre=Tx.items R k) n w:=fun l J V W O Z _ hY X=>
 wZ m hm l I Q w0 A n c R h hn w.heap.size L J V W O.size Z hY (hb.trans (O.mono hb.size)) (fun k hk=>Fp (r k (hk.back fun b e=>O.block b (L b e))) O.size) ((O.cell (p:=⟨I,0,none⟩) U).trans hc) X
theorem ranged {m:Nat} (hm:3<=m) (Bs:Nat) (X:Option Nat) (w0:World) (A:Option Addr) (n c:Nat) (R:List (Int×Int)) (h:cd w0 A n R) (hn:n<=1000000000) {g:Operand} {p1 p2:Tmp} {assign body:Code} {Q:Exit->Act->World->Prop} {a:Act} {w:World}
  (hg:a.eval g=.func (.func 117) #[] #[.pointer (some ⟨Bs,0,none⟩)]) (ad:∀ b,X=some b->b<w.heap.size) (ao:Bs<w.heap.size)
  (hb:Below w0.heap.size w0 w) (U:∀ k,eR X w k->k<w.heap.size) (hc:w.cell? ⟨Bs,0,none⟩=some (.slice A n c))
  (I:List (Int×Int×Int)->World->Prop) (Ix:Code->List (Int×Int×Int)->World->Prop) (hI:OwnFrom w.heap.size I) (av:∀ c,OwnFrom w.heap.size (Ix c)) (h0:I [] w) (Ax:Int×Int×Int->Act->World->Prop) (ah:∀ x a',OwnFrom w.heap.size (fun(_:Unit) W=>Ax x a' W))
  (J:∀ (l:Nat) (pre:List (Int×Int×Int)) (x:Int×Int×Int) (W:World) (K:Act->World->Prop),I pre W->(∀ a' Z,KeepsFrom w.heap.size W Z->lZ X w0.heap.size w.heap.size W Z->I pre Z->Ax x a' Z->K a' Z)->
   assign.wpIn (Fence.wide.inRound l) (m-1-1) Tryz.prog (Exit.then K (fun _ _ _=>False)) { tmps:=(#[p1,p2].zip (Cb x)).foldl (fun t (p,v)=>t.setIfInBounds p v) a.tmps,defers:=[] } W)
  (L:∀ (l:Nat) (pre:List (Int×Int×Int)) (x:Int×Int×Int) (a':Act) (W:World),w.heap.size<=l->(∃ r,W.heap[l]?=some (.loop r))->I pre W->Ax x a' W->pre.length<n->body.wpIn (Fence.wide.inRound l) (m-1-1) Tryz.prog (ownPostG w.heap.size (lZ X w0.heap.size w.heap.size) I Ix (pre++[x]) W) a' W)
  (O:∀ (D:Nat) (W:World),w.heap.size<=D->I (Tx.items R n) W->W.heap[D]?=some (.deferred (some []))->Q .normal { a with defers:={ target:=.collected D,args:=#[] }::a.defers } W)
  (V:∀ (D:Nat) (c:Code) (k:Nat) (W:World),w.heap.size<=D->k<=n->Ix c (Tx.items R k) W->W.heap[D]?=some (.deferred (some []))->c.wpIn Fence.wide m Tryz.prog Q { a with defers:={ target:=.collected D,args:=#[] }::a.defers } W):
  (Code.rangeFunc g #[p1,p2] assign body).wpIn Fence.wide m Tryz.prog Q a w:=
 wpIn_rangeFunc_ownH (w0:=w) rfl (by omega) hg trivial (enters_of Tryz.func117 (by kernel_rfl) rfl) (oN (m-1) (by omega) Bs X w0 A n c R h hn w ad ao hb U hc)
  (fun h k=>h.trans k) (lZ.book hb.size ad) (Gp _ _) (fun _=>rfl) I Ix hI av h0 Ax ah J L (fun D xs W hD hS hi hK=>by subst hS;exact O D W hD hi hK) (fun D c pre W hD hS hi hK=>by obtain⟨k,hk,rfl⟩:=hS;exact V D c k W hD hk hi hK)
end Go.Proofs.YtdbgiijdgedggaaGreatDoor
namespace Go.Proofs.YtdbgiijdgedggaaGreatDoor
open Go.RowKit Go.Shelf
attribute [local go_sem] Oper.semAt_some
def Tx.lU (pre:List (Int×Int×Int)):Int:=pre.foldl (fun _ x=>wrap64 (x.1+x.2.2)) 0
theorem Tx.kG (pre:List (Int×Int×Int)) (x:Int×Int×Int):Tx.lU (pre++[x])=wrap64 (x.1+x.2.2):=by simp[Tx.lU]
theorem Tx.qF (R:List (Int×Int)) (k:Nat) (r:k<=R.length):Tx.lU (Tx.items R k)=wrap64 (Lt.total (R.take k)):=by
 cases k with
 |zero=>simp[Tx.items,Tx.lU,Lt.total,wrap64]
 |succ k=>
  rw[Tx.eC,Tx.kG]
  have h:=Ge (l:=R) (i:=k) (by omega)
  have hp:=Tx.tZ h
  rw[Tx.kr h]
  simp only
  rw[<-IntWalk.i64_left,<-hp,Tx.pl,IntWalk.i64_left]
theorem Ek (w:World) (A:Option Addr) (n c:Nat) (R:List (Int×Int)) (h:cd w A n R) (hn:n<=1000000000):
  Calls Tryz.prog 74 #[.slice A n c] w fun e w'=>e=.returned (.int .i64 (wrap64 (Lt.total R)))/\Below w.heap.size w w':=by
 have hm:3<=6:=by omega
 generalize 6=m at hm
 refine(callsIn_wide (n:=m)).1 ?_
 refine callsIn_of_wp_marks Tryz.func74 rfl trivial ?_ rfl
 simp only[Tryz.ntmps74,List.size_toArray,FG,He,Nat.reduceAdd,Nat.reduceSub,Array.replicate_succ,Array.replicate_zero,List.push_toArray,List.append_toArray,FY,FZ]
 have h1:1<=m:=by omega
 gi_wp2_with (refine⟨trivial,?_⟩;gi_at_call 73;refine(callsIn_wide.2 (tJ A n c _)).mono ?_;rintro e w' ⟨rfl,rfl⟩)
 have J:Below w.heap.size w ((w.alloc (.cells #[.int .i64 0] 3)).alloc (.cells #[.slice A n c] 48)):=((Gp _ w).alloc (Fm _) _).alloc (by simp) _
 have Z:((w.alloc (.cells #[.int .i64 0] 3)).alloc (.cells #[.slice A n c] 48)).heap.size=w.heap.size+2:=by simp
 have l1:aa ((w.alloc (.cells #[.int .i64 0] 3)).alloc (.cells #[.slice A n c] 48)) w.heap.size 3 #[.int .i64 0]:=(Fq _ _ _ (by simp)).trans (aa.new w _ _)
 have l2:=aa.new (w.alloc (.cells #[.int .i64 0] 3)) 48 #[.slice A n c]
 rw[H9] at l2
 obtain⟨L,Q⟩:∃ L,(w.alloc (.cells #[.int .i64 0] 3)).alloc (.cells #[.slice A n c] 48)=L:=⟨_,rfl⟩
 rw[Q] at J Z l1 l2 ⊢
 clear Q
 refine ranged hm (w.heap.size+1) none w A n c R h hn rfl (fun _ e=>by cases e) (by omega) J (fun _ e=>e.none.elim) (by rw[l2.cell];rfl)
  (fun pre W=>aa W w.heap.size 3 #[.int .i64 (Tx.lU pre)]/\fX w L W)
  (fun _ _ _=>False)
  (OwnFrom.and (Own.from (ft _ _ _) _) (fX.own (by omega)))
  (fun _ _ _ _ _ hs _ _=>hs)
  ⟨l1,J,Fm _⟩
  (fun x a' W=>∃ I,L.heap.size<=I/\aa W I 122 #[.int .i64 x.2.1,.int .i64 x.2.2]/\a'={ tmps:=#[.slice A n c,undef,.int .i64 0,.pointer (some ⟨w.heap.size,0,none⟩),.int .i64 x.1,.pointer (some ⟨I,0,none⟩),.slice A n c,.func (.func 117) #[] #[.pointer (some ⟨w.heap.size+1,0,none⟩)],.int .i64 x.1,.agg #[.int .i64 x.2.1,.int .i64 x.2.2],undef,undef,undef,undef,undef],defers:=[] })
  (fun x a' _ X Y row hs hg hr=>by obtain⟨I,h1,h2,h3⟩:=hs;exact⟨I,h1,ft I 122 (fun(_:Unit)=>#[.int .i64 x.2.1,.int .i64 x.2.2]) () X Y row h2 hg (fun r e=>(hr r e).2),h3⟩)
  ?assign ?body ?done ?stop
 case assign=>
  rintro l pre x W K ⟨hl,hb⟩ V
  gi_wp2
  exact V _ _ ((KeepsOthers.alloc _ _).from _) (lZ.alloc hb.1.size (fun _ e=>by cases e) _) ⟨(Fq _ _ _ hl.lt).trans hl,hb.alloc _⟩ ⟨W.heap.size,hb.2,aa.new W _ _,rfl⟩
 case body=>
  rintro l pre x a' W hl ⟨r,hr⟩ ⟨O,U⟩ ⟨I,ad,hX,rfl⟩ ah
  have cE:W.cell? ⟨w.heap.size,0,none⟩=some (.int .i64 (Tx.lU pre)):=by rw[O.cell];rfl
  have fE:=O.free 0
  have cX:W.cell? ⟨I,1,none⟩=some (.int .i64 x.2.2):=by rw[hX.cell];rfl
  gi_wp2
  have hT:ae (fun k=>w.heap.size<=k/\k<L.heap.size) W (W.setCell ⟨w.heap.size,0,none⟩ (.int .i64 (wrap64 (x.1+x.2.2)))):=(ae.refl _ W).put (.inl ⟨Fm _,by show w.heap.size<L.heap.size;omega⟩) _
  refine⟨eZ hT,lZ.tU hT U.1.size,?_,U.turn hT (fun _ e=>e.1)⟩
  rw[Tx.kG]
  exact O.put 0 _
 case done=>
  rintro D W hD ⟨O,U⟩ V
  have cE:W.cell? ⟨w.heap.size,0,none⟩=some (.int .i64 (Tx.lU (Tx.items R n))):=by rw[O.cell];rfl
  gi_wp2
  refine⟨by simp,.inl ⟨_,_,rfl,run_takeDeferred V,?_⟩⟩
  exact⟨_,results_tmp rfl _ _ _,by rw[Tx.qF R n (by rw[h.len];exact Fm _),<-h.len,Ib];rfl,U.end_ (by omega) hD V _⟩
 case stop=>
  rintro D c k W _ _ h _
  exact h.elim
def Tx.ek:Int->List (Int×Int×Int)->Prop
 |_,[]=>True
 |p,x::l=>(0<=x.2.1/\x.2.1<=196607/\x.2.1≠p/\1<=x.2.2/\x.2.2<=wrap64 (1099511627776-x.1))/\Tx.ek x.2.1 l
def Tx.ahead (l:List (Int×Int×Int)):Int:=l.foldl (fun _ x=>x.2.1) (-1)
theorem Tx.ly (l:List (Int×Int×Int)) (x:Int×Int×Int):Tx.ahead (l++[x])=x.2.1:=by simp[Tx.ahead]
theorem Tx.lk:∀ (l:List (Int×Int×Int)) (p:Int) (x:Int×Int×Int),Tx.ek p (l++[x])↔Tx.ek p l/\(0<=x.2.1/\x.2.1<=196607/\x.2.1≠l.foldl (fun _ x=>x.2.1) p/\1<=x.2.2/\x.2.2<=wrap64 (1099511627776-x.1))
 |[],p,x=>by simp[Tx.ek]
 |y::l,p,x=>by
  rw[FZ,Tx.ek,Tx.ek,Tx.lk l,List.foldl_cons]
  simp only[and_assoc]
theorem Tx.sR (l:List (Int×Int×Int)) (x:Int×Int×Int):Tx.ek (-1) (l++[x])↔Tx.ek (-1) l/\(0<=x.2.1/\x.2.1<=196607/\x.2.1≠Tx.ahead l/\1<=x.2.2/\x.2.2<=wrap64 (1099511627776-x.1)):=Tx.lk l (-1) x
theorem Tx.lB (R:List (Int×Int)):∀ k,k<=R.length->(Tx.ek (-1) (Tx.items R k)↔Tx.Own (R.take k)/\Lt.total (R.take k)<=1099511627776)
 |0,_=>by simp[Tx.items,Tx.ek,Tx.Own.nil,Lt.total]
 |k+1,hk=>by
  have ih:=Tx.lB R k (by omega)
  have J:=Ge (l:=R) (i:=k) (by omega)
  generalize R[k]=x at J
  rw[Tx.eC,Tx.kr J,Tx.sR,ih,Tx.qj J]
  simp only
  have r:∀ j y,k=j+1->R[j]?=some y->Tx.ahead (Tx.items R k)=y.1:=fun j y e hy=>by
   subst e
   rw[Tx.eC,Tx.ly,Tx.kr hy]
  have V:k=0->Tx.ahead (Tx.items R k)= -1:=fun e=>by subst e;rfl
  constructor
  ·rintro⟨⟨h,X⟩,h3,h4,Z,h6,h7⟩
   have hp:0<=Lt.total (R.take k):=Lt.fw fun y hy=>Int.not_lt.2 (h.pos y hy).2
   rw[Tx.pl,IntWalk.i64_left,Ij (Lt.total (R.take k)) (by omega),Ij _ (by omega)] at h7
   refine⟨Tx.Own.snoc J h (by unfold Lt.pt;simp;omega) h6 fun j y e hy U=>Z ?_,by omega⟩
   rw[r j y e hy,U]
  ·rintro⟨h,X⟩
   have L:(R.take (k+1))[k]?=some x:=by rw[GQ,Fx (by omega)];exact J
   have I:=h.pos x (FP L)
   have Q:Tx.Own (R.take k):=by
    have:=h.take k
    rwa [List.take_take,G6 (by omega)] at this
   have hp:0<=Lt.total (R.take k):=Lt.fw fun y hy=>Int.not_lt.2 (Q.pos y hy).2
   obtain⟨f1,f2⟩:=Lt.wy I.1
   refine⟨⟨Q,by omega⟩,f1,by omega,fun e=>?_,I.2,?_⟩
   ·rcases Hn k with O|O
    ·rw[V O] at e
     omega
    ·obtain⟨j,rfl⟩:∃ j,k=j+1:=⟨k-1,by omega⟩
     have hy:=Ge (l:=R) (i:=j) (by omega)
     refine h.Bw j _ x (by rw[GQ,Fx (by omega)];exact hy) L ?_
     rw[<-r j _ rfl hy,e]
   ·rw[Tx.pl,IntWalk.i64_left,Ij (Lt.total (R.take k)) (by omega),Ij _ (by omega)]
    omega
theorem D8 (w:World) (A:Option Addr) (n c:Nat) (R:List (Int×Int)) (h:cd w A n R) (hn:n<=1000000000):
  Calls Tryz.prog 29 #[.slice A n c] w fun e w'=>e=.returned (.bool (Tx.ox R))/\Below w.heap.size w w':=by
 have hm:3<=6:=by omega
 generalize 6=m at hm
 have h1:1<=m:=by omega
 refine(callsIn_wide (n:=m)).1 ?_
 refine callsIn_of_wp_marks Tryz.func29 rfl trivial ?_ rfl
 simp only[Tryz.ntmps29,List.size_toArray,FG,He,Nat.reduceAdd,Nat.reduceSub,Array.replicate_succ,Array.replicate_zero,List.push_toArray,List.append_toArray,FY,FZ]
 by_cases hl:65536<n
 ·have bb:(65536:Int)<(n:Int):=by omega
  rw[Tx.fG fun hm=>by have:=hm.few;have:=h.len;omega]
  gi_wp2
  have hc:=(aa.new w 4 #[.bool false]).cell 0
  exact⟨_,by simp[results,Tryz.f29,go_sem,hc],rfl,(Gp _ w).alloc (Fm _) _⟩
 have bb:¬(65536:Int)<(n:Int):=by omega
 gi_wp2_with (refine⟨trivial,?_⟩;gi_at_call 73;refine(callsIn_wide.2 (tJ A n c _)).mono ?_;rintro e w' ⟨rfl,rfl⟩)
 have ah:Below w.heap.size w (((w.alloc (.cells #[.bool false] 4)).alloc (.cells #[.int .i64 (-1)] 3)).alloc (.cells #[.slice A n c] 48)):=(((Gp _ w).alloc (Fm _) _).alloc (by simp) _).alloc (by simp;omega) _
 have ba:(((w.alloc (.cells #[.bool false] 4)).alloc (.cells #[.int .i64 (-1)] 3)).alloc (.cells #[.slice A n c] 48)).heap.size=w.heap.size+3:=by simp
 have l1:aa (((w.alloc (.cells #[.bool false] 4)).alloc (.cells #[.int .i64 (-1)] 3)).alloc (.cells #[.slice A n c] 48)) w.heap.size 4 #[.bool false]:=(Fq _ _ _ (by simp;omega)).trans ((Fq _ _ _ (by simp)).trans (aa.new w _ _))
 have l2:aa (((w.alloc (.cells #[.bool false] 4)).alloc (.cells #[.int .i64 (-1)] 3)).alloc (.cells #[.slice A n c] 48)) (w.heap.size+1) 3 #[.int .i64 (-1)]:=(Fq _ _ _ (by simp)).trans (by have:=aa.new (w.alloc (.cells #[.bool false] 4)) 3 #[.int .i64 (-1)];rwa [H9] at this)
 have l3:=aa.new ((w.alloc (.cells #[.bool false] 4)).alloc (.cells #[.int .i64 (-1)] 3)) 48 #[.slice A n c]
 rw[H9,H9] at l3
 obtain⟨U,av⟩:∃ U,((w.alloc (.cells #[.bool false] 4)).alloc (.cells #[.int .i64 (-1)] 3)).alloc (.cells #[.slice A n c] 48)=U:=⟨_,rfl⟩
 rw[av] at ah ba l1 l2 l3 ⊢
 clear av
 refine ranged hm (w.heap.size+1+1) none w A n c R h hn rfl (fun _ e=>by cases e) (by omega) ah (fun _ e=>e.none.elim) (by rw[l3.cell];rfl)
  (fun pre W=>((aa W w.heap.size 4 #[.bool false]/\aa W (w.heap.size+1) 3 #[.int .i64 (Tx.ahead pre)])/\Tx.ek (-1) pre)/\fX w U W)
  (fun c pre W=>((c=.ret/\¬Tx.ek (-1) pre)/\aa W w.heap.size 4 #[.bool false])/\fX w U W)
  (OwnFrom.and (OwnFrom.and (OwnFrom.and (Own.from (ft _ _ _) _) (Own.from (ft _ _ _) _)) (ownFrom_pure _ _)) (fX.own (by omega)))
  (fun _=>OwnFrom.and (OwnFrom.and (ownFrom_pure _ _) (Own.from (ft _ _ _) _)) (fX.own (by omega)))
  ⟨⟨⟨l1,l2⟩,trivial⟩,ah,Fm _⟩
  (fun x a' W=>∃ Bx,U.heap.size<=Bx/\aa W Bx 122 #[.int .i64 x.2.1,.int .i64 x.2.2]/\a'={ tmps:=#[.slice A n c,undef,.pointer (some ⟨w.heap.size,0,none⟩),.pointer (some ⟨w.heap.size+1,0,none⟩),.int .i64 x.1,.pointer (some ⟨Bx,0,none⟩),.slice A n c,.int .i64 n,.bool false,.slice A n c,.func (.func 117) #[] #[.pointer (some ⟨w.heap.size+1+1,0,none⟩)],.int .i64 x.1,.agg #[.int .i64 x.2.1,.int .i64 x.2.2],undef,undef,undef,undef,undef,undef,undef,undef,undef,undef,undef,undef,undef,undef,undef,undef,undef,undef,undef,undef,undef,undef,undef,undef,undef,undef],defers:=[] })
  (fun x a' _ X Y row hs hg hr=>by obtain⟨Bx,h1,h2,h3⟩:=hs;exact⟨Bx,h1,ft Bx 122 (fun(_:Unit)=>#[.int .i64 x.2.1,.int .i64 x.2.2]) () X Y row h2 hg (fun r e=>(hr r e).2),h3⟩)
  ?assign ?body ?done ?stop
 case assign=>
  rintro l pre x W K ⟨⟨⟨a1,a7⟩,ho⟩,hb⟩ hK
  gi_wp2
  exact hK _ _ ((KeepsOthers.alloc _ _).from _) (lZ.alloc hb.1.size (fun _ e=>by cases e) _) ⟨⟨⟨(Fq _ _ _ a1.lt).trans a1,(Fq _ _ _ a7.lt).trans a7⟩,ho⟩,hb.alloc _⟩ ⟨W.heap.size,hb.2,aa.new W _ _,rfl⟩
 case body=>
  rintro l pre ⟨xa,L,Q⟩ a' W hl ⟨r,hr⟩ ⟨⟨⟨O,V⟩,hO⟩,hB⟩ ⟨Bx,bn,hX,rfl⟩ bo
  simp only at hX
  have HO:Hid (Tx.ek (-1) (pre++[(xa,L,Q)])↔(0<=L/\L<=196607/\L≠Tx.ahead pre/\1<=Q/\Q<=wrap64 (1099511627776-xa))):=(Tx.sR pre (xa,L,Q)).trans ⟨fun h=>h.2,fun h=>⟨hO,h⟩⟩
  have HA:Hid (Tx.ahead (pre++[(xa,L,Q)])=L):=Tx.ly _ _
  generalize bl:pre++[(xa,L,Q)]=ad at HO HA
  clear hO
  have cR:W.cell? ⟨w.heap.size,0,none⟩=some (.bool false):=by rw[O.cell];rfl
  have fR:=O.free 0
  have cE:W.cell? ⟨w.heap.size+1,0,none⟩=some (.int .i64 (Tx.ahead pre)):=by rw[V.cell];rfl
  have fE:=V.free 0
  have cX:W.cell? ⟨Bx,0,none⟩=some (.int .i64 L):=by rw[hX.cell];rfl
  have cY:W.cell? ⟨Bx,1,none⟩=some (.int .i64 Q):=by rw[hX.cell];rfl
  generalize Tx.ahead pre=pa at HO cE V
  obtain⟨q,hq⟩:∃ q,wrap64 (1099511627776-xa)=q:=⟨_,rfl⟩
  rw[hq] at HO
  have I:(¬(0<=L/\L<=196607/\L≠pa/\1<=Q/\Q<=q))->Hid (KeepsFrom U.heap.size W (W.setCell ⟨w.heap.size,0,none⟩ (.bool false))/\(¬Tx.ek (-1) ad/\aa (W.setCell ⟨w.heap.size,0,none⟩ (.bool false)) w.heap.size 4 #[.bool false])/\fX w U (W.setCell ⟨w.heap.size,0,none⟩ (.bool false))):=fun hg=>by
   have hT:ae (fun k=>w.heap.size<=k/\k<U.heap.size) W (W.setCell ⟨w.heap.size,0,none⟩ (.bool false)):=(ae.refl _ W).put (.inl ⟨Fm _,by show w.heap.size<U.heap.size;omega⟩) _
   exact⟨eZ hT,⟨fun h=>hg (HO.out.1 h),O.put 0 _⟩,hB.turn hT (fun _ e=>e.1)⟩
  have J:(0<=L/\L<=196607/\L≠pa/\1<=Q/\Q<=q)->Hid (KeepsFrom U.heap.size W (W.setCell ⟨w.heap.size+1,0,none⟩ (.int .i64 L))/\lZ none w.heap.size U.heap.size W (W.setCell ⟨w.heap.size+1,0,none⟩ (.int .i64 L))/\((aa (W.setCell ⟨w.heap.size+1,0,none⟩ (.int .i64 L)) w.heap.size 4 #[.bool false]/\aa (W.setCell ⟨w.heap.size+1,0,none⟩ (.int .i64 L)) (w.heap.size+1) 3 #[.int .i64 (Tx.ahead ad)])/\Tx.ek (-1) ad)/\fX w U (W.setCell ⟨w.heap.size+1,0,none⟩ (.int .i64 L))):=fun hg=>by
   have hT:ae (fun k=>w.heap.size<=k/\k<U.heap.size) W (W.setCell ⟨w.heap.size+1,0,none⟩ (.int .i64 L)):=(ae.refl _ W).put (.inl ⟨by show w.heap.size<=w.heap.size+1;omega,by show w.heap.size+1<U.heap.size;omega⟩) _
   refine⟨eZ hT,lZ.tU hT hB.1.size,⟨⟨(Fs W _ _ _ (by show w.heap.size≠w.heap.size+1;omega)).trans O,?_⟩,HO.out.2 hg⟩,hB.turn hT (fun _ e=>e.1)⟩
   rw[HA.out]
   exact V.put 0 _
  clear HO HA O V hX hB bl ba
  by_cases e1:L<0
  ·have d1:decide (L<0)=true:=FW e1
   replace I:=I (by omega)
   clear J
   gi_wp2
   exact⟨I.out.1,⟨⟨rfl,I.out.2.1.1⟩,I.out.2.1.2⟩,I.out.2.2⟩
  have d1:decide (L<0)=false:=Gq e1
  by_cases e2:196607<L
  ·have d2:decide (196607<L)=true:=FW e2
   replace I:=I (by omega)
   clear J
   gi_wp2
   exact⟨I.out.1,⟨⟨rfl,I.out.2.1.1⟩,I.out.2.1.2⟩,I.out.2.2⟩
  have d2:decide (196607<L)=false:=Gq e2
  by_cases e3:L=pa
  ·have d3:(L == pa)=true:=Gw.2 e3
   replace I:=I (fun h=>h.2.2.1 e3)
   clear J e3
   gi_wp2
   exact⟨I.out.1,⟨⟨rfl,I.out.2.1.1⟩,I.out.2.1.2⟩,I.out.2.2⟩
  have d3:(L == pa)=false:=Gx.2 e3
  by_cases e4:Q<1
  ·have d4:decide (Q<1)=true:=FW e4
   replace I:=I (by omega)
   clear J
   gi_wp2
   exact⟨I.out.1,⟨⟨rfl,I.out.2.1.1⟩,I.out.2.1.2⟩,I.out.2.2⟩
  have d4:decide (Q<1)=false:=Gq e4
  by_cases e5:q<Q
  ·have d5:decide (q<Q)=true:=FW e5
   replace I:=I (by omega)
   clear J
   gi_wp2
   exact⟨I.out.1,⟨⟨rfl,I.out.2.1.1⟩,I.out.2.1.2⟩,I.out.2.2⟩
  have d5:decide (q<Q)=false:=Gq e5
  replace J:=J ⟨by omega,by omega,e3,by omega,by omega⟩
  clear I
  gi_wp2
  exact J.out
 case done=>
  rintro D W hD ⟨⟨⟨O,V⟩,hO⟩,hB⟩ hK
  have Z:Tx.May R:=by
   have:=(Tx.lB R n (by rw[h.len];exact Fm _)).1 hO
   rw[<-h.len,Ib] at this
   exact⟨this.1,by rw[h.len];omega,this.2⟩
  have cR:W.cell? ⟨w.heap.size,0,none⟩=some (.bool false):=by rw[O.cell];rfl
  have fR:=O.free 0
  gi_wp2
  have hK':=(KeepsOthers.setCell W ⟨w.heap.size,0,none⟩ (.bool true)).same D _ hK rfl
  refine⟨by simp,.inl ⟨_,_,rfl,run_takeDeferred hK',?_⟩⟩
  have ao:=cell_kept (World.cell?_setCell_same' W ⟨w.heap.size,0,none⟩ (.bool true) (by rw[cR];rfl)) (grownBy_putObj' _ D (.deferred none)) (fun r e=>by cases e;exact⟨_,hK',rfl⟩)
  have hT:ae (fun k=>w.heap.size<=k/\k<U.heap.size) W (W.setCell ⟨w.heap.size,0,none⟩ (.bool true)):=(ae.refl _ W).put (.inl ⟨Fm _,by show w.heap.size<U.heap.size;omega⟩) _
  exact⟨.bool true,by simp[results,Tryz.f29,go_sem,ao],by rw[Tx.mP Z],(hB.turn hT (fun _ e=>e.1)).end_ (by omega) hD hK' _⟩
 case stop=>
  rintro D c k W hD hk ⟨⟨⟨rfl,hO⟩,O⟩,hB⟩ hK
  have Z:¬Tx.May R:=fun hm=>hO ((Tx.lB R k (by rw[h.len];exact hk)).2 ⟨hm.own.take k,hm.part k⟩)
  have cR:W.cell? ⟨w.heap.size,0,none⟩=some (.bool false):=by rw[O.cell];rfl
  gi_wp2
  refine⟨by simp,.inl ⟨_,_,rfl,run_takeDeferred hK,?_⟩⟩
  have ao:=cell_kept cR (grownBy_putObj' _ D (.deferred none)) (fun r e=>by cases e;exact⟨_,hK,rfl⟩)
  exact⟨.bool false,by simp[results,Tryz.f29,go_sem,ao],by rw[Tx.fG Z],hB.end_ (by omega) hD hK _⟩
end Go.Proofs.YtdbgiijdgedggaaGreatDoor
namespace Go.Proofs.YtdbgiijdgedggaaGreatDoor
theorem Lx.pW:∀ (l:List UInt8) (r:Bool),∃ p,l=p++Lx.skip r l
 |[],r=>⟨[],rfl⟩
 |d::l,r=>by
  rw[Lx.jW]
  split
  ·split
   ·exact⟨[],rfl⟩
   ·obtain⟨p,hp⟩:=Lx.pW l ((r&&!decide (d.toNat=10))||decide (d.toNat=59))
    exact⟨d::p,by rw[FZ,<-hp]⟩
  ·exact⟨[],rfl⟩
theorem Lx.sK {c:UInt8} (h:Lx.digit c=true):Lx.name c=true:=by simp[Lx.name,h]
theorem Lx.xw (p:UInt8->Bool):∀ l:List UInt8,(l.takeWhile p).all p=true
 |[]=>rfl
 |c::l=>by
  rw[List.takeWhile_cons]
  split
  ·rename_i h
   rw[List.all_cons,h,Lx.xw p l]
   rfl
  ·rfl
theorem Lx.take_drop (p:UInt8->Bool):∀ l:List UInt8,l.takeWhile p++l.dropWhile p=l
 |[]=>rfl
 |c::l=>by
  rw[List.takeWhile_cons,List.dropWhile_cons]
  split
  ·rw[FZ,Lx.take_drop p l]
  ·rfl
theorem Lx.ec {c:UInt8} {n:Nat} (h:c.toNat=n):c=UInt8.ofNat n:=by rw[<-h];simp
end Go.Proofs.YtdbgiijdgedggaaGreatDoor
namespace Go.Proofs.YtdbgiijdgedggaaGreatDoor
open Go.RowKit
theorem tK {a b:Bool} (h:a=b):Ending.returned (.bool a)=.returned (.bool b):=by rw[h]
theorem oW (c:UInt8) (w:World):Calls Tryz.prog 230 #[.int .u8 (c.toNat:Nat)] w fun e w'=>e=.returned (.bool (Lx.digit c))/\w'=w:=by
 go_enter Tryz.func230,Tryz.ntmps230
 go_wp2
 all_goals
  go_ret
  exact⟨tK (by rw[Ia];simp[Lx.digit] <;> omega),rfl⟩
theorem yv (c:UInt8) (w:World):Calls Tryz.prog 227 #[.int .u8 (c.toNat:Nat)] w fun e w'=>e=.returned (.bool (Lx.blank c))/\w'=w:=by
 go_enter Tryz.func227,Tryz.ntmps227
 go_wp2
 all_goals
  go_ret
  exact⟨tK (by rw[Ia];simp[Lx.blank] <;> omega),rfl⟩
theorem wm (c:UInt8) (w:World):Calls Tryz.prog 176 #[.int .u8 (c.toNat:Nat)] w fun e w'=>e=.returned (.bool (Lx.good c))/\w'=w:=by
 have r:=Gn (yv c w)
 obtain⟨I,h⟩:∃ b,Hid (Lx.blank c=b):=⟨_,rfl⟩
 rw[h.out] at r
 cases I
 all_goals
  go_enter Tryz.func176,Tryz.ntmps176
  go_wp2_with (go_at_call 227;refine r.out.mono ?_;rintro e J ⟨rfl,rfl⟩)
 all_goals
  go_ret
  exact⟨tK (by rw[Lx.good,h.out,Ia];simp <;> omega),rfl⟩
theorem zc {i:Nat} (h:i<17):((⟨#[126,33,64,36,37,94,38,42,95,45,43,61,60,62,46,63,47]⟩:ByteArray)[i]'h).toNat=Lx.marks[i]'h:=by
 have:∀ i:Fin 17,((⟨#[126,33,64,36,37,94,38,42,95,45,43,61,60,62,46,63,47]⟩:ByteArray)[i.1]'i.2).toNat=Lx.marks[i.1]'i.2:=by decide
 exact this ⟨i,h⟩
theorem BN (c:UInt8) (w:World):Calls Tryz.prog 232 #[.int .u8 (c.toNat:Nat)] w fun e w'=>e=.returned (.bool (Lx.name c))/\w'=w:=by
 have O:=Gn (oW c w)
 by_cases h1:97<=c.toNat/\c.toNat<=122
 ·have a1:(97:Int)<=c.toNat:=by omega
  have a2:(c.toNat:Int)<=122:=by omega
  have e:Lx.name c=true:=by simp[Lx.name,h1]
  rw[e]
  go_enter Tryz.func232,Tryz.ntmps232
  go_wp2
  go_ret
  exact⟨rfl,rfl⟩
 by_cases h2:65<=c.toNat/\c.toNat<=90
 ·have a1:¬(97:Int)<=c.toNat:=by omega
  have a2:(65:Int)<=c.toNat:=by omega
  have a3:(c.toNat:Int)<=90:=by omega
  have e:Lx.name c=true:=by simp[Lx.name,h2]
  rw[e]
  go_enter Tryz.func232,Tryz.ntmps232
  go_wp2
  go_ret
  exact⟨rfl,rfl⟩
 by_cases I:Lx.digit c=true
 ·have ad:c.toNat<=57:=by simp[Lx.digit] at I;omega
  have a1:¬(97:Int)<=c.toNat:=by omega
  have a2:¬(65:Int)<=c.toNat:=by omega
  have e:Lx.name c=true:=Lx.sK I
  rw[e]
  rw[I] at O
  go_enter Tryz.func232,Tryz.ntmps232
  go_wp2_with (go_at_call 230;refine O.out.mono ?_;rintro e w1 ⟨rfl,rfl⟩)
  go_ret
  exact⟨rfl,rfl⟩
 have HN:Hid (Lx.name c=Lx.marks.contains c.toNat):=by
  show Lx.name c=Lx.marks.contains c.toNat
  have e1:(decide (97<=c.toNat)&&decide (c.toNat<=122))=false:=by rw[GU];simpa using h1
  have e2:(decide (65<=c.toNat)&&decide (c.toNat<=90))=false:=by rw[GU];simpa using h2
  rw[Lx.name,e1,e2,GU.2 I]
  simp
 have HM:Hid (∀ (i:Nat) (h:i<17),((⟨#[126,33,64,36,37,94,38,42,95,45,43,61,60,62,46,63,47]⟩:ByteArray)[i]'h).toNat=Lx.marks[i]'h):=fun _ h=>zc h
 rw[GU.2 I] at O
 rw[HN.out]
 obtain⟨k,J⟩:∃ k,Hid (k=Lx.marks.contains c.toNat):=⟨_,rfl⟩
 rw[<-J.out]
 have hw:(122:Int)<c.toNat\/(90:Int)<c.toNat/\(c.toNat:Int)<97\/(c.toNat:Int)<65:=by omega
 rcases hw with a|⟨a,a'⟩|a
 all_goals
  first|have b1:(97:Int)<=c.toNat:=by omega|have b1:¬(97:Int)<=c.toNat:=by omega
  first|have b2:(65:Int)<=c.toNat:=by omega|have b2:¬(65:Int)<=c.toNat:=by omega
  first|have b3:¬(c.toNat:Int)<=90:=by omega|skip
  first|have b4:¬(c.toNat:Int)<=122:=by omega|skip
  clear h1 h2 I HN
  go_enter Tryz.func232,Tryz.ntmps232
  go_wp2_with (go_at_call 230;refine O.out.mono ?_;rintro e w1 ⟨rfl,rfl⟩)
  generalize hS:(⟨#[126,33,64,36,37,94,38,42,95,45,43,61,60,62,46,63,47]⟩:ByteArray)=S
  have ah:S.size=17:=by rw[<-hS];rfl
  have U:Hid (∀ i (h:i<S.size) (Z:i<17),S[i].toNat=Lx.marks[i]'Z):=by
   subst hS
   exact fun i h Z=>HM.out i Z
  clear hS HM
  go_loopw [4] (fun iv wr=>∃ i:Nat,i<=17/\iv=.int .i64 (i:Nat)/\wr=w1/\Hid (k=(Lx.marks.drop i).contains c.toNat)) (fun iv _=>17-(intOf iv).toNat)
  case atStart=>exact⟨0,by omega,rfl,rfl,J⟩
  case round=>
   obtain⟨i,hi,rfl,rfl,r⟩:=hrel
   by_cases L:i<17
   ·have V:Hid (S[i].toNat=Lx.marks[i]):=U.out i (by omega) L
    have Q:Hid ((Lx.marks.drop i).contains c.toNat=((Lx.marks[i] == c.toNat)||(Lx.marks.drop (i+1)).contains c.toNat)):=by
     show _=_
     rw[FC L,List.contains_cons,Bool.beq_comm]
    by_cases he:S[i].toNat=c.toNat
    ·have hb:((S[i].toNat:Int) == (c.toNat:Int))=true:=Gw.2 (by omega)
     have hk:k=true:=by
      rw[r.out,Q.out,<-V.out,he]
      simp
     clear r Q V U he J
     subst hk
     go_wp2
     go_ret
     exact⟨rfl,rfl⟩
    ·have hb:((S[i].toNat:Int) == (c.toNat:Int))=false:=by
      rw[Gx]
      omega
     have X:Hid (k=(Lx.marks.drop (i+1)).contains c.toNat):=by
      show _=_
      rw[r.out,Q.out,<-V.out,Gx.2 he,Ii]
     clear r Q V U he J
     go_wp2
     go_roundw
     case rel=>exact⟨i+1,by omega,by go_num,by trivial,X⟩
     case measure=>simp[intOf];omega
   ·obtain rfl:i=17:=by omega
    have hk:k=false:=r.out
    subst hk
    clear r J U
    go_wp2
    go_ret
    exact⟨rfl,rfl⟩
theorem Dx (z:Int) (w:World):Calls Tryz.prog 319 #[.int .i64 z] w fun e w'=>e=.returned (.bool false)/\w'=w:=by
 go_enter Tryz.func319,Tryz.ntmps319
 go_wp2
 go_ret
 exact⟨by simp,rfl⟩
theorem DW (z:Int) (w:World):Calls Tryz.prog 309 #[.int .i64 z] w fun e w'=>e=.returned (.bool false)/\w'=w:=by
 go_enter Tryz.func309,Tryz.ntmps309
 go_wp2
 go_ret
 exact⟨by simp,rfl⟩
theorem D5 (x y:Int) (w:World):Calls Tryz.prog 308 #[.int .i64 x,.int .i64 y] w fun e w'=>e=.returned (.bool (decide (x<y)))/\w'=w:=by
 have h:=Gn fun w=>Dx x w
 obtain⟨b,hb⟩:∃ b,decide (x<y)=b:=⟨_,rfl⟩
 rw[hb]
 go_enter Tryz.func308,Tryz.ntmps308
 go_wp2_with (go_at_call 319;refine(h.out _).mono ?_;rintro e r ⟨rfl,rfl⟩)
 go_ret
 exact⟨rfl,rfl⟩
theorem yX (w:World) (A:Option Addr) (n c:Nat) (l:List Int) (h:aH w A n l) (hn:n<=1000000) (z:Int) (k:Nat) (hk:k<=n) (ad:∀ (i:Nat) x,i<k->l[i]?=some x->x<z) (X:∀ (i:Nat) x,k<=i->l[i]?=some x->z<=x):
  Calls Tryz.prog 299 #[.slice A n c,.int .i64 z] w fun e w'=>(∃ b,e=.returned (.tuple #[.int .i64 (k:Int),.bool b]))/\w'=w:=by
 have Q:=Gn h
 have HL:=Gn ad
 have V:=Gn X
 clear h ad X
 go_enter Tryz.func299,Tryz.ntmps299
 go_wp2
 go_loopw [7,8] (fun iv jv wr=>∃ i j:Nat,i<=k/\k<=j/\j<=n/\iv=.int .i64 (i:Nat)/\jv=.int .i64 (j:Nat)/\w=wr) (fun iv jv _=>(intOf jv).toNat-(intOf iv).toNat)
 case atStart=>exact⟨0,n,Fz _,hk,Fm _,rfl,rfl,rfl⟩
 case round=>
  obtain⟨i,j,L,O,a7,rfl,rfl,rfl⟩:=hrel
  by_cases I:i<j
  ·obtain⟨q,hq⟩:∃ q,(i+j)/2=q:=⟨_,rfl⟩
   have bo:i<=q:=by omega
   have bp:q<j:=by omega
   have a1:decide ((i:Int)<(j:Int))=true:=FW (by omega)
   obtain⟨b,off,x,rfl,U,_,_,hc⟩:=Q.out.get (i:=q) (by omega)
   obtain⟨av,cx⟩:=hc w (Gp _ w)
   have ao:(q:Int)<(n:Int):=by omega
   have ba:(0:Int)<=(q:Int):=by omega
   have hs:IntKind.i64.wrap ((i:Int)+(j:Int))=(i:Int)+(j:Int):=GR _ (by omega)
   have bl:((i:Int)+(j:Int))/2=(q:Int):=by omega
   have bn:((i:Int)+(j:Int)) >>> 1=(q:Int):=by rw[Int.shiftRight_eq_div_pow];omega
   have r:=Gn fun w=>D5 x z w
   by_cases J:x<z
   ·have ah:q<k:=by
     rcases GX q k with e|e
     ·exact e
     ·have:=V.out q x e U
      omega
    rw[FW J] at r
    clear hc U hq Q HL V I J
    go_wp2_with fail
    refine(r.out _).mono ?_
    rintro e w1 ⟨rfl,rfl⟩
    clear r
    go_wp2
    go_roundw
    case rel=>exact⟨q+1,j,by omega,O,a7,by go_num,rfl,by first|trivial|rfl⟩
    case measure=>simp[intOf];omega
   ·have ah:k<=q:=by
     rcases GX q k with e|e
     ·have:=HL.out q x e U
      omega
     ·exact e
    rw[Gq J] at r
    clear hc U hq Q HL V I J
    go_wp2_with fail
    refine(r.out _).mono ?_
    rintro e w1 ⟨rfl,rfl⟩
    clear r
    go_wp2
    go_roundw
    case rel=>exact⟨i,q,L,ah,by omega,rfl,by go_num,by first|trivial|rfl⟩
    case measure=>simp[intOf];omega
  ·obtain rfl:i=k:=by omega
   obtain rfl:j=i:=by omega
   have a1:decide ((j:Int)<(j:Int))=false:=Gq (by omega)
   have HN:=Gn fun(x:Int) w=>DW x w
   by_cases Z:j<n
   ·obtain⟨b,off,x,rfl,U,_,_,hc⟩:=Q.out.get Z
    obtain⟨av,cx⟩:=hc w (Gp _ w)
    have ao:(j:Int)<(n:Int):=by omega
    have bb:decide ((j:Int)<(n:Int))=true:=FW ao
    have ba:(0:Int)<=(j:Int):=by omega
    cases J:(x == z) with
    |true=>
     clear hc U Q HL V I hk L O
     go_wp2
     go_ret2
     exact⟨⟨_,rfl⟩,rfl⟩
    |false=>
     clear hc U Q HL V I hk L O
     go_wp2_with (go_at_call 309;refine(HN.out _ _).mono ?_;rintro e w1 ⟨rfl,rfl⟩)
     go_ret2
     exact⟨⟨_,rfl⟩,rfl⟩
   ·have bb:decide ((j:Int)<(n:Int))=false:=Gq (by omega)
    clear Q HL V I hk L O
    go_wp2
    go_ret2
    exact⟨⟨_,rfl⟩,rfl⟩
end Go.Proofs.YtdbgiijdgedggaaGreatDoor
