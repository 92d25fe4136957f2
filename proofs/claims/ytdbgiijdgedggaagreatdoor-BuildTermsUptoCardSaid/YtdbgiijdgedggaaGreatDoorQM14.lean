import Derived.Test.YtdbgiijdgedggaaGreatDoorQM12
import Derived.Test.YtdbgiijdgedggaaGreatDoorQM07
import Derived.Lib.AppendIntMem
import Derived.Lib.ItoaLen
import Derived.Lib.Slices
import Derived.Laws.IdiomStrings
import Derived.WalkKit
import Derived.BigCall
import Derived.Deep.RegionHeld3
import Derived.Laws.AppendOwnNone
set_option linter.unusedSimpArgs false
set_option linter.unusedVariables false
set_option maxRecDepth 100000
set_option maxHeartbeats 25600000
namespace Go.Proofs.YtdbgiijdgedggaaGreatDoor
open Go.RowKit
abbrev dD (w:World):Prop:=Lib.TabBelow Tryz.prog w.heap.size w "internal/strconv.uint64pow10" .u64 Lib.pow10Tab
theorem dD.on {w w':World} (h:dD w) (hb:Below w.heap.size w w'):dD w':=fun r I=>h r (hb.trans (I.mono hb.size))
theorem dD.base {w w':World} (h:dD w) {B:Nat} (J:w.heap.size<=B) (hb:Below w.heap.size w w'):Lib.TabBelow Tryz.prog B w' "internal/strconv.uint64pow10" .u64 Lib.pow10Tab:=fun r I=>h r (hb.trans (I.mono J))
theorem xy:(Tryz.prog.info? 5).map (fun i=>(i.zero,i.size,i.bytes))=some (some (.int .u8 0),1,1):=by kernel_rfl
theorem nW (a b:List UInt8):Lib.byteCells (a++b)=Lib.byteCells a++Lib.byteCells b:=by simp[Lib.byteCells]
theorem CR (w:World) (B N:Nat) (A:Option Addr) (c:Nat) (xs:List UInt8) (z:Int) (hz:(Lit.int .i64 z).wf=true) (hN:N=xs.length) (O:w.ownsRow B 5 1 (.slice A N c) N (Lib.byteCells xs)) (hB:B<=w.heap.size) (hl:N<=10000000)
  (hT:Lib.TabBelow Tryz.prog B w "internal/strconv.uint64pow10" .u64 Lib.pow10Tab):
  Calls Tryz.prog 172 #[.slice A N c,.int .i64 z] w fun e w'=>(∃ A' N' c',e=.returned (.slice A' N' c')/\N'=(xs++Lib.itoa z++[44]).length/\w'.ownsRow B 5 1 (.slice A' N' c') N' (Lib.byteCells (xs++Lib.itoa z++[44])))/\Below B w w'/\Lib.OthersKept 5 none w w':=by
 obtain⟨i0,hi,ba,bb,bl⟩:=Gj xy
 obtain⟨h0,h1⟩:=bounds_i64 hz
 have hlen:=Iq z h0 h1
 have HA:=Gn (Tryz.strconv_AppendInt_10 B N z h0 h1 (.slice A N c) _ w O hB (by omega) hT)
 obtain⟨T,Z⟩:∃ T,Lib.itoa z=T:=⟨_,rfl⟩
 rw[Z] at HA hlen ⊢
 have HN:=Gn hN
 clear O hT Z hN
 go_enter Tryz.func172,Tryz.ntmps172
 go_wp2_with fail
 refine HA.out.mono ?_
 rintro e w1 ⟨v1,rfl,h,U,L⟩
 obtain⟨A1,c1,rfl⟩:=aI h
 obtain⟨J,Q⟩:∃ J,N+T.length=J:=⟨_,rfl⟩
 have bn:J<=10000100:=by omega
 have ah:Hid (J+1=(xs++T++[44]).length):=by
  show J+1=(xs++T++[44]).length
  have:=HN.out
  simp
  omega
 rw[Q,<-nW] at h
 rw[Q]
 have HO:=Gn h
 have V:=Gn U
 have X:=Gn L
 have a7:B<=w1.heap.size:=Fo hB U.size
 have a1:J+1<=maxLen:=by unfold maxLen;omega
 clear HA h U L HN Q hl hlen h0 h1 hz
 go_wp2_with (at_builtin;refine wpList_append_own _ rfl (.tmp 7) (.tmp 8) 229 rfl B 5 i0 (.int .u8 0) 1 1 Tryz.underlying229 hi ba bb bl rfl (by decide) (.slice A1 J c1) J (Lib.byteCells (xs++T)) (by simp[Act.eval]) (HO.out.alloc _) ⟨w1.heap.size,0,none⟩ 1 1 [Value.int .u8 44] (by simp[Act.eval]) rfl (Gm _ _ _) (by intro u' ad;simp at ad;subst ad;rfl) a1 (by omega) (by simp;omega) ?_;intro v2 w2 r I _;refine Hid.out ?_)
 refine Gn ?_
 obtain⟨A2,c2,rfl⟩:=aI r
 have av:Lib.byteCells (xs++T)++[Value.int .u8 44]=Lib.byteCells (xs++T++[44]):=by rw[nW (xs++T)];rfl
 rw[av] at r
 have hr:=HO.out.lt
 have HE:Hid (Below B w w2/\Lib.OthersKept 5 none w w2):=by
  refine⟨(V.out.alloc a7 _).grown I (by simp;omega) (fun k hk=>(hr k hk).1),?_⟩
  refine((X.out.alloc _).grown I fun g hg=>?_)
  obtain⟨cs,hcs⟩:=ji HO.out hg
  exact⟨cs,_,(Fq _ _ _ hcs.lt).trans hcs⟩
 have ao:=Gn r
 clear r I hr HO V X
 go_wp2
 go_ret
 exact⟨⟨_,_,_,rfl,ah.out,ao.out⟩,HE.out⟩
theorem By {w:World} {B:Nat} {A:Option Addr} {n c:Nat} {l:List UInt8} (hn:n=l.length) (h:w.ownsRow B 5 1 (.slice A n c) n (Lib.byteCells l)):
  (convert 229 9 (.slice A n c)).run Tryz.prog w=.ok (.string ⟨l.toArray⟩) w:=by
 subst hn
 rcases h.2 with⟨e,L⟩|⟨g,cap,cur,e,_⟩
 ·injection e with r J I
  subst r
  subst I
  obtain rfl:l=[]:=FV L
  rw[run_convert_bytes_string w 229 9 5 _ _ _ Tryz.underlying229 Tryz.underlying5 Tryz.underlying9]
  rfl
 ·injection e with r J I
  subst r
  exact run_convert_bytes_back w 229 9 5 ⟨g,0,none⟩ c l Tryz.underlying229 Tryz.underlying5 Tryz.underlying9 fun j O=>by
   have:=h.cells (g:=g) rfl j (.int .u8 (l[j].toNat:Int)) (by unfold Lib.byteCells;rw[Fj,Ge O];rfl)
   exact this
def iG (h:World) (A:Option Addr) (N c:Nat) (xs:List UInt8) (wr:World):Prop:=N=xs.length/\wr.ownsRow h.heap.size 5 1 (.slice A N c) N (Lib.byteCells xs)/\Below h.heap.size h wr
theorem iG.zero (h:World):iG h none 0 0 [] h:=⟨rfl,Gg _ _ _ _,Gp _ _⟩
theorem iG.alloc {r wr:World} {A:Option Addr} {N c:Nat} {xs:List UInt8} (h:iG r A N c xs wr) (o:Obj):iG r A N c xs (wr.alloc o):=⟨h.1,h.2.1.alloc o,h.2.2.alloc h.2.2.size o⟩
theorem iG.drew {r wr:World} {A:Option Addr} {N c:Nat} {xs:List UInt8} (h:iG r A N c xs wr):iG r A N c xs wr.drew:=⟨h.1,h.2.1,h.2.2.trans ⟨rfl,rfl,rfl,Fm _,fun _ _=>rfl⟩⟩
theorem kt {r wr:World} {A:Option Addr} {N c:Nat} {xs:List UInt8} (h:iG r A N c xs wr) (z:Int) (hz:(Lit.int .i64 z).wf=true) (hl:N<=10000000) (hT:dD r):
  Calls Tryz.prog 172 #[.slice A N c,.int .i64 z] wr fun e w'=>(∃ A' N' I,e=.returned (.slice A' N' I)/\iG r A' N' I (xs++Lib.itoa z++[44]) w')/\Lib.OthersKept 5 none wr w':=
 (CR wr r.heap.size N A c xs z hz h.1 h.2.1 h.2.2.size hl (hT.base (Fm _) h.2.2)).mono fun _ _ ⟨⟨A',N',I,J,L,O⟩,Q,U⟩=>⟨⟨A',N',I,J,L,O,h.2.2.trans Q⟩,U⟩
theorem lq {l:List Int} {i:Nat} {z:Int} (pre:List Int) (h:l[i]?=some z):Tm.spell (pre++l.take (i+1))=Tm.spell (pre++l.take i)++Lib.itoa z++[44]:=by
 rw[take_one h,<-F3,Tm.jN]
theorem gJ {l pre:List Int} {i:Nat} (h:∀ z∈pre++l,(Lit.int .i64 z).wf=true) (hp:(pre++l).length<=140000):(Tm.spell (pre++l.take i)).length<=5600000:=by
 have r:=Tm.jY (l:=pre++l.take i) fun z hz=>h z (by
  rcases F7.1 hz with hz|hz
  ·exact F9 _ hz
  ·exact List.mem_append_right _ (GN hz))
 have I:(pre++l.take i).length<=(pre++l).length:=by simp;omega
 omega
abbrev Bo (p:Nat) (x1 x2:Int) (W:World):Prop:=W.cell? ⟨p,0,none⟩=some (.int .i64 x1)/\W.cell? ⟨p,1,none⟩=some (.int .i64 x2)/\aa W p 122 #[.int .i64 x1,.int .i64 x2]
theorem Bo.of {p:Nat} {r I:Int} {W:World} (h:aa W p 122 #[.int .i64 r,.int .i64 I]):Bo p r I W:=⟨by rw[h.cell];rfl,by rw[h.cell];rfl,h⟩
theorem Bo.keep {p:Nat} {I J:Int} {W r:World} (L:Lib.OthersKept 5 none W r) (h:Bo p I J W):Bo p I J r:=Bo.of (L _ _ h.2.2 (by simp) (fun c O e=>by cases e))
theorem C6 (w:World) (P:bJ) (x:Nd) (ha:aH w P.A P.n x.a) (hb:aQ w P.B P.m (Tm.limbs x.num)) (hs:cd w P.C P.p x.str) (bD:∀ z∈x.a,(Lit.int .i64 z).wf=true) (Z:∀ r∈x.str,(Lit.int .i64 r.1).wf=true/\(Lit.int .i64 r.2).wf=true)
  (hn:P.n<=1000) (hm:P.m<=1000) (hp:P.p<=65536) (hT:dD w):
  Calls Tryz.prog 124 #[.agg (P.cells x)] w fun e w'=>e=.returned (Tm.key x).v/\Below w.heap.size w w':=by
 obtain⟨A,n,c,g,B,m,d,C,p,f⟩:=P
 simp only at ha hb hs hn hm hp
 have cj:=ha.len
 have cP:=hb.1
 have cl:=hs.len
 obtain⟨J,ch⟩:∃ J,(w.alloc (.cells (bJ.cells ⟨A,n,c,g,B,m,d,C,p,f⟩ x) 50)).alloc (.cells #[.int .i64 0,.int .i64 0,.string ⟨#[]⟩,.string ⟨#[]⟩] 208)=J:=⟨_,rfl⟩
 have B0:Below w.heap.size w J:=by rw[<-ch];exact((Gp _ w).alloc (Fm _) _).alloc (by simp) _
 have L0:aa J w.heap.size 50 (bJ.cells ⟨A,n,c,g,B,m,d,C,p,f⟩ x):=by rw[<-ch];exact(Fq _ _ _ (by simp)).trans (aa.new w _ _)
 have L1:aa J (w.heap.size+1) 208 #[.int .i64 0,.int .i64 0,.string ⟨#[]⟩,.string ⟨#[]⟩]:=by
  have:=aa.new (w.alloc (.cells (bJ.cells ⟨A,n,c,g,B,m,d,C,p,f⟩ x) 50)) 208 #[.int .i64 0,.int .i64 0,.string ⟨#[]⟩,.string ⟨#[]⟩]
  rw[H9] at this
  rw[<-ch]
  exact this
 have HT:Hid (dD J):=hT.on B0
 have HA:=Gn (ha.below B0)
 have HB:=Gn (hb.below B0)
 have HS:=Gn (hs.below B0)
 obtain⟨lb,bp⟩:∃ lb,Tm.limbs x.num=lb:=⟨_,rfl⟩
 obtain⟨li,bx⟩:∃ li:List Int,lb.map (fun(n:Nat)=>(n:Int))=li:=⟨_,rfl⟩
 have b8:li.length=m:=by rw[<-bx,Fi,<-bp];exact cP
 have b4:∀ z∈li,(Lit.int .i64 z).wf=true:=fun z hz=>by
  rw[<-bx] at hz
  obtain⟨q,hq,rfl⟩:=Hh.1 hz
  rw[<-bp] at hq
  have:=Tm.mZ _ q hq
  rw[M.bS] at this
  exact Ff (by omega)
 have dS:∀ z∈Tm.flat x.str,(Lit.int .i64 z).wf=true:=fun z hz=>by
  revert Z hz
  generalize x.str=t
  induction t with
  |nil=>intro _ hz;cases hz
  |cons r t ih=>
   intro Z hz
   rw[Tm.flat] at hz
   rcases FE.1 hz with rfl|hz
   ·exact(Z r (by simp)).1
   rcases FE.1 hz with rfl|hz
   ·exact(Z r (by simp)).2
   ·exact ih (fun q hq=>Z q (Gd _ hq)) hz
 have bL:Hid (∀ i,(Tm.spell ([]++x.a.take i)).length<=5600000):=fun i=>gJ (by simpa using bD) (by simp;omega)
 have bb:Hid (∀ i,(Tm.spell (x.a++li.take i)).length<=5600000):=fun i=>gJ (fun z hz=>(F7.1 hz).elim (bD z) (b4 z)) (by simp;omega)
 have X:Hid (∀ i,(Tm.spell (x.a++li++(Tm.flat x.str).take i)).length<=5600000):=fun i=>gJ (fun z hz=>(F7.1 hz).elim (fun hz=>(F7.1 hz).elim (bD z) (b4 z)) (dS z)) (by simp;rw[Tm.bX];omega)
 have bT:=Gn bD
 have a1:=Gn Z
 have b1:=Gn b4
 rw[bp] at HB
 have bl:=Gn bx
 have Q:=Gn b8
 have I:=Gn L0
 have ah:=Gn L1
 have ad:=Gn B0
 have c0:J.cell? ⟨w.heap.size,0,none⟩=some (.int .i64 x.op):=by rw[L0.cell];rfl
 have c1:J.cell? ⟨w.heap.size,1,none⟩=some (.int .i64 x.sort):=by rw[L0.cell];rfl
 have c2:J.cell? ⟨w.heap.size,2,none⟩=some (.slice A n c):=by rw[L0.cell];rfl
 obtain⟨al,b2⟩:∃ al,x.a=al:=⟨_,rfl⟩
 obtain⟨O,b3⟩:∃ O,x.str=O:=⟨_,rfl⟩
 rw[b2] at HA bL bb X bT cj
 rw[b3] at HS X a1 cl
 have b5:Hid (Tm.vW x=al++li++Tm.flat O):=by
  show Tm.vW x=al++li++Tm.flat O
  unfold Tm.vW
  rw[bp,bx,b2,b3]
 have bE:=Gn b2
 have bP:=Gn b3
 have ao:Hid (al.length=n/\O.length=p):=⟨cj,cl⟩
 clear ha hb hs bD Z b4 dS cj cP cl bx b8 bp hT B0 L0 L1 b3
 obtain⟨S9,av⟩:∃ S9:ByteArray,Hid (S9=⟨(Tm.spell (al++li++Tm.flat O)).toArray⟩):=⟨_,rfl⟩
 have dd:(Tm.key x).v=.agg #[.int .i64 x.op,.int .i64 x.sort,.string x.name,.string S9]:=by
  rw[av.out,<-b5.out]
  rfl
 rw[dd]
 clear dd b5 b2
 go_enter Tryz.func124,Tryz.ntmps124
 go_wp2_with fail
 go_loopw [3,13] (fun lv iv wr=>∃ (i k:Nat) (D:Option Addr) (e:Nat),i<=n/\lv=.slice D k e/\iv=.int .i64 (i:Nat)/\Hid (iG J D k e (Tm.spell ([]++al.take i)) wr)) (fun _ iv _=>n-(intOf iv).toNat)
 case atStart=>exact⟨0,0,none,0,Fz _,rfl,rfl,iG.zero J⟩
 case round=>
  obtain⟨i,k,D,e,hi,rfl,rfl,L⟩:=hrel
  by_cases dx:i<n
  ·have b9:(i:Int)<(n:Int):=by omega
   have fz:(0:Int)<=(i:Int):=by omega
   obtain⟨bA,oA,z,rfl,hz,ea,_,hc⟩:=HA.out.get dx
   have cz:=(hc wr L.out.2.2).2
   have bn:=Gn (kt L.out z (bT.out z ea) (by have:=L.out.1;have:=bL.out i;omega) HT.out)
   have U:=Gn (lq [] hz)
   have fE:IntKind.i64.wrap ((i:Int)+1)=(i:Int)+1:=GR _ (by omega)
   clear av hz ea hc L HA HB HS HT bL bb X bT a1 b1 bl Q I ah ad bE bP ao c0 c1 c2
   go_wp2_with fail
   refine bn.out.mono ?_
   rintro e w3 ⟨⟨A3,k3,f3,rfl,hS⟩,_⟩
   have HV:Hid (iG J A3 k3 f3 (Tm.spell ([]++al.take (i+1))) w3):=by rw[U.out];exact hS
   clear bn U hS cz
   go_wp2
   go_roundw
   case rel=>exact⟨i+1,k3,A3,f3,by omega,by go_num,by go_num,HV.out⟩
   case measure=>simp[intOf];omega
  ·have cX:n=i:=by omega
   have e9:¬(i:Int)<(n:Int):=by omega
   have V:=L.out
   rw[<-cX,<-ao.out.1,Ib,FY] at V
   have cb:Hid (iG J D k e (Tm.spell (al++li.take 0)) wr):=by rw[G8,GH];exact V
   have hL:=(V.2.2.block _ I.out.lt).trans I.out
   have c5:=aa.cell (t:=50) (cs:=bJ.cells ⟨A,n,c,g,B,m,d,C,p,f⟩ x) hL 5
   simp at c5
   clear L V hL HA bL bT c0 c1 c2 dx cX hi
   go_wp2
   go_loopw [3,25] (fun lv iv wr=>∃ (j k:Nat) (D:Option Addr) (e:Nat),j<=m/\lv=.slice D k e/\iv=.int .i64 (j:Nat)/\Hid (iG J D k e (Tm.spell (al++li.take j)) wr)) (fun _ iv _=>m-(intOf iv).toNat)
   case atStart=>exact⟨0,k,D,e,Fz _,rfl,rfl,cb.out⟩
   case round=>
    obtain⟨j,k2,D2,e2,hj,rfl,rfl,L⟩:=hrel
    by_cases bz:j<m
    ·have b9:(j:Int)<(m:Int):=by omega
     have e4:(0:Int)<=(j:Int):=by omega
     obtain⟨bB,oB,rfl,eW,hc⟩:=HB.out.at_ (by omega)
     obtain⟨q,hq,fR,cR⟩:=hc j bz
     have cq:=(L.out.2.2.cell (p:=⟨bB,oB+j,none⟩) eW).trans cR
     have hz:li[j]?=some (q:Int):=by
      have cY:j<lb.length:=by rw[HB.out.1];exact bz
      rw[<-bl.out,Fj,Ge cY,hq.out,G3,Ge cY]
      rfl
     have bn:=Gn (kt L.out (q:Int) (b1.out _ (FP hz)) (by have:=L.out.1;have:=bb.out j;omega) HT.out)
     have U:=Gn (lq al hz)
     have e5:IntKind.i64.wrap ((j:Int)+1)=(j:Int)+1:=GR _ (by omega)
     have ga:IntKind.i64.wrap (q:Int)=(q:Int):=GR _ (by omega)
     clear av hz hc cR hq L cb HB HS HT bb X a1 b1 bl Q I ah ad bE bP ao c5
     go_wp2_with fail
     refine bn.out.mono ?_
     rintro e w3 ⟨⟨A3,k3,f3,rfl,hS⟩,_⟩
     have HV:Hid (iG J A3 k3 f3 (Tm.spell (al++li.take (j+1))) w3):=by rw[U.out];exact hS
     clear bn U hS cq
     go_wp2
     go_roundw
     case rel=>exact⟨j+1,k3,A3,f3,by omega,by go_num,by go_num,HV.out⟩
     case measure=>simp[intOf];omega
    ·have c7:m=j:=by omega
     have fa:¬(j:Int)<(m:Int):=by omega
     have V:=L.out
     rw[<-c7,<-Q.out,Ib] at V
     have cc:Hid (iG J D2 k2 e2 (Tm.spell (al++li++Tm.flat (O.take 0))) wr):=by rw[G8,Tm.flat,GH];exact V
     have hL:=(V.2.2.block _ I.out.lt).trans I.out
     have c6:=aa.cell (t:=50) (cs:=bJ.cells ⟨A,n,c,g,B,m,d,C,p,f⟩ x) hL 6
     simp at c6
     clear L cb V hL HB bb b1 bz c7 hj c5
     go_wp2
     go_loopw [3,37] (fun lv iv wr=>∃ (j k:Nat) (D:Option Addr) (e:Nat),j<=p/\lv=.slice D k e/\iv=.int .i64 (j:Nat)/\Hid (iG J D k e (Tm.spell (al++li++Tm.flat (O.take j))) wr)) (fun _ iv _=>p-(intOf iv).toNat)
     case atStart=>exact⟨0,k2,D2,e2,Fz _,rfl,rfl,cc.out⟩
     case round=>
      obtain⟨j,k3,D3,e3,hj,rfl,rfl,L⟩:=hrel
      by_cases ca:j<p
      ·have b9:(j:Int)<(p:Int):=by omega
       have e4:(0:Int)<=(j:Int):=by omega
       obtain⟨bC,oC,r,rfl,hr,dN,_,hc⟩:=HS.out.get ca
       obtain⟨_,er,ev⟩:=hc wr L.out.2.2
       obtain⟨r1,r2⟩:=r
       have ba:=a1.out _ dN
       simp only at er ev ba
       obtain⟨po,e6⟩:∃ po,wr.heap.size=po:=⟨_,rfl⟩
       obtain⟨W1,cE⟩:∃ W1,wr.alloc (.cells #[.int .i64 r1,.int .i64 r2] 122)=W1:=⟨_,rfl⟩
       have cf:Hid (iG J D3 k3 e3 (Tm.spell (al++li++Tm.flat (O.take j))) W1.drew):=by rw[<-cE];exact(L.out.alloc _).drew
       have cx:Hid (Bo po r1 r2 W1.drew):=by rw[<-cE,<-e6];exact Bo.of (aa.new wr _ _)
       have cN:=X.out (2*j)
       have dO:(Tm.flat O).take (2*j)=Tm.flat (O.take j):=by
        have hf:∀ (t:List (Int×Int)) (j:Nat),(Tm.flat t).take (2*j)=Tm.flat (t.take j):=fun t=>by
         induction t with
         |nil=>intro j;simp[Tm.flat]
         |cons q t ih=>
          intro j
          cases j with
          |zero=>simp[Tm.flat]
          |succ j=>rw[show 2*(j+1)=2*j+1+1 by omega];simp[Tm.flat,ih j]
        exact hf O j
       rw[dO] at cN
       have b6:=Gn (kt cf.out r1 ba.1 (by have:=cf.out.1;omega) HT.out)
       have b7:Hid (∀ W A4 k4 f4,iG J A4 k4 f4 (Tm.spell (al++li++Tm.flat (O.take j))++Lib.itoa r1++[44]) W->Calls Tryz.prog 172 #[.slice A4 k4 f4,.int .i64 r2] W fun e w'=>(∃ A' N' c',e=.returned (.slice A' N' c')/\iG J A' N' c' (Tm.spell (al++li++Tm.flat (O.take j))++Lib.itoa r1++[44]++Lib.itoa r2++[44]) w')/\Lib.OthersKept 5 none W w'):=fun W A4 k4 f4 q=>
        kt q r2 ba.2 (by
         have h1:=q.1
         have h2:=Iq r1 (bounds_i64 ba.1).1 (bounds_i64 ba.1).2
         rw[Gb,Gb,Im] at h1
         omega) HT.out
       have U:Hid (Tm.spell (al++li++Tm.flat (O.take (j+1)))=Tm.spell (al++li++Tm.flat (O.take j))++Lib.itoa r1++[44]++Lib.itoa r2++[44]):=by
        show Tm.spell (al++li++Tm.flat (O.take (j+1)))=_
        rw[take_one hr,Tm.qe,<-F3]
        show Tm.spell (al++li++Tm.flat (O.take j)++([r1]++[r2]))=_
        rw[<-F3,Tm.jN,Tm.jN]
       have e5:IntKind.i64.wrap ((j:Int)+1)=(j:Int)+1:=GR _ (by omega)
       clear av hr dN hc ba cN dO L cc HS cf HT X a1 bl Q I ah ad bE bP ao c6
       go_wp2_with fail
       go_region_held3 (fun W=>W.cell? ⟨po,0,none⟩=some (.int .i64 r1)/\W.cell? ⟨po,1,none⟩=some (.int .i64 r2)/\aa W po 122 #[.int .i64 r1,.int .i64 r2])
        (first|exact cx.out|exact Bo.keep (by assumption) (by assumption))
        (first|(go_at_call 172;first|(with_reducible refine b6.out.mono ?_;rintro e w4 ⟨⟨A4,k4,f4,rfl,s4⟩,o4⟩)|(with_reducible refine(b7.out _ _ _ _ (by assumption)).mono ?_;rintro e w5 ⟨⟨A5,k5,f5,rfl,s5⟩,o5⟩)))
       have HV:Hid (iG J A5 k5 f5 (Tm.spell (al++li++Tm.flat (O.take (j+1)))) w5):=by rw[U.out];exact s5
       clear b6 b7 U cx
       go_wp2
       go_roundw
       case rel=>exact⟨j+1,k5,A5,f5,by omega,by go_num,by go_num,HV.out⟩
       case measure=>simp[intOf];omega
      ·have c8:p=j:=by omega
       have fb:¬(j:Int)<(p:Int):=by omega
       have V:=L.out
       rw[<-c8,<-ao.out.2,Ib] at V
       have hL:=(V.2.2.block _ I.out.lt).trans I.out
       have a7:=(V.2.2.block _ ah.out.lt).trans ah.out
       have c0:=aa.cell (t:=50) (cs:=bJ.cells ⟨A,n,c,g,B,m,d,C,p,f⟩ x) hL 0
       have c1:=aa.cell (t:=50) (cs:=bJ.cells ⟨A,n,c,g,B,m,d,C,p,f⟩ x) hL 1
       have c3:=aa.cell (t:=50) (cs:=bJ.cells ⟨A,n,c,g,B,m,d,C,p,f⟩ x) hL 3
       simp at c0 c1 c3
       have e1:=By V.1 V.2.1
       have cv:Hid (Below w.heap.size w wr/\w.heap.size+1<wr.heap.size/\aa wr (w.heap.size+1) 208 #[.int .i64 0,.int .i64 0,.string ⟨#[]⟩,.string ⟨#[]⟩]):=⟨ad.out.trans (V.2.2.mono ad.out.size),aa.lt (t:=208) a7,a7⟩
       obtain⟨W4,cF⟩:∃ W4,(((wr.setCell ⟨w.heap.size+1,0,none⟩ (.int .i64 x.op)).setCell ⟨w.heap.size+1,1,none⟩ (.int .i64 x.sort)).setCell ⟨w.heap.size+1,2,none⟩ (.string x.name)).setCell ⟨w.heap.size+1,3,none⟩ (.string S9)=W4:=⟨_,rfl⟩
       have bo:aa W4 (w.heap.size+1) 208 #[.int .i64 x.op,.int .i64 x.sort,.string x.name,.string S9]:=by
        rw[<-cF]
        exact(((aa.put a7 0 (.int .i64 x.op)).put 1 (.int .i64 x.sort)).put 2 (.string x.name)).put 3 (.string S9)
       have cy:Below w.heap.size w W4:=by
        have t4:ae (fun i=>w.heap.size<=i) w W4:=by
         rw[<-cF]
         exact((((ae.af cv.out.1).put (p:=⟨w.heap.size+1,0,none⟩) (.inl (Iz _)) _).put (p:=⟨w.heap.size+1,1,none⟩) (.inl (Iz _)) _).put (p:=⟨w.heap.size+1,2,none⟩) (.inl (Iz _)) _).put (p:=⟨w.heap.size+1,3,none⟩) (.inl (Iz _)) _
        exact t4.below (Fm _) (fun _ h=>h)
       have d0:=aa.cell (t:=208) (cs:=#[.int .i64 0,.int .i64 0,.string ⟨#[]⟩,.string ⟨#[]⟩]) a7
       have e0:=aa.free (t:=208) (cs:=#[.int .i64 0,.int .i64 0,.string ⟨#[]⟩,.string ⟨#[]⟩]) a7
       have eA:=d0 0
       have eD:=d0 1
       have eO:=d0 2
       have eP:=d0 3
       have ff:=e0 0
       have fv:=e0 1
       have fx:=e0 2
       have fy:=e0 3
       simp at eA eD eO eP
       have k0:W4.cell? ⟨w.heap.size+1,0,none⟩=some (.int .i64 x.op):=by rw[bo.cell];rfl
       have k1:W4.cell? ⟨w.heap.size+1,1,none⟩=some (.int .i64 x.sort):=by rw[bo.cell];rfl
       have e7:W4.cell? ⟨w.heap.size+1,2,none⟩=some (.string x.name):=by rw[bo.cell];rfl
       have e8:W4.cell? ⟨w.heap.size+1,3,none⟩=some (.string S9):=by rw[bo.cell];rfl
       have en:=Gn cy
       clear bo cy cv
       clear L cc V hL a7 HS X a1 ca c8 hj c6 bl Q bE bP ao I ah ad HT d0 e0
       rw[<-av.out] at e1
       clear av
       go_wp2
       exact GD (v:=.agg #[.int .i64 x.op,.int .i64 x.sort,.string x.name,.string S9]) (by simp[results,Tryz.results124,go_sem,k0,k1,e7,e8]) rfl ⟨rfl,en.out⟩
theorem ki {P:Program} {w:World} (t ty e:TypeId) (i:TypeInfo) (c:Nat) (ht:P.underlying t=some (.slice e)) (hi:P.info? e=some i):
  (Builtin.append_ #[t,t] ty #[.slice none 0 0,.slice none 0 c]).run P w=.ok (.slice none 0 0) w:=by
 simp[Builtin.append_,run_underlying ht,sizeOf,typeInfo,hi,Builtin.lenOf,Builtin.firstCells]
theorem wz {P:Program} (w:World) {ops:Array Oper} {rest:List Oper} {o:Oper} {a:Act} {Q:Exit->Act->World->Prop} (J:o.guard=none) (x:Operand) (t:TypeId)
  (ho:o.op=.call { callee:=.builtin .append,args:=#[.const (.slice none 0 0),x],argTypes:=#[t,t] })
  (e:TypeId) (i:TypeInfo) (z:Value) (size bytes:Nat) (ht:P.underlying t=some (.slice e)) (hi:P.info? e=some i) (hz:i.zero=some z)
  (I:i.size=size) (V:i.bytes=bytes) (Z:z.cells.size=size) (X:0<size)
  (A:Option Addr) (n c:Nat) (xs:List Value) (hx:a.eval x=.slice A n c) (hl:xs.length=n*size)
  (hr:0<n->∃ b off,A=some ⟨b,off,none⟩/\∀ j u,xs[j]?=some u->w.cell? ⟨b,off+j,none⟩=some u) (h1:∀ u∈xs,u.oneCell'=true)
  (ah:n<=maxLen) (r:n*bytes<=140737488355328)
  (h:∀ A' U w',w'.ownsRow w.heap.size e size (.slice A' n U) n xs->Below w.heap.size w w'->wpList P ops Q rest (a.put o.dst (.slice A' n U)) w'):
  wpList P ops Q (o::rest) a w:=by
 cases A with
 |none=>
  have hn:n=0:=by
   rcases Hn n with e|e
   ·exact e
   ·obtain⟨b,off,e,_⟩:=hr e
    cases e
  subst hn
  obtain rfl:xs=[]:=FV (by rw[hl,Hx])
  refine wpList_plain J fun K hK=>?_
  have L:=ki (P:=P) (w:=w) t o.type e i c ht hi
  have hs:a.eval (Operand.const (.slice none 0 0))=.slice none 0 0:=rfl
  unfold Oper.wp
  simp[execOp,ho,resolve,invoke,builtin,hs,hx,L,Result.andThen]
  exact hK _ _ (h none 0 w (Gg _ _ _ _) (Gp _ _))
 |some ad=>
  refine Fw w J _ x t ho w.heap.size e i z size bytes ht hi hz I V Z X (.slice none 0 0) 0 [] rfl (Gg _ _ _ _)
   ad n c xs hx hl (fun j u hu=>?_) h1 (by omega) (by rw[FA];exact r) (Fm _) fun v' w' q1 O _ _=>?_
  ·have hj:=(Fg.1 hu).1
   have hn:0<n:=by
    rcases Hn n with e|e
    ·subst e
     omega
    ·exact e
   obtain⟨b,off,e,hc⟩:=hr hn
   obtain rfl:=Fk e
   rw[addr_add]
   exact hc j u hu
  ·simp only[FA,FY] at q1
   obtain⟨A',U,rfl⟩:=aI q1
   exact h A' U w' q1 ⟨O.os,O.tape,O.output,O.size,fun k hk=>O.block k hk (by simp[Value.ownBlock])⟩
structure iQ (w:World) (G:Nat->Prop) (P:bJ) (x:Nd):Prop where
 a:aH w P.A P.n x.a
 num:aQ w P.B P.m (Tm.limbs x.num)
 str:cd w P.C P.p x.str
 neg:P.g=false
 cap:P.m<=P.d/\P.d<=maxLen
 few:P.n<=1000/\P.m<=1000/\P.p<=65536
 CN:∀ z∈x.a,(Lit.int .i64 z).wf=true
 CK:∀ r∈x.str,(Lit.int .i64 r.1).wf=true/\(Lit.int .i64 r.2).wf=true
 g:Gs G P.A P.n/\Gs G P.B P.m/\Gs G P.C P.p
theorem aQ.bR {F G:Nat->Prop} {w w':World} {A:Option Addr} {n:Nat} {l:List Nat} (h:aQ w A n l) (hT:ae F w w') (J:Gs G A n) (I:∀ k,G k->¬F k):aQ w' A n l:=
 ⟨h.1,h.2.1,fun hn=>by
  obtain⟨b,off,e,r,hc⟩:=h.2.2 hn
  have hb:=I _ (J _ e hn)
  exact⟨b,off,e,Fp r hT.size,fun j L=>(hT.cell (p:=⟨b,off+j,none⟩) r hb).trans (hc j L)⟩⟩
theorem iQ.below {w w':World} {G:Nat->Prop} {P:bJ} {x:Nd} (h:iQ w G P x) (hb:Below w.heap.size w w'):iQ w' G P x:=⟨h.a.below hb,h.num.below hb,h.str.below hb,h.neg,h.cap,h.few,h.CN,h.CK,h.g⟩
theorem iQ.turn {F G:Nat->Prop} {w w':World} {P:bJ} {x:Nd} (h:iQ w G P x) (hT:ae F w w') (r:∀ k,G k->¬F k):iQ w' G P x:=⟨h.a.turn hT h.g.1 r,h.num.bR hT h.g.2.1 r,h.str.turn hT h.g.2.2 r,h.neg,h.cap,h.few,h.CN,h.CK,h.g⟩
theorem iQ.mono {w:World} {G G':Nat->Prop} {P:bJ} {x:Nd} (h:iQ w G P x) (r:∀ k,G k->G' k):iQ w G' P x:=⟨h.a,h.num,h.str,h.neg,h.cap,h.few,h.CN,h.CK,h.g.1.mono r,h.g.2.1.mono r,h.g.2.2.mono r⟩
theorem iQ.inside {w:World} {G:Nat->Prop} {P:bJ} {x:Nd} (h:iQ w G P x):iQ w (fun k=>G k/\k<w.heap.size) P x:=
 ⟨h.a,h.num,h.str,h.neg,h.cap,h.few,h.CN,h.CK,fun a e hn=>by
  obtain⟨b,off,I,r,_⟩:=h.a.at_ hn
  refine⟨h.g.1 a e hn,?_⟩
  rw[I] at e
  rw[<-Fk e]
  exact r,fun a e hn=>by
  obtain⟨b,off,I,r,_⟩:=h.num.2.2 hn
  refine⟨h.g.2.1 a e hn,?_⟩
  rw[I] at e
  rw[<-Fk e]
  exact r,fun a e hn=>by
  obtain⟨b,off,I,r,_⟩:=h.str.at_ hn
  refine⟨h.g.2.2 a e hn,?_⟩
  rw[I] at e
  rw[<-Fk e]
  exact r⟩
theorem iQ.E0 {w:World} {G:Nat->Prop} {P:bJ} {x:Nd} (h:iQ w G P x):dk w G P x:=by
 refine⟨h.a,⟨⟨Tm.limbs x.num,h.num,by rw[Tm.jG];rfl,h.cap.1,h.cap.2,by have:=h.few.2.1;omega⟩,?_⟩,h.str,⟨by have:=h.few.1;omega,by have:=h.few.2.1;omega,by have:=h.few.2.2;omega⟩,h.g⟩
 rw[h.neg]
 simp[Z.sg]
theorem aH.src {w:World} {A:Option Addr} {n:Nat} {l:List Int} (h:aH w A n l):0<n->∃ b off,A=some ⟨b,off,none⟩/\∀ j u,(cH l)[j]?=some u->w.cell? ⟨b,off+j,none⟩=some u:=fun hn=>by
 obtain⟨b,off,e,_,hc⟩:=h.at_ hn
 refine⟨b,off,e,fun j u hu=>?_⟩
 rw[Fj] at hu
 obtain⟨z,hz,rfl⟩:=FT.1 hu
 exact hc j z hz
theorem aQ.src {w:World} {A:Option Addr} {n:Nat} {l:List Nat} (h:aQ w A n l):0<n->∃ b off,A=some ⟨b,off,none⟩/\∀ j u,(cellsOf l)[j]?=some u->w.cell? ⟨b,off+j,none⟩=some u:=fun hn=>by
 obtain⟨b,off,e,_,hc⟩:=h.2.2 hn
 refine⟨b,off,e,fun j u hu=>?_⟩
 have r:j<l.length:=by
  have:=(Fg.1 hu).1
  rwa [aP] at this
 rw[dT r] at hu
 rw[<-Fk hu]
 exact hc j (by rw[<-h.1];exact r)
theorem cd.src {w:World} {A:Option Addr} {n:Nat} {l:List (Int×Int)} (h:cd w A n l):0<n->∃ b off,A=some ⟨b,off,none⟩/\∀ j u,(aK l)[j]?=some u->w.cell? ⟨b,off+j,none⟩=some u:=fun hn=>by
 obtain⟨b,off,e,_,hc⟩:=h.at_ hn
 refine⟨b,off,e,fun j u hu=>?_⟩
 have Q:=(Fg.1 hu).1
 rw[gT] at Q
 obtain⟨y,hy⟩:∃ y,l[j/2]?=some y:=⟨_,Ge (by omega)⟩
 obtain⟨I,J⟩:=ri l _ y hy
 obtain⟨L,O⟩:=hc _ y hy
 rcases Nat.mod_two_eq_zero_or_one j with e|e
 ·have r:j/2*2=j:=by omega
  rw[r] at I L
  rw[hu] at I
  rw[Fk I]
  exact L
 ·have r:j/2*2+1=j:=by omega
  rw[r] at J
  rw[hu] at J
  rw[Fk J]
  have:off+j/2*2+1=off+j:=by omega
  rw[this] at O
  exact O
theorem xd {w:World} {B:Nat} {A:Option Addr} {n c:Nat} {l:List Nat} (h:w.ownsRow B 206 1 (.slice A n c) n (cellsOf l)) (hn:l.length=n) (hf:M.Fit l):aQ w A n l/\n<=c/\c<=maxLen:=by
 subst hn
 obtain⟨A',O,e,J,L⟩:=iq.mf (show iq w B (.slice A l.length c) l from h) hf
 injection e with r _ I
 subst r
 subst I
 exact⟨J,L⟩
theorem pQ {w:World} {B:Nat} {A:Option Addr} {n c:Nat} {l:List Int} (h:w.ownsRow B 3 1 (.slice A n c) n (cH l)) (hn:l.length=n):aH w A n l:=
 ⟨hn,fun L=>by
  rcases h.2 with⟨_,e⟩|⟨g,cap,cur,e,_,I,_⟩
  ·omega
  ·injection e with r _ _
   subst r
   refine⟨g,0,rfl,(Fl.1 I).1,fun i x J=>?_⟩
   have:=Gi (g:=g) h rfl i (.int .i64 x) (by rw[Fj,J];rfl)
   rwa [addr_add] at this⟩
theorem sC {w:World} {B:Nat} {e:TypeId} {size:Nat} {A:Option Addr} {n c:Nat} {xs:List Value} (h:w.ownsRow B e size (.slice A n c) n xs):Gs (fun k=>B<=k) A n:=fun a I _=>by
 rcases h.2 with⟨q,_⟩|⟨g,cap,cur,r,J,_⟩
 ·injection q with q _ _
  rw[I] at q
  cases q
 ·injection r with r _ _
  rw[I] at r
  rw[Fk r]
  exact J
theorem C9:(Tryz.prog.info? 3).map (fun i=>(i.zero,i.size,i.bytes))=some (some (.int .i64 0),1,8):=by kernel_rfl
theorem CQ:(Tryz.prog.info? 206).map (fun i=>(i.zero,i.size,i.bytes))=some (some (.int .u32 0),1,4):=by kernel_rfl
theorem Cr:(Tryz.prog.info? 122).map (fun i=>(i.zero,i.size,i.bytes))=some (some (.agg #[.int .i64 0,.int .i64 0]),2,16):=by kernel_rfl
structure zi (w:World) (W:World) (cs:Array Value):Prop where
 box:aa W w.heap.size 50 cs
 res:aa W (w.heap.size+1) 50 #[.int .i64 0,.int .i64 0,.slice none 0 0,.string ⟨#[]⟩,.bool false,.slice none 0 0,.slice none 0 0]
 fM:Below w.heap.size w W
theorem zi.below {w W r:World} {cs:Array Value} (h:zi w W cs) (hb:Below W.heap.size W r):zi w r cs:=
 ⟨(hb.block _ h.box.lt).trans h.box,(hb.block _ h.res.lt).trans h.res,h.fM.trans (hb.mono h.fM.size)⟩
theorem zi.put {w W:World} {cs:Array Value} (h:zi w W cs) (i:Nat) (u:Value):zi w (W.setCell ⟨w.heap.size,i,none⟩ u) (cs.setIfInBounds i u):=
 ⟨h.box.put i u,((ae.refl (fun k=>k=w.heap.size) W).put (p:=⟨w.heap.size,i,none⟩) (.inl rfl) u).lies h.res (by omega),
  (((ae.af (F:=fun k=>w.heap.size<=k) h.fM).put (p:=⟨w.heap.size,i,none⟩) (.inl (Fm _)) u)).below (Fm _) (fun _ h=>h)⟩
theorem DT (w:World) {G:Nat->Prop} (P:bJ) (x:Nd) (h:iQ w G P x):
  Calls Tryz.prog 48 #[.agg (P.cells x)] w fun e w'=>(∃ P':bJ,e=.returned (.agg (P'.cells x))/\iQ w' (fun k=>w.heap.size<=k) P' x)/\Below w.heap.size w w':=by
 obtain⟨A,n,c,g,B,m,d,C,p,f⟩:=P
 have bC:g=false:=h.neg
 subst bC
 obtain⟨W0,b7⟩:∃ W0,(w.alloc (.cells (bJ.cells ⟨A,n,c,false,B,m,d,C,p,f⟩ x) 50)).alloc (.cells #[.int .i64 0,.int .i64 0,.slice none 0 0,.string ⟨#[]⟩,.bool false,.slice none 0 0,.slice none 0 0] 50)=W0:=⟨_,rfl⟩
 have q0:zi w W0 #[.int .i64 x.op,.int .i64 x.sort,.slice A n c,.string x.name,.bool false,.slice B m d,.slice C p f]:=by
  rw[<-b7]
  refine⟨(Fq _ _ _ (by simp)).trans (aa.new w _ _),?_,((Gp _ w).alloc (Fm _) _).alloc (by simp) _⟩
  have:=aa.new (w.alloc (.cells (bJ.cells ⟨A,n,c,false,B,m,d,C,p,f⟩ x) 50)) 50 #[.int .i64 0,.int .i64 0,.slice none 0 0,.string ⟨#[]⟩,.bool false,.slice none 0 0,.slice none 0 0]
  rwa [H9] at this
 have HH:Hid (∀ W,Below w.heap.size w W->iQ W G ⟨A,n,c,false,B,m,d,C,p,f⟩ x):=fun W hW=>h.below hW
 obtain⟨f1,f2,f3⟩:n<=1000/\m<=1000/\p<=65536:=h.few
 have LA:Hid ((cH x.a).length=n*1):=by
  show(cH x.a).length=n*1
  have e:x.a.length=n:=h.a.len
  rw[Fi,e];omega
 have LB:Hid ((cellsOf (Tm.limbs x.num)).length=m*1):=by
  show(cellsOf (Tm.limbs x.num)).length=m*1
  have e:(Tm.limbs x.num).length=m:=h.num.1
  rw[aP,e];omega
 have LC:Hid ((aK x.str).length=p*2):=by
  show(aK x.str).length=p*2
  have e:x.str.length=p:=h.str.len
  rw[gT,e]
 have HA:Hid (∀ W,Below w.heap.size w W->0<n->∃ b off,A=some ⟨b,off,none⟩/\∀ j u,(cH x.a)[j]?=some u->W.cell? ⟨b,off+j,none⟩=some u):=fun W hW=>(h.a.below hW).src
 have HB:Hid (∀ W,Below w.heap.size w W->0<m->∃ b off,B=some ⟨b,off,none⟩/\∀ j u,(cellsOf (Tm.limbs x.num))[j]?=some u->W.cell? ⟨b,off+j,none⟩=some u):=fun W hW=>(h.num.below hW).src
 have HC:Hid (∀ W,Below w.heap.size w W->0<p->∃ b off,C=some ⟨b,off,none⟩/\∀ j u,(aK x.str)[j]?=some u->W.cell? ⟨b,off+j,none⟩=some u):=fun W hW=>(h.str.below hW).src
 obtain⟨iI,b9,ca,cb,cc⟩:=Gj C9
 obtain⟨iU,cq,cv,cx,cy⟩:=Gj CQ
 obtain⟨iR,cf,ch,cj,cl⟩:=Gj Cr
 have mA:n<=maxLen:=by unfold maxLen;omega
 have mB:m<=maxLen:=by unfold maxLen;omega
 have mC:p<=maxLen:=by unfold maxLen;omega
 have yA:n*8<=140737488355328:=by omega
 have yB:m*4<=140737488355328:=by omega
 have yC:p*16<=140737488355328:=by omega
 have oA:∀ u∈cH x.a,u.oneCell'=true:=fun u hu=>by obtain⟨z,_,rfl⟩:=Hh.1 hu;rfl
 have OA:=Gn oA
 have OB:Hid (∀ u∈cellsOf (Tm.limbs x.num),u.oneCell'=true):=gG
 have OC:=Gn (rJ x.str)
 have av:=Gn q0
 have bo:Hid (w.heap.size+2<=W0.heap.size):=by
  show w.heap.size+2<=W0.heap.size
  have:=q0.res.lt
  omega
 have c2:=q0.box.cell 2
 simp at c2
 clear h q0 oA
 go_enter Tryz.func48,Tryz.ntmps48
 go_wp2_with (at_builtin;refine wz _ rfl (.tmp 4) 44 rfl 3 iI (.int .i64 0) 1 8 Tryz.underlying44 b9 ca cb cc rfl (by decide) A n c (cH x.a) (by simp[Act.eval]) LA.out (HA.out _ av.out.fM) OA.out mA yA ?_;intro Q c1 w1 o1 b1;refine Hid.out ?_)
 refine Gn ?_
 have q1:=av.out.below b1
 have bx:=q1.box.cell 2
 have cz:=q1.box.free 2
 have l1:=q1.box.lt
 simp at bx
 obtain⟨v1,a1⟩:∃ v1,w1.setCell ⟨w.heap.size,2,none⟩ (.slice Q n c1)=v1:=⟨_,rfl⟩
 have bb:zi w v1 #[.int .i64 x.op,.int .i64 x.sort,.slice Q n c1,.string x.name,.bool false,.slice B m d,.slice C p f]:=by rw[<-a1];exact q1.put 2 (.slice Q n c1)
 have O1:Hid (v1.ownsRow W0.heap.size 3 1 (.slice Q n c1) n (cH x.a)):=by
  show v1.ownsRow W0.heap.size 3 1 (.slice Q n c1) n (cH x.a)
  rw[<-a1]
  exact((ae.refl (fun k=>k=w.heap.size) w1).put (p:=⟨w.heap.size,2,none⟩) (.inl rfl) _).own o1 (fun g Z e=>by
   have:=(o1.lt g Z).1
   have:=av.out.box.lt
   omega)
 have bD:Hid (W0.heap.size<=w1.heap.size):=b1.size
 have ah:=Gn bb
 have c5:=bb.box.cell 5
 simp at c5
 clear o1 b1 q1 bb av c2
 go_wp2_with (at_builtin;refine wz _ rfl (.tmp 9) 45 rfl 206 iU (.int .u32 0) 1 4 Tryz.underlying45 cq cv cx cy rfl (by decide) B m d (cellsOf (Tm.limbs x.num)) (by simp[Act.eval]) LB.out (HB.out _ ah.out.fM) OB.out mB yB ?_;intro U I w2 o2 b2;refine Hid.out ?_)
 refine Gn ?_
 have q2:=ah.out.below b2
 have bz:=q2.box.cell 5
 have cE:=q2.box.free 5
 have l2:=q2.box.lt
 simp at bz
 have s1:W0.heap.size<=v1.heap.size:=by
  rw[<-a1]
  simpa [World.setCell] using bD.out
 obtain⟨v2,ad⟩:∃ v2,w2.setCell ⟨w.heap.size,5,none⟩ (.slice U m I)=v2:=⟨_,rfl⟩
 have bl:zi w v2 #[.int .i64 x.op,.int .i64 x.sort,.slice Q n c1,.string x.name,.bool false,.slice U m I,.slice C p f]:=by rw[<-ad];exact q2.put 5 (.slice U m I)
 have T2:Hid (ae (fun k=>k=w.heap.size\/k=w.heap.size+1) v1 v2):=by
  show ae (fun k=>k=w.heap.size\/k=w.heap.size+1) v1 v2
  rw[<-ad]
  exact(ae.af b2).put (p:=⟨w.heap.size,5,none⟩) (.inl (.inl rfl)) _
 have O2:Hid (v2.ownsRow v1.heap.size 206 1 (.slice U m I) m (cellsOf (Tm.limbs x.num))):=by
  show v2.ownsRow v1.heap.size 206 1 (.slice U m I) m (cellsOf (Tm.limbs x.num))
  rw[<-ad]
  exact((ae.refl (fun k=>k=w.heap.size) w2).put (p:=⟨w.heap.size,5,none⟩) (.inl rfl) _).own o2 (fun g Z e=>by
   have:=(o2.lt g Z).1
   have:=ah.out.box.lt
   omega)
 have X:=Gn s1
 have bE:Hid (v1.heap.size<=w2.heap.size):=b2.size
 have ao:=Gn bl
 have c6:=bl.box.cell 6
 simp at c6
 clear o2 b2 q2 bl ah c5 s1 bD a1 bx cz l1
 go_wp2_with (at_builtin;refine wz _ rfl (.tmp 14) 48 rfl 122 iR (.agg #[.int .i64 0,.int .i64 0]) 2 16 Tryz.underlying48 cf ch cj cl rfl (by decide) C p f (aK x.str) (by simp[Act.eval]) LC.out (HC.out _ ao.out.fM) OC.out mC yC ?_;intro V J w3 o3 b3;refine Hid.out ?_)
 refine Gn ?_
 have q3:=ao.out.below b3
 have bT:=q3.box.cell 6
 have cF:=q3.box.free 6
 have l3:=q3.box.lt
 simp at bT
 have s2:v1.heap.size<=v2.heap.size:=by
  rw[<-ad]
  simpa [World.setCell] using bE.out
 obtain⟨v3,bn⟩:∃ v3,w3.setCell ⟨w.heap.size,6,none⟩ (.slice V p J)=v3:=⟨_,rfl⟩
 have r:zi w v3 #[.int .i64 x.op,.int .i64 x.sort,.slice Q n c1,.string x.name,.bool false,.slice U m I,.slice V p J]:=by rw[<-bn];exact q3.put 6 (.slice V p J)
 have T3:Hid (ae (fun k=>k=w.heap.size\/k=w.heap.size+1) v2 v3):=by
  show ae (fun k=>k=w.heap.size\/k=w.heap.size+1) v2 v3
  rw[<-bn]
  exact(ae.af b3).put (p:=⟨w.heap.size,6,none⟩) (.inl (.inl rfl)) _
 have O3:Hid (v3.ownsRow v2.heap.size 122 2 (.slice V p J) p (aK x.str)):=by
  show v3.ownsRow v2.heap.size 122 2 (.slice V p J) p (aK x.str)
  rw[<-bn]
  exact((ae.refl (fun k=>k=w.heap.size) w3).put (p:=⟨w.heap.size,6,none⟩) (.inl rfl) _).own o3 (fun g Z e=>by
   have:=(o3.lt g Z).1
   have:=ao.out.box.lt
   omega)
 have ba:=Gn s2
 obtain⟨O,bB⟩:∃ O,((((((v3.setCell ⟨w.heap.size+1,0,none⟩ (.int .i64 x.op)).setCell ⟨w.heap.size+1,1,none⟩ (.int .i64 x.sort)).setCell ⟨w.heap.size+1,2,none⟩ (.slice Q n c1)).setCell ⟨w.heap.size+1,3,none⟩ (.string x.name)).setCell ⟨w.heap.size+1,4,none⟩ (.bool false)).setCell ⟨w.heap.size+1,5,none⟩ (.slice U m I)).setCell ⟨w.heap.size+1,6,none⟩ (.slice V p J)=O:=⟨_,rfl⟩
 have L:aa O (w.heap.size+1) 50 #[.int .i64 x.op,.int .i64 x.sort,.slice Q n c1,.string x.name,.bool false,.slice U m I,.slice V p J]:=by
  rw[<-bB]
  exact((((((r.res.put 0 (.int .i64 x.op)).put 1 (.int .i64 x.sort)).put 2 (.slice Q n c1)).put 3 (.string x.name)).put 4 (.bool false)).put 5 (.slice U m I)).put 6 (.slice V p J)
 have T4:ae (fun k=>k=w.heap.size\/k=w.heap.size+1) v3 O:=by
  rw[<-bB]
  exact(((((((ae.refl _ v3).put (p:=⟨w.heap.size+1,0,none⟩) (.inl (.inr rfl)) _).put (p:=⟨w.heap.size+1,1,none⟩) (.inl (.inr rfl)) _).put (p:=⟨w.heap.size+1,2,none⟩) (.inl (.inr rfl)) _).put (p:=⟨w.heap.size+1,3,none⟩) (.inl (.inr rfl)) _).put (p:=⟨w.heap.size+1,4,none⟩) (.inl (.inr rfl)) _).put (p:=⟨w.heap.size+1,5,none⟩) (.inl (.inr rfl)) _).put (p:=⟨w.heap.size+1,6,none⟩) (.inl (.inr rfl)) _
 have b8:w.heap.size+2<=W0.heap.size:=bo.out
 have HE:Hid (iQ O (fun k=>w.heap.size<=k) ⟨Q,n,c1,false,U,m,I,V,p,J⟩ x/\Below w.heap.size w O):=by
  have h0:=HH.out w (Gp _ _)
  have bp:ae (fun k=>k=w.heap.size\/k=w.heap.size+1) v2 O:=T3.out.trans T4 (fun _ e=> .inl e)
  have bL:ae (fun k=>k=w.heap.size\/k=w.heap.size+1) v1 O:=T2.out.trans bp (fun _ e=> .inl e)
  have k1:=bL.own O1.out (fun g Z=>by have:=(Gh O1.out g Z).1;omega)
  have k2:=bp.own O2.out (fun g Z=>by have:=(Gh O2.out g Z).1;have:=X.out;omega)
  have k3:=T4.own O3.out (fun g Z=>by have:=(Gh O3.out g Z).1;have:=X.out;have:=ba.out;omega)
  have a7:=xd k2 h0.num.1 h0.num.2.1
  refine⟨⟨pQ k1 h0.a.len,a7.1,?_,rfl,a7.2,h0.few,h0.CN,h0.CK,(sC k1).mono (fun k hk=>by omega),(sC k2).mono (fun k hk=>by have:=X.out;omega),(sC k3).mono (fun k hk=>by have:=X.out;have:=ba.out;omega)⟩,?_⟩
  ·have hl:x.str.length=p:=h0.str.len
   have:bj O v2.heap.size V J x.str:=by unfold bj;rw[hl];exact k3
   exact this.runs hl
  ·exact(((ae.af (F:=fun k=>w.heap.size<=k) r.fM)).trans T4 (fun k hk=> .inl (by omega))).below (Fm _) (fun _ h=>h)
 have k0:O.cell? ⟨w.heap.size+1,0,none⟩=some (.int .i64 x.op):=by rw[L.cell];rfl
 have k1:O.cell? ⟨w.heap.size+1,1,none⟩=some (.int .i64 x.sort):=by rw[L.cell];rfl
 have k2:O.cell? ⟨w.heap.size+1,2,none⟩=some (.slice Q n c1):=by rw[L.cell];rfl
 have k3:O.cell? ⟨w.heap.size+1,3,none⟩=some (.string x.name):=by rw[L.cell];rfl
 have k4:O.cell? ⟨w.heap.size+1,4,none⟩=some (.bool false):=by rw[L.cell];rfl
 have k5:O.cell? ⟨w.heap.size+1,5,none⟩=some (.slice U m I):=by rw[L.cell];rfl
 have k6:O.cell? ⟨w.heap.size+1,6,none⟩=some (.slice V p J):=by rw[L.cell];rfl
 have b0:=r.box.cell 0
 have b1:=r.box.cell 1
 have b2:=r.box.cell 2
 have bP:=r.box.cell 3
 have b4:=r.box.cell 4
 have b5:=r.box.cell 5
 have b6:=r.box.cell 6
 have r0:=r.res.cell 0
 have r1:=r.res.cell 1
 have r2:=r.res.cell 2
 have r3:=r.res.cell 3
 have r4:=r.res.cell 4
 have r5:=r.res.cell 5
 have r6:=r.res.cell 6
 have y0:=r.res.free 0
 have y1:=r.res.free 1
 have y2:=r.res.free 2
 have y3:=r.res.free 3
 have y4:=r.res.free 4
 have y5:=r.res.free 5
 have y6:=r.res.free 6
 have ll:=r.res.lt
 simp at b0 b1 b2 bP b4 b5 b6 r0 r1 r2 r3 r4 r5 r6
 clear o3 b3 q3 r ao c6 s2 bE ad bz cE l2 O1 O2 O3 T2 T3 T4 L X ba b8 bo HH HA HB HC LA LB LC OA OB OC
 go_wp2
 exact GD (v:=.agg #[.int .i64 x.op,.int .i64 x.sort,.slice Q n c1,.string x.name,.bool false,.slice U m I,.slice V p J]) (by simp[results,Tryz.results48,go_sem,k0,k1,k2,k3,k4,k5,k6]) rfl ⟨⟨⟨Q,n,c1,false,U,m,I,V,p,J⟩,rfl,HE.out.1⟩,HE.out.2⟩
theorem lI {z:Int}:(Z.qK z<0)↔z<0:=by
 rcases Z.jR z with⟨r,h⟩|⟨r,h⟩|⟨r,h⟩ <;> rw[h] <;> omega
theorem AO (s:Int) (A:Option Addr) (n c:Nat) (w:World) (hs:¬s<0):
  Calls Tryz.prog 84 #[.int .i64 s,.slice A n c] w fun e w'=>e=.returned (.agg #[.bool false,.slice A n c])/\Below w.heap.size w w':=by
 have hb:Hid (Below w.heap.size w (w.alloc (Obj.cells #[.bool false,.slice A n c] 47))):=(Gp _ _).alloc (Fm _) _
 go_enter Tryz.func84,Tryz.ntmps84
 go_wp2
 exact GD (v:=.agg #[.bool false,.slice A n c]) (by simp[results,Tryz.results84,go_sem]) rfl ⟨rfl,hb.out⟩
structure qE (w:World) (G:Nat->Prop) (A:Option Addr) (n c N:Nat):Prop where
 mf:aQ w A n (Tm.limbs N)
 cap:n<=c/\c<=maxLen
 g:Gs G A n
theorem qE.below {w w':World} {G:Nat->Prop} {A:Option Addr} {n c N:Nat} (h:qE w G A n c N) (hb:Below w.heap.size w w'):qE w' G A n c N:=⟨h.mf.below hb,h.cap,h.g⟩
theorem xN {w:World} {A:Option Addr} {n c N:Nat} (h:In w A n c N) (hn:n<=900):
  Calls Tryz.prog 147 #[.slice A n c] w fun e w'=>(∃ A' n' r,e=.returned (.slice A' n' r)/\n'<=900/\qE w' (fun k=>w.heap.size<=k) A' n' r N)/\Below w.heap.size w w':=by
 obtain⟨l,L,rfl,O,Q,h5⟩:=h
 refine(xW A n c l w L O Q (by omega)).mono ?_
 rintro e w' ⟨l',I,V,X,k4,J,Z⟩
 have hl:Tm.limbs (M.val l)=l':=by rw[<-X];exact Tm.qh I V
 rcases Z with⟨rfl,rfl⟩|⟨rfl,U⟩
 ·exact⟨⟨none,0,0,rfl,by omega,⟨by rw[hl];exact aQ.dI _ _,⟨Fm _,Fz _⟩,Gs.zero _ _⟩⟩,J⟩
 ·refine⟨⟨_,_,_,rfl,by omega,⟨by rw[hl];exact U.mf I rfl,⟨Fm _,by unfold maxLen;omega⟩,fun a ha _=>?_⟩⟩,J⟩
  rw[<-Fk ha]
  exact Fm _
theorem DS (g:Bool) (A:Option Addr) (n c:Nat) (z:Int) (w:World) (h:o9 w g A n c z) (hz:¬z<0) (hn:n<=900):
  Calls Tryz.prog 197 #[.agg #[.bool g,.slice A n c]] w fun e w'=>(∃ A' n' c',e=.returned (.agg #[.bool false,.slice A' n' c'])/\n'<=900/\qE w' (fun k=>w.heap.size<=k) A' n' c' z.natAbs)/\Below w.heap.size w w':=by
 have Q:=Gn fun(W:World) (q:W.cell? ⟨w.heap.size,0,none⟩=some (.bool g)/\W.cell? ⟨w.heap.size,1,none⟩=some (.slice A n c)/\aS w g A n c 1 W)=>xq g A n c z W (h.below q.2.2.fM).wide
 have U:=Gn fun(W:World) (q:W.cell? ⟨w.heap.size,0,none⟩=some (.bool g)/\W.cell? ⟨w.heap.size,1,none⟩=some (.slice A n c)/\aS w g A n c 1 W)=>xN (h.below q.2.2.fM).1 hn
 have HS:=Gn (aS.one w g A n c).drew.s
 have hs:¬Z.qK z<0:=fun e=>hz (lI.1 e)
 obtain⟨N,hN⟩:∃ N,z.natAbs=N:=⟨_,rfl⟩
 obtain⟨s,hS⟩:∃ s,Z.qK z=s:=⟨_,rfl⟩
 rw[hN] at U ⊢
 rw[hS] at Q hs
 have HD:Hid (0<=s):=Int.not_lt.1 hs
 have L:Hid (∀ W,(W.cell? ⟨w.heap.size,0,none⟩=some (.bool g)/\W.cell? ⟨w.heap.size,1,none⟩=some (.slice A n c)/\aS w g A n c 1 W)->w.heap.size+2<=W.heap.size):=fun W q=>by
  obtain⟨_,_,_,_,r⟩:=q.2.2.room 0 (by omega)
  have:=r.lt
  omega
 clear h hz hN hS hs
 go_enter Tryz.func197,Tryz.ntmps197
 go_wp2_with fail
 go_region_held3 (fun w'=>w'.cell? ⟨w.heap.size,0,none⟩=some (.bool g)/\w'.cell? ⟨w.heap.size,1,none⟩=some (.slice A n c)/\aS w g A n c 1 w')
  (first|exact aS.keep (by assumption) (by assumption)|exact HS.out|exact aS.Ew (by assumption))
  (first|(go_at_call 106;refine(Q.out _ ?_).mono ?_;assumption;rintro e w1 ⟨rfl,b1⟩)|(go_at_call 147;have ad:=L.out _ (by assumption);refine(U.out _ ?_).mono ?_;assumption;rintro e w2 ⟨⟨I,a2,c2,rfl,m2,n2⟩,b2⟩)|(go_at_call 84;refine(AO _ _ _ _ _ (Int.not_lt.2 HD.out)).mono ?_;rintro e J ⟨rfl,V⟩;have X:=aS.keep V (by assumption);obtain⟨x3,y3,z3,q3,⟨f0,f1,f2,f3⟩⟩:=X.2.2.room 0 (by omega);have f4:=f3 0;have f5:=f3 1))
 have r3:Room J (w.heap.size+1):=X.2.2.room 0 (by omega)
 obtain⟨k0,k1,_⟩:=eB (x:=.bool false) (u:=.slice I a2 c2) r3
 unfold World.room at k0 k1
 have hT:ae (fun k=>k=w.heap.size+1) J ((J.setCell ⟨w.heap.size+1,0,none⟩ (.bool false)).setCell ⟨w.heap.size+1,1,none⟩ (.slice I a2 c2)):=((ae.refl (fun k=>k=w.heap.size+1) J).put (p:=⟨w.heap.size+1,0,none⟩) (.inl rfl) _).put (p:=⟨w.heap.size+1,1,none⟩) (.inl rfl) _
 have O:=n2.below V
 have HE:Hid (qE ((J.setCell ⟨w.heap.size+1,0,none⟩ (.bool false)).setCell ⟨w.heap.size+1,1,none⟩ (.slice I a2 c2)) (fun k=>w.heap.size<=k) I a2 c2 N/\Below w.heap.size w ((J.setCell ⟨w.heap.size+1,0,none⟩ (.bool false)).setCell ⟨w.heap.size+1,1,none⟩ (.slice I a2 c2))):=
  ⟨⟨O.mf.bR hT O.g (fun k hk e=>by omega),O.cap,O.g.mono (fun k hk=>by omega)⟩,((ae.af (F:=fun k=>w.heap.size<=k) X.2.2.fM).trans hT (fun k hk=> .inl (by omega))).below (Fm _) (fun _ h=>h)⟩
 clear Q U L hT O n2 V b2 r3
 go_wp2_with fail
 exact GD (v:=.agg #[.bool false,.slice I a2 c2]) (by simp[results,Tryz.results197,go_sem,k0,k1]) rfl ⟨⟨I,a2,c2,rfl,m2,HE.out.1⟩,HE.out.2⟩
end Go.Proofs.YtdbgiijdgedggaaGreatDoor
