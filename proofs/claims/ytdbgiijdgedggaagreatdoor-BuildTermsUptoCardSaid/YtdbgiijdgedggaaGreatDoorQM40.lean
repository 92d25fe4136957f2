import Derived.Test.YtdbgiijdgedggaaGreatDoorQM39
import Derived.Deep.RegionWith
set_option linter.unusedSimpArgs false
set_option linter.unusedVariables false
set_option maxRecDepth 100000
set_option maxHeartbeats 25600000
namespace Go.Proofs.YtdbgiijdgedggaaGreatDoor
open Go.RowKit
structure iF (w:World) (A:Option Addr) (n c:Nat) (L:List (iZ×Dc)) (x:Sx) (xA:Option Addr) (xc:Nat):Prop where
 dc:rX w (fun _=>True) A n c L
 n:n<=1048576
 DJ:∀ q∈L,zm 1048576 q.2
 tree:aJ w iM x xA xc
 size:x.size<=1048576
 wide:x.wide<=1048576
theorem iF.below {w w':World} {A:Option Addr} {n c:Nat} {L:List (iZ×Dc)} {x:Sx} {r:Option Addr} {I:Nat} (h:iF w A n c L x r I) (hb:Below w.heap.size w w'):iF w' A n c L x r I:=
 ⟨h.dc.turn (ae.af (F:=fun _=>False) hb) fun _ _ _=>⟨id,trivial⟩,h.n,h.DJ,h.tree.kept hb,h.size,h.wide⟩
theorem iF.few {w:World} {A:Option Addr} {n c:Nat} {L:List (iZ×Dc)} {x:Sx} {r:Option Addr} {I:Nat} (h:iF w A n c L x r I):
  Calls Tryz.prog 12 #[.slice A n c,aX x r I] w fun e w'=>tG (L.map (·.2)) x e/\Below w.heap.size w w':=
 CO w A n c L x r I h.dc h.tree (by have:=h.n;omega) (by have:=h.size;omega) fun q J=>by have:=(h.DJ q J).size;omega
theorem iF.begin {w W:World} {A:Option Addr} {n c:Nat} {L:List (iZ×Dc)} {x:Sx} {Q:Option Addr} {U:Nat} (h:iF w A n c L x Q U) (hf:Bd.uJ (L.map (·.2)) x) (hT:dD w) (J:iJ w) (hb:Below w.heap.size w W):
  Mk.eI w (W.alloc (.cells Z9 37)) W.heap.size (fun k=>k=W.heap.size) [] A n c L:=by
 have r:Below w.heap.size w (W.alloc (.cells Z9 37)):=hb.alloc hb.size _
 refine⟨r,hT,J,BA W,fun k I=>by rw[I];exact hb.size,h.dc.turn (ae.af (F:=fun _=>False) r) fun k I _=>⟨id,fun e=>by have:=hb.size;omega⟩,?_,(hf.ok fun d hd=>?_).1⟩
 ·have:=hf.n
  rw[Fi,h.dc.len] at this
  omega
 ·obtain⟨q,O,rfl⟩:=Hh.1 hd
  exact h.DJ q O
theorem iF.term {w W:World} {b:Nat} {F:Nat->Prop} {N:List Nd} {A:Option Addr} {n c:Nat} {L:List (iZ×Dc)} {x:Sx} {J:Option Addr} {O:Nat} (h:iF w A n c L x J O) (hf:Bd.uJ (L.map (·.2)) x) (Q:Gl w) (I:Mk.eI w W b F N A n c L) (U:Tm.Inv N) (V:N.length<=20000):
  Calls Tryz.prog 13 #[.pointer (some ⟨b,0,none⟩),.slice A n c,aX x J O] W fun e w'=>cr W b F (Bd.tm (L.map (·.2)) n [] N x) e w':=by
 refine BZ w W b F N A n c L x J O I Q U V ⟨h.tree.le,h.tree.tree.imp I.base.size (fun b off r _ j _=>I.base.cell (p:=⟨b,off+j,none⟩) r) fun b off r _ e=>by have:=I.low b e;omega⟩ (Sx.bH.of _ x (Fm _) (by have:=hf.size;omega) h.wide) ?_
 have hn:n=(L.map (·.2)).length:=by rw[Fi,h.dc.len]
 have:=(hf.ok fun d hd=>by
  obtain⟨q,X,rfl⟩:=Hh.1 hd
  exact h.DJ q X).2 n (by omega)
 have:=hf.size
 omega
theorem zm.mono {B C:Nat} {d:Dc} (h:zm B d) (r:B<=C):zm C d:=⟨Fo h.name r,fun p hp=>Fo (h.par p hp) r,Fo h.size r,Fo h.wide r⟩
theorem iF.opened {W:World} {A:Option Addr} {n c:Nat} {L:List (iZ×Dc)} {x:Sx} {I:Option Addr} {J:Nat} {B C:Nat} (h:rX W (fun _=>True) A n c L/\n<=c/\c<=maxLen/\n<=B/\∀ q∈L,zm B q.2) (r:aJ W iM x I J/\x.size<=C/\x.wide<=C) (Q:B+C<=1048576):iF W A n c L x I J:=
 ⟨h.1,by have:=h.2.2.2.1;omega,fun q O=>(h.2.2.2.2 q O).mono (by omega),r.1,by have:=r.2.1;omega,by have:=r.2.2;omega⟩
abbrev rU (W:World) (k:Nat) (x:Sx) (xA:Option Addr) (xc:Nat):Prop:=W.cell? ⟨k,0,none⟩=some (.bool x.list)/\W.cell? ⟨k,1,none⟩=some (.int .i64 x.k)/\W.cell? ⟨k,2,none⟩=some (.string x.T)/\W.cell? ⟨k,3,none⟩=some (.int .i64 x.ta)/\W.cell? ⟨k,4,none⟩=some (.int .i64 x.at_)/\W.cell? ⟨k,5,none⟩=some (.slice xA x.L.length xc)
theorem Co (w:World) (x:Sx) (r:Option Addr) (I:Nat) {W:World} (h:Below (w.alloc (dr x r I)).heap.size (w.alloc (dr x r I)) W):rU W w.heap.size x r I:=by
 obtain⟨_,b0,J,L,O,Q,U⟩:=(eN w x r I).below h
 exact⟨b0,J,L,O,Q,U⟩
theorem pT {l:List UInt8} {k:Nat} (h:T.gq l) (L:l.length<=k):T.dv l<M.BB^k:=by
 have r:=T.xh h
 have I:10^l.length<=10^k:=Gy (by omega) L
 have J:10^k<=M.BB^k:=Hl (by rw[M.bS];omega) _
 exact Fp r (Fo I J)
theorem lF (s:ByteArray) (w:World) (hs:s.size<=2000) (hp:0<s.size) (h0:¬(s[0]=48/\1<s.size)) (R:Ending->World->Prop)
  (Z:T.gq s.data.toList->∀ e w',rT w (T.dv s.data.toList) e w'->R e w') (a1:¬T.gq s.data.toList->∀ w',Below w.heap.size w w'->R (.returned (.tuple #[.slice none 0 0,.int .i64 8])) w'):
  Calls Tryz.prog 95 #[.string s] w R:=by
 have bz:s.toList=s.data.toList:=by rw[GA]
 have hlen:=wN s
 have hl:s.toList.isEmpty=false:=by
  rw[bz];cases h:s.data.toList with
  |nil=>rw[h] at hlen;simp at hlen;omega
  |cons _ _=>rfl
 obtain⟨S,HS⟩:∃ S,Hid (s.data.toList=S):=⟨_,rfl⟩
 have HG:Hid (∀ i (hi:i<s.size),S.getD i 0=s[i]):=fun i hi=>by rw[<-HS.out];exact pR hi
 have HL:Hid (S.length=s.size):=by rw[<-HS.out];exact hlen
 have U:=Gn Z
 have Q:=Gn a1
 rw[HS.out] at U Q
 clear Z a1 hlen bz
 rcases(show((s[0].toNat:Int) == 48)=false\/(((s[0].toNat:Int) == 48)=true/\s.size<=1) from by
  by_cases h:s[0]=48
  ·right
   refine⟨by rw[h];rfl,?_⟩
   rcases GX 1 s.size with L|L
   ·exact absurd ⟨h,L⟩ h0
   ·exact L
  ·left
   cases e:((s[0].toNat:Int) == 48) with
   |false=>rfl
   |true=>
    exfalso;apply h
    have L:(s[0].toNat:Int)=48:=by simpa using e
    have h2:(48:UInt8).toNat=48:=rfl
    exact UInt8.toNat_inj.1 (by omega)) with b1|⟨b1,b5⟩
 all_goals
  clear h0
  have b9:decide ((2000:Int)<(s.size:Int))=false:=by simp;omega
  go_enter Tryz.func95,Tryz.ntmps95
  go_wp2_with fail
  obtain⟨W0,HW⟩:∃ W0,Hid (w.alloc (.cells #[.bool false,.bool true,.bool false,.bool true] 4)=W0):=⟨_,rfl⟩
  have bo:Below w.heap.size w W0:=by rw[<-HW.out];exact(Gp _ _).alloc (Fm _) _
  have bx:jZ W0 (some ⟨w.heap.size,0,none⟩) 4 4 [false,true,false,true]:=by
   rw[<-HW.out]
   have h:=World.ownsRow_lit w #[.bool false,.bool true,.bool false,.bool true] 4 (base:=w.heap.size) (e:=4) (size:=1) (Fm _) (by unfold maxLen;omega) rfl
   obtain⟨A',c',e,h⟩:=dq.vV (l:=[false,true,false,true]) h
   injection e with e1 _ e2
   subst e1 e2
   exact h
  rw[HW.out]
  go_loopw [5,6] (fun lv iv wr=>∃ (i:Nat),i<=s.size/\iv=.int .i64 i/\AD wr lv (T.dv (S.take i))/\T.gq (S.take i)/\Below W0.heap.size W0 wr) (fun _ iv _=>s.size-(intOf iv).toNat)
  case atStart=>exact⟨0,by omega,rfl,⟨none,0,0,[],rfl,⟨rfl,by omega,by omega,.inl ⟨rfl,rfl,rfl⟩⟩,Bt.At,rfl⟩,by simp[T.gq],Gp _ _⟩
  case round=>
   obtain⟨i,hi,rfl,ba,X,J⟩:=hrel
   have r:Below w.heap.size w wr:=bo.trans (J.mono bo.size)
   have ao:=Gn X
   obtain⟨K0,b7,a7⟩:∃ K0,K0<=2000/\T.dv (S.take i)<M.BB^K0:=⟨(S.take i).length,by rw[FK];have:=HL.out;omega,pT X (Fm _)⟩
   obtain⟨A1,n1,c1,l1,rfl,t1,_,e1,q1⟩:=ba.vV a7
   have E1:=Gn e1
   clear X a7 e1 ba
   by_cases ah:i<s.size
   ·have ad:Hid (S.take (i+1)=S.take i++[s[i]]):=(show S.take (i+1)=S.take i++[s[i]] from by
     have L:i<S.length:=by rw[HL.out];exact ah
     rw[Fh L,<-HG.out i ah]
     simp[G3,L])
    by_cases I:48<=s[i].toNat/\s[i].toNat<=57
    ·obtain⟨d,Hd⟩:∃ d,Hid (s[i].toNat-48=d):=⟨s[i].toNat-48,rfl⟩
     have cc:(s[i].toNat:Int)-48=(d:Int):=by have:=Hd.out;omega
     have cb:d<=9:=by have:=Hd.out;omega
     have cf:IntKind.u8.wrap (d:Int)=(d:Int):=IntWalk.u8_in _ (by omega)
     have b6:IntKind.u32.wrap (d:Int)=(d:Int):=IntWalk.u32_in _ (by omega)
     obtain⟨V,HV⟩:∃ V,Hid (T.dv (S.take i)=V):=⟨_,rfl⟩
     have O:Hid (T.gq (S.take (i+1))):=by
      rw[ad.out]
      intro c hc
      rcases F7.1 hc with h|h
      ·exact ao.out c h
      ·rw[F0] at h;subst h;exact I
     have bn:Hid (10*V+d=T.dv (S.take (i+1))):=(show 10*V+d=T.dv (S.take (i+1)) from by
      rw[ad.out,T.sQ,HV.out,Hd.out]
      omega)
     obtain⟨K1,b8,bb⟩:∃ K1,K1<=2001/\Hid (10*V<M.BB^K1):=by
      have L:=pT O.out (Fm _)
      rw[<-bn.out] at L
      refine⟨(S.take (i+1)).length,by rw[FK];have:=HL.out;omega,?_⟩
      exact Nat.lt_of_le_of_lt (Nat.le_add_right _ _) L
     have bL:Hid (d<M.BB^1):=(show d<M.BB^1 from by rw[Nat.pow_one,M.bS];omega)
     have HM:=Gn fun(W:World) (hW:Below wr.heap.size wr W)=>(by
      have h:=yN (some ⟨w.heap.size,0,none⟩) A1 4 n1 4 c1 _ l1 W ((bx.below J).below hW) (t1.below hW) (by omega) (by omega)
      rw[E1.out,HV.out] at h
      exact h:Calls Tryz.prog 142 #[.slice (some ⟨w.heap.size,0,none⟩) 4 4,.slice A1 n1 c1] W (fQ W (10*V)))
     have bl:=Gn fun(W:World)=>(qt ⟨[d],lT W d (by omega),by simp[M.val],by omega,by unfold maxLen;omega,by omega⟩:Calls Tryz.prog 119 #[.slice (some ⟨W.heap.size,0,none⟩) 1 1] (W.alloc (.cells #[.int .u32 (d:Int)] 206)) (fQ (W.alloc (.cells #[.int .u32 (d:Int)] 206)) d))
     have av:=Gn fun(W:World) (hW:Below (wr.alloc (.cells #[.int .u32 (d:Int)] 206)).heap.size (wr.alloc (.cells #[.int .u32 (d:Int)] 206)) W)=>(qt ⟨[d],(lT wr d (by omega)).below hW,by simp[M.val],by omega,by unfold maxLen;omega,by omega⟩:Calls Tryz.prog 119 #[.slice (some ⟨wr.heap.size,0,none⟩) 1 1] W (fQ W d))
     clear I
     go_wp2_with fail
     go_region_with (first|(go_at_call 142;go_loud (refine(HM.out _ (by first|exact Below.drew (Gp _ _)|exact Below.drew ((Gp _ _).alloc (Fm _) _))).mono ?_);rintro e w2 ⟨v2,rfl,n2,b2⟩;obtain⟨A2,m2,c2,l2,rfl,t2,_,e2,q2⟩:=n2.vV bb.out;have E2:=Gn e2;clear e2 n2)|(go_at_call 119;go_loud (first|((with_reducible refine(bl.out _).mono ?_))|(refine(av.out _ (by exact(Below.drew (Gp _ _)).trans b2)).mono ?_));rintro e w3 ⟨v3,rfl,n3,b3⟩;obtain⟨A3,m3,c3,l3,rfl,t3,_,e3,q3⟩:=n3.vV bL.out;have E3:=Gn e3;clear e3 n3)|(go_at_call 141;go_loud (refine(qi _ _ _ _ _ _ l2 l3 _ (by first|exact t2.below (mO b3)|exact t2.below b3) (by exact t3) (by omega) (by omega)).mono ?_);rintro e w4 ⟨v4,rfl,n4,b4⟩))
     all_goals
      rw[E2.out,E3.out,bn.out] at n4
      have bA:Below wr.heap.size wr w2:=by first|exact(Below.drew (Gp _ _)).trans b2|exact(Below.drew ((Gp _ _).alloc (Fm _) _)).trans (b2.mono (by simp))
      have bB:Below w2.heap.size w2 w3:=by first|exact mO b3|exact b3
      have bC:Below wr.heap.size wr w3:=bA.trans (bB.mono bA.size)
      have bD:Below wr.heap.size wr w4:=bC.trans (b4.mono bC.size)
      have bE:Below W0.heap.size W0 w4:=J.trans (bD.mono J.size)
      clear b2 b3 b4 bA bB bC bD HM bl av t1 t2 t3
      go_wp2_with fail
      go_roundw
      case rel=>exact⟨i+1,by omega,by go_num,n4,O.out,bE⟩
      case measure=>simp[intOf];omega
    ·have bp:Hid (¬T.gq S):=fun h=>I (by
      have L:=h (S.getD i 0) (by
       rw[G3,Ge (by rw[HL.out];exact ah)]
       exact Gf _)
      rw[HG.out i ah] at L
      exact L)
     by_cases b5:(s[i].toNat:Int)<48
     ·clear I
      go_wp2_with fail
      exact Q.out bp.out _ r
     ·have ca:57<(s[i].toNat:Int):=by omega
      clear I
      go_wp2_with fail
      exact Q.out bp.out _ r
   ·have hE:Hid (S.take i=S):=Gr (by rw[HL.out];omega)
    obtain⟨V,HV⟩:∃ V,Hid (T.dv S=V):=⟨_,rfl⟩
    have bT:=Gn (mU A1 c1 n1 l1 wr)
    have bP:Hid (Calls Tryz.prog 118 #[.slice A1 n1 c1] wr (tQ wr V)):=by
     have h:=mU A1 n1 c1 l1 wr t1 (by omega)
     rw[E1.out,hE.out,HV.out] at h
     exact h
    clear bT
    go_wp2_with fail
    refine bP.out.mono ?_
    rintro e w2 ⟨v2,rfl,n2,b2⟩
    go_wp2_with fail
    exact U.out (by have:=ao.out;rw[hE.out] at this;exact this) _ _ ⟨v2,rfl,by rw[HV.out];exact n2,r.trans (b2.mono r.size)⟩
theorem pL (s:ByteArray) (w:World) (h:j8 s.data.toList=true):Calls Tryz.prog 95 #[.string s] w (rT w (T.dv s.data.toList)):=by
 obtain⟨I,O,r,J⟩:=gV.1 h
 have hlen:=wN s
 have hp:0<s.size:=by
  rcases Hn s.size with e|e
  ·rw[e] at hlen;exact absurd (FV hlen) I
  ·exact e
 refine lF s w (by omega) hp ?_ _ (fun _ e w' L=>L) (fun hn=>absurd J hn)
 rintro⟨a,b⟩
 rcases r with r|r
 ·rw[r] at hlen;simp at hlen;omega
 ·rw[pR hp] at r;exact r a
theorem rf (s:ByteArray) (w:World) (hs:s.size<=maxLen) (h:j8 s.data.toList=false):
  Calls Tryz.prog 95 #[.string s] w fun e w'=>e=.returned (.tuple #[.slice none 0 0,.int .i64 8])/\Below w.heap.size w w':=by
 unfold maxLen at hs
 have hlen:=wN s
 have r:s.toList=s.data.toList:=by rw[GA]
 by_cases O:s.size=0
 ·have I:s.data.toList=[]:=FV (by omega)
  have hl:s.toList=[]:=by rw[r,I]
  clear I r O hlen h
  go_enter Tryz.func95,Tryz.ntmps95
  go_wp2
  go_ret2
  exact⟨rfl,Gp _ _⟩
 have hl:s.toList.isEmpty=false:=by
  rw[r];cases h:s.data.toList with
  |nil=>rw[h] at hlen;simp at hlen;omega
  |cons _ _=>rfl
 by_cases U:2000<s.size
 ·clear r hlen h
  go_enter Tryz.func95,Tryz.ntmps95
  go_wp2
  go_ret2
  exact⟨rfl,Gp _ _⟩
 have hp:0<s.size:=by omega
 by_cases J:s[0]=48/\1<s.size
 ·have hc:((s[0].toNat:Int) == 48)=true:=by rw[J.1];rfl
  have V:=J.2
  clear r hlen h J
  go_enter Tryz.func95,Tryz.ntmps95
  go_wp2
  go_ret2
  exact⟨rfl,Gp _ _⟩
 ·refine lF s w (by omega) hp J _ (fun ha=>?_) (fun _ w' hb=>⟨rfl,hb⟩)
  exfalso
  have:j8 s.data.toList=true:=by
   refine gV.2 ⟨by intro e;rw[e] at hlen;simp at hlen;omega,by omega,?_,ha⟩
   by_cases a:s[0]=48
   ·left
    have X:s.size=1:=by
     rcases GX 1 s.size with L|L
     ·exact absurd ⟨a,L⟩ J
     ·omega
    have Q:s.data.toList.length=1:=by omega
    match hm:s.data.toList,Q with
    |[x],_=>
     have:=pR hp
     rw[hm,a] at this
     simp at this
     rw[this]
   ·right
    rw[pR hp];exact a
  rw[h] at this
  cases this
end Go.Proofs.YtdbgiijdgedggaaGreatDoor
