import Derived.Test.YtdbgiijdgedggaaGreatDoorQM38
import Derived.Test.YtdbgiijdgedggaaGreatDoorQM40
set_option linter.unusedSimpArgs false
set_option linter.unusedVariables false
set_option maxRecDepth 100000
set_option maxHeartbeats 25600000
namespace Go.Proofs.YtdbgiijdgedggaaGreatDoor
open Go.RowKit
def Rf.BP (E:Rf.Env) (i S k:Nat) (x:Sx):Prop:=
 ∀ (w:World) (Y:Rf.Lay) (s:Rf.St) (rest:Nat) (h:Option Addr) (I:Nat),s.k=k->Rf.aF E w Y s->Rf.Ok E.D E.n i S s (Bd.makes E.D i k x) rest->aJ w (fun b _=>¬Rf.ag E Y b) x h I->Sx.bH x->s.sc.length+x.size<=100000->x.list=true->
  ∀ W r,Below w.heap.size w W->x.L.tail=r->Calls Tryz.prog 135 #[.pointer (some ⟨E.mb,0,none⟩),.slice (if I=1 then h else h.map (·.add 6)) r.length (I-1)] W fun e w'=>Rf.aY E i S w Y s (Bd.dP (Bd.tm E.D k) s.sc s.N r) rest e w'
theorem zB (E:Rf.Env) (i S:Nat) (hE:Rf.Dj E i S) (k:Nat) (x:Sx) (bl:∀ y,y.size<x.size->Rf.Term E i S k y) (hF:Rf.EJ E i S k) (V:Rf.BP E i S k x):Rf.Term E i S k x:=by
 intro w Y s rest xA xc hk h hO ht av ba
 subst hk
 obtain⟨W0,ao⟩:∃ W0,w.alloc (dr x xA xc)=W0:=⟨_,rfl⟩
 have J:Below w.heap.size w W0:=by rw[<-ao];exact(Gp _ w).alloc (Fm _) _
 obtain⟨R,I⟩:∃ R,Bd.tm E.D s.k s.sc s.N x=R:=⟨_,rfl⟩
 rw[I]
 rw[Bd.iB] at I
 unfold Bd.step at I
 have HR:=Gn h
 have O:Hid (∀ W,Below W0.heap.size W0 W->rU W w.heap.size x xA xc):=fun W hW=>Co w x xA xc (by rw[ao];exact hW)
 obtain⟨c0,c1,c2,c3,c4,c5⟩:=O.out W0 (Gp _ _)
 have a7:=Gn J
 obtain⟨xn,a1⟩:∃ xn,x.L.length=xn:=⟨_,rfl⟩
 have ad:aX x xA xc=.agg #[.bool x.list,.int .i64 x.k,.string x.T,.int .i64 x.ta,.int .i64 x.at_,.slice xA xn xc]:=by unfold aX;rw[a1]
 have bz:w.alloc (.cells #[.bool x.list,.int .i64 x.k,.string x.T,.int .i64 x.ta,.int .i64 x.at_,.slice xA xn xc] 27)=W0:=by rw[<-ao,<-a1]
 rw[a1] at c5
 by_cases hl:x.list=true
 ·rw[Fx hl] at I
  have hL:=(AM E i S hE W0 Y s rest x xA xc hl bl hF (h.below J) hO (ht.kept J) av ba fun W r hW hr=>V W0 Y s rest xA xc rfl (h.below J) hO (ht.kept J) av ba hl W r hW hr).mono fun e w' q=>q.up J
  rw[I,ad] at hL
  have HL:=Gn hL
  rw[ad]
  rw[hl] at HL c0 bz ⊢
  clear hL I bl hF V h hO ht av ba hE HR O J ao ad a1 hl
  go_enter Tryz.func46,Tryz.ntmps46
  go_wp2_with fail
  refine HL.out.mono ?_
  rintro e Q ⟨rfl,v⟩
  have HV:Hid (Rf.aY E i S w Y s R rest (.returned (.tuple #[.int .i64 R.2.1,.int .i64 R.2.2])) Q):=⟨rfl,v⟩
  clear HL v
  go_wp2
  exact GD (by simp[results,Tryz.results46,go_sem]) rfl HV.out
 ·rw[FQ hl] at I
  have hl:x.list=false:=by simpa using hl
  rw[hl] at c0 bz ad
  unfold Bd.kf at I
  have bn:Rf.Ok E.D E.n i S s 0 rest:=hO.less (Fz _)
  have HO:=Gn bn
  have cc:=av.T
  have b4:s.N.length<=30000:=Fo hO.len (by decide)
  have ch:s.sc.length<=100000:=by omega
  obtain⟨xT,ah⟩:∃ xT,x.T=xT:=⟨_,rfl⟩
  obtain⟨xk,bb⟩:∃ xk,x.k=xk:=⟨_,rfl⟩
  obtain⟨cb,Z⟩:∃ cb,x.ta=cb:=⟨_,rfl⟩
  obtain⟨xa,bp⟩:∃ xa,x.at_=xa:=⟨_,rfl⟩
  rw[ad]
  rw[ah,bb] at I
  rw[ah] at cc
  rw[ah,bb,Z,bp] at bz ⊢
  rw[bb] at c1
  rw[ah] at c2
  rw[Z] at c3
  rw[bp] at c4
  have HC:Hid (∀ W,Below W0.heap.size W0 W->W.cell? ⟨w.heap.size,2,none⟩=some (.string xT)/\W.cell? ⟨E.mb,0,none⟩=some (.slice Y.bA s.N.length Y.bc)):=fun W hW=>⟨by have:=(O.out W hW).2.2.1;rw[ah] at this;exact this,(HR.out.below (a7.out.trans (hW.mono a7.out.size))).at_.1⟩
  have HK:Hid (∀ W e Q,Below w.heap.size w W->Tm.Inv R.1->s.N<+:R.1->R.1.length<=20000->cO W (Rf.free E Y) R e Q->∃ (A:Option Addr) (c:Nat),e=.returned (.tuple #[.slice A R.1.length c,.int .i64 R.2.1,.int .i64 R.2.2])/\aa Q E.mb 102 (Rf.cells E Y s)/\Rf.aY E i S w Y s R rest (.returned (.tuple #[.int .i64 R.2.1,.int .i64 R.2.2])) (Q.setCell ⟨E.mb,0,none⟩ (.slice A R.1.length c))):=fun W e Q hW hI hp hle hn=>by
   obtain⟨A,c,q1,q2,q3⟩:=Rf.dC (i:=i) (S:=S) (rest:=rest) (HR.out.below hW) HO.out hI hp hle hn
   exact⟨A,c,q1,q2,q3.up hW⟩
  have U:Hid (R=(s.N,0,101)->∀ W,Below w.heap.size w W->Rf.aY E i S w Y s R rest (.returned (.tuple #[.int .i64 0,.int .i64 101])) W):=fun e W hW=>by rw[e];exact Rf.aY.same HR.out hW fun e=>absurd e (by decide)
  have hinv:=hO.inv
  have hlen:=hO.len
  by_cases h4:xk=4
  ·subst h4
   rw[Fx rfl] at I
   by_cases hd:j8 xT.data.toList=true
   ·rw[Fx hd] at I
    have bo:=Bd.St.num (T.dv xT.data.toList) hinv
    have HP:=Gn (pL xT W0 hd)
    have bL:Hid (∀ W v,Below w.heap.size w W->Num W v (T.dv xT.data.toList)->∃ A n c,v=.slice A n c/\Calls Tryz.prog 96 #[.slice Y.bA s.N.length Y.bc,.agg #[.bool false,.slice A n c]] W fun e Q=>∃ (A:Option Addr) (c:Nat),e=.returned (.tuple #[.slice A R.1.length c,.int .i64 R.2.1,.int .i64 R.2.2])/\aa Q E.mb 102 (Rf.cells E Y s)/\Rf.aY E i S w Y s R rest (.returned (.tuple #[.int .i64 R.2.1,.int .i64 R.2.2])) (Q.setCell ⟨E.mb,0,none⟩ (.slice A R.1.length c))):=fun W v hW hv=>by
     obtain⟨A,n,c,rfl,hi,hn⟩:=hv.few (kV hd)
     refine⟨A,n,c,rfl,((CF W Y.bA s.N.length Y.bc s.N false A n c _ (HR.out.below hW).aO hi 900 (Fm _) b4 hn).mono fun e Q q=>?_)⟩
     rw[I] at q
     exact HK.out W e Q hW (by rw[<-I];exact bo.1) (by rw[<-I];exact bo.2.1) (by rw[<-I];exact Tm.rr hlen _) q
    obtain⟨N,hN⟩:∃ N,T.dv xT.data.toList=N:=⟨_,rfl⟩
    rw[hN] at HP bL
    clear I bo bl hF V h hO ht av ba hE J ao ad a1 hl bn HO ah bb Z bp HK U hinv hlen hd hN O
    go_enter Tryz.func46,Tryz.ntmps46
    go_wp2_with fail
    refine HP.out.mono ?_
    rintro e Q ⟨v,rfl,hv,b1⟩
    obtain⟨A,n,c,rfl,hc⟩:=bL.out Q v (a7.out.trans (b1.mono a7.out.size)) hv
    have HN:=Gn hc
    obtain⟨d2,m0⟩:=HC.out Q b1
    clear HP bL HC hv b1 hc c0 c1 c2 c3 c4 c5
    go_wp2_with fail
    refine HN.out.mono ?_
    rintro e w2 ⟨A,c,rfl,hl,hv⟩
    have bx:=Gn (kB w2 E.mb _ _ _ _ hl A R.1.length c R.2.1 R.2.2)
    have HV:=Gn hv
    clear HN hl hv d2 m0
    go_wp2_with fail
    refine bx.out.mono ?_
    rintro e w3 ⟨rfl,rfl⟩
    clear bx
    go_wp2
    exact GD (by simp[results,Tryz.results46,go_sem]) rfl HV.out
   ·rw[FQ hd] at I
    have HP:=Gn (rf xT W0 (by unfold maxLen;omega) (by simpa using hd))
    have HB:=Gn (U.out I.symm)
    clear I bl hF V h hO ht av ba hE J ao ad a1 hl bn HO ah bb Z bp HK U hinv hlen hd O HC HR
    go_enter Tryz.func46,Tryz.ntmps46
    go_wp2_with fail
    refine HP.out.mono ?_
    rintro e Q ⟨rfl,b1⟩
    have HV:=Gn (HB.out Q (a7.out.trans (b1.mono a7.out.size)))
    clear HP HB b1 c0 c1 c2 c3 c4 c5
    go_wp2
    exact GD (by simp[results,Tryz.results46,go_sem]) rfl HV.out
  rw[FQ h4] at I
  have e4:(xk == 4)=false:=Gx.2 h4
  by_cases h6:xk=6
  ·subst h6
   rw[Fx rfl] at I
   have bo:=Bd.St.str (Lt.aA (Lt.ir xT.data.toList)).2 hinv
   have bP:=Gn (yd xT W0 (by omega))
   obtain⟨b6,b7⟩:=Lt.jI _ xT.data.toList (Fm _)
   rw[Lt.ar] at b6
   obtain⟨m1,m2⟩:=Lt.tS _ b7 (by omega)
   have bB:Hid (∀ W A c,dV W W0.heap.size A c (Lt.ir xT.data.toList)->Calls Tryz.prog 98 #[.slice A (Lt.ir xT.data.toList).length c] W fun e w'=>aU W (Lt.aA (Lt.ir xT.data.toList)) e w'):=fun W A c ho=>
    AQ W A _ c _ (ho.uE rfl) (by omega)
   have bC:Hid (∀ W1 W A c,Below W0.heap.size W0 W1->Below W1.heap.size W1 W->bj W W1.heap.size A c (Lt.aA (Lt.ir xT.data.toList)).2->Calls Tryz.prog 100 #[.slice Y.bA s.N.length Y.bc,.slice A (Lt.aA (Lt.ir xT.data.toList)).2.length c] W fun e Q=>∃ (A:Option Addr) (c:Nat),e=.returned (.tuple #[.slice A R.1.length c,.int .i64 R.2.1,.int .i64 R.2.2])/\aa Q E.mb 102 (Rf.cells E Y s)/\Rf.aY E i S w Y s R rest (.returned (.tuple #[.int .i64 R.2.1,.int .i64 R.2.2])) (Q.setCell ⟨E.mb,0,none⟩ (.slice A R.1.length c))):=fun W1 W A c cf hW ho=>by
    have bD:=a7.out.trans (cf.mono a7.out.size)
    have b5:=bD.trans (hW.mono bD.size)
    have hg:Gs (Rf.free E Y) A (Lt.aA (Lt.ir xT.data.toList)).2.length:=(ho.gs rfl).mono fun k hk=>⟨fun e=>by have:=HR.out.lt k e;have:=bD.size;omega,fun e=>by have:=HR.out.vY k e;have:=bD.size;omega⟩
    refine(Dy W Y.bA s.N.length Y.bc s.N A _ c _ (HR.out.below b5).aO (ho.runs rfl) hg b4 (by omega)).mono fun e Q q=>?_
    rw[I] at q
    exact HK.out W e Q b5 (by rw[<-I];exact bo.1) (by rw[<-I];exact bo.2.1) (by rw[<-I];exact Tm.sF hlen _) q
   generalize Lt.ir xT.data.toList=L at bP bB bC
   generalize Lt.aA L=X at bB bC
   clear I bo bl hF V h hO ht av ba hE J ao ad a1 hl bn HO ah bb Z bp HK U hinv hlen O b6 b7 m1 m2 HR h4
   go_enter Tryz.func46,Tryz.ntmps46
   go_wp2_with fail
   refine bP.out.mono ?_
   rintro e Q ⟨⟨A,c,rfl,ho⟩,b1⟩
   have bT:=Gn (bB.out Q A c ho)
   have B1:=Gn b1
   obtain⟨ln,b8⟩:∃ ln,L.length=ln:=⟨_,rfl⟩
   rw[b8] at bT ⊢
   clear bP bB ho b1 c0 c1 c2 c3 c4 c5 b8
   go_wp2_with fail
   refine bT.out.mono ?_
   rintro e w2 ⟨⟨A2,c2,rfl,ho⟩,b2⟩
   have HN:=Gn (bC.out Q w2 A2 c2 B1.out b2 ho)
   obtain⟨_,m0⟩:=HC.out w2 (B1.out.trans (b2.mono B1.out.size))
   obtain⟨ca,bE⟩:∃ ca,X.2.length=ca:=⟨_,rfl⟩
   obtain⟨x1,b9⟩:∃ x1,X.1=x1:=⟨_,rfl⟩
   rw[bE] at HN ⊢
   rw[b9]
   clear bT bC HC ho b2 B1 bE b9
   go_wp2_with fail
   refine HN.out.mono ?_
   rintro e w3 ⟨A,c,rfl,hl,hv⟩
   have bx:=Gn (kB w3 E.mb _ _ _ _ hl A R.1.length c R.2.1 R.2.2)
   have HV:=Gn hv
   clear HN hl hv m0
   go_wp2_with fail
   refine bx.out.mono ?_
   rintro e w4 ⟨rfl,rfl⟩
   clear bx
   go_wp2
   exact GD (by simp[results,Tryz.results46,go_sem]) rfl HV.out
  rw[FQ h6] at I
  have e6:(xk == 6)=false:=Gx.2 h6
  by_cases h3:xk=3
  ·subst h3
   rw[Fx rfl] at I
   have b3:=(zQ E i S hE W0 Y s rest xT hF (h.below J) bn ch).mono fun e w' q=>q.up J
   rw[I] at b3
   have HN:=Gn b3
   clear b3 I bl hF V h hO ht av ba hE J ao ad a1 hl bn HO ah bb Z bp HK U hinv hlen O HC HR h4 h6
   go_enter Tryz.func46,Tryz.ntmps46
   go_wp2_with fail
   refine HN.out.mono ?_
   rintro e Q ⟨rfl,v⟩
   have HV:Hid (Rf.aY E i S w Y s R rest (.returned (.tuple #[.int .i64 R.2.1,.int .i64 R.2.2])) Q):=⟨rfl,v⟩
   clear HN v
   go_wp2
   exact GD (by simp[results,Tryz.results46,go_sem]) rfl HV.out
  ·rw[FQ h3] at I
   have e3:(xk == 3)=false:=Gx.2 h3
   have HV:=Gn (U.out I.symm W0 J)
   clear I bl hF V h hO ht av ba hE J ao ad a1 hl bn HO ah bb Z bp HK U hinv hlen O HC HR h4 h6 h3
   go_enter Tryz.func46,Tryz.ntmps46
   go_wp2
   exact GD (by simp[results,Tryz.results46,go_sem]) rfl HV.out
theorem tL (L:Sc):∀ u∈L.flatMap qV,u.oneCell'=true:=by
 intro u hu
 obtain⟨q,_,hu⟩:=GJ.1 hu
 simp at hu
 rcases hu with rfl|rfl <;> rfl
theorem eQ.cells {w:World} {G:Nat->Prop} {J:Addr} {n c:Nat} {L:Sc} (h:eQ w G (some J) n c L) (j:Nat) (u:Value) (hu:(L.flatMap qV)[j]?=some u):w.cell? (J.add j)=some u:=by
 obtain⟨q,O,r⟩:=tC (k:=2) (f:=qV) (fun _=>rfl) (by decide) hu
 have Q:=(Fg.1 O).1
 obtain⟨b,off,e,_,_,hc⟩:=h.par.at_ (by omega)
 obtain rfl:=Fk e
 rw[addr_add]
 obtain⟨U,V⟩:=hc _ q O
 have hm:j % 2=0\/j % 2=1:=by omega
 rcases hm with hm|hm
 ·rw[hm] at r
  have I:off+j=off+j/2*2:=by omega
  rw[I,U]
  simpa using r
 ·rw[hm] at r
  have I:off+j=off+j/2*2+1:=by omega
  rw[I,V]
  simpa using r
theorem DB (w:World) {G:Nat->Prop} {ops:Array Oper} {rest:List Oper} {o:Oper} {a:Act} {Q:Exit->Act->World->Prop} (r:o.guard=none) (x:Operand)
  (ho:o.op=.call { callee:=.builtin .append,args:=#[.const (.slice none 0 0),x],argTypes:=#[99,99] }) (A:Option Addr) (n c:Nat) (L:Sc)
  (hx:a.eval x=.slice A n c) (O:eQ w G A n c L) (hn:n<=1000000)
  (h:∀ A' J w',dU w' w.heap.size A' n J L->Below w.heap.size w w'->wpList Tryz.prog ops Q rest (a.put o.dst (.slice A' n J)) w'):
  wpList Tryz.prog ops Q (o::rest) a w:=by
 obtain⟨i0,hi,U,V,X⟩:=Gj gQ
 have hl:=O.len
 cases A with
 |none=>
  obtain⟨rfl,rfl⟩:=O.nil rfl
  obtain rfl:=FV hl
  exact Hv r _ x 99 ho w.heap.size 120 i0 2 Tryz.underlying99 hi (.slice none 0 0) 0 [] rfl (Gg _ _ _ _) hx (h none 0 w (dU.dI _ _) (Gp _ _))
 |some ad=>
  refine Fw w r _ x 99 ho w.heap.size 120 i0 (.agg #[.string ByteArray.empty,.int .i64 0]) 2 24 Tryz.underlying99 hi U V X rfl (by decide) (.slice none 0 0) 0 [] rfl (Gg _ _ _ _)
   ad n c (L.flatMap qV) hx (by rw[bX (k:=2) (fun _=>rfl),hl]) (fun j u hu=>O.cells j u hu) (tL L) (by unfold maxLen;omega) (by omega) (Fm _) fun v' w' Z I _ _=>?_
  simp only[FA,FY] at Z
  obtain⟨A',J,rfl⟩:=aI Z
  exact h A' J w' ⟨hl,Z⟩ ⟨I.os,I.tape,I.output,I.size,fun k hk=>I.block k hk (by simp[Value.ownBlock])⟩
theorem ye (w:World) {G:Nat->Prop} {ops:Array Oper} {rest:List Oper} {o:Oper} {a:Act} {Q:Exit->Act->World->Prop} (I:o.guard=none) (s x:Operand)
  (ho:o.op=.call { callee:=.builtin .append,args:=#[s,x],argTypes:=#[99,99] }) (B:Nat) (A0:Option Addr) (c0:Nat) (M:Sc) (m:Nat) (A:Option Addr) (n c:Nat) (L:Sc)
  (hs:a.eval s=.slice A0 m c0) (r:dU w B A0 m c0 M) (hx:a.eval x=.slice A n c) (O:eQ w G A n c L) (ah:m+n<=1000000) (hB:B<=w.heap.size)
  (h:∀ A' J w',dU w' B A' (m+n) J (M++L)->Below B w w'->wpList Tryz.prog ops Q rest (a.put o.dst (.slice A' (m+n) J)) w'):
  wpList Tryz.prog ops Q (o::rest) a w:=by
 obtain⟨i0,hi,U,V,X⟩:=Gj gQ
 have hl:=O.len
 cases A with
 |none=>
  obtain⟨rfl,rfl⟩:=O.nil rfl
  obtain rfl:=FV hl
  refine Hv I s x 99 ho B 120 i0 2 Tryz.underlying99 hi _ m (M.flatMap qV) hs r.2 hx ?_
  have:=h A0 c0 w (by rw[GH];exact r) (Gp _ _)
  rwa [Ho] at this
 |some ad=>
  refine Fw w I s x 99 ho B 120 i0 (.agg #[.string ByteArray.empty,.int .i64 0]) 2 24 Tryz.underlying99 hi U V X rfl (by decide) _ m (M.flatMap qV) hs r.2
   ad n c (L.flatMap qV) hx (by rw[bX (k:=2) (fun _=>rfl),hl]) (fun j u hu=>O.cells j u hu) (tL L) (by unfold maxLen;omega) (by omega) hB fun v' w' Z q2 _ _=>?_
  rw[<-IH] at Z
  obtain⟨A',J,rfl⟩:=aI Z
  exact h A' J w' ⟨by rw[Gb,r.1,hl],Z⟩ ((Gp B w).grown q2 hB fun k hk=>(Gh r.2 k hk).1)
theorem Bd.sy (W:ByteArray->Nat->Nat) {x:Sx} {q:ByteArray×Sx} (h:Bd.bI x=some q):Bd.cost W q.2<=Bd.cost W x:=by
 have hm:=Bd.np h
 have hl:=Bd.rK h
 have:=Bd.uK W hm
 rw[Bd.ie W hl]
 omega
theorem Bd.lJ (W:ByteArray->Nat->Nat):∀ {l:List Sx} {m:List (ByteArray×Sx)},Bd.binds l=some m->Bd.bQ W (m.map (·.2))<=Bd.bQ W l
 |[],m,h=>by cases h;exact Fm _
 |x::l,m,h=>by
  rw[Bd.binds] at h
  cases r:Bd.bI x with
  |none=>rw[r] at h;cases h
  |some b=>
   cases I:Bd.binds l with
   |none=>rw[r,I] at h;cases h
   |some m'=>
    rw[r,I] at h
    cases h
    have J:=Bd.sy W r
    have L:=Bd.lJ W I
    rw[GK,Bd.bQ,Bd.bQ]
    omega
end Go.Proofs.YtdbgiijdgedggaaGreatDoor
