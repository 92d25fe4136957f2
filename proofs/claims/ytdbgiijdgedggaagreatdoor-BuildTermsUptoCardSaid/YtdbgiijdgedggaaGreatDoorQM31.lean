import Derived.Test.YtdbgiijdgedggaaGreatDoorQM29
import Derived.Test.YtdbgiijdgedggaaGreatDoorQM30
set_option linter.unusedSimpArgs false
set_option linter.unusedVariables false
set_option maxRecDepth 100000
set_option maxHeartbeats 25600000
namespace Go.Proofs.YtdbgiijdgedggaaGreatDoor
open Go.RowKit
theorem yh (n k:Nat) (h:n<=9*k):10^n<=M.BB^k:=by
 refine Fo (Gy (by decide) h) ?_
 rw[Nat.pow_mul]
 exact Hl (by decide) k
theorem kV {l:List UInt8} (h:j8 l=true):T.dv l<M.BB^223:=by
 obtain⟨_,I,_,r⟩:=gV.1 h
 exact Fp (T.xh r) (yh _ 223 (by omega))
theorem Lt.tB:∀ (n:Nat) (l:List Int),l.length=n->(∀ z∈l,Lt.pt z=true)->∀ r∈Lt.runs l,(0<=r.1/\r.1<=196607)/\0<=r.2/\r.2<=(n:Int)
 |0,l,hl,_,r,h=>by
  rw[IJ.1 hl] at h
  cases h
 |n+1,l,hl,hp,r,h=>by
  obtain⟨c,z,rfl⟩:∃ c z,l=c++[z]:=⟨l.dropLast,l.getLast (fun e=>by rw[e] at hl;simp at hl),(IK _).symm⟩
  have hz:=FX (hp z (by simp))
  have J:=Lt.tB n c (by simpa using hl) (fun y hy=>hp y (by simp[hy]))
  rw[Lt.fh] at h
  unfold Lt.dy at h
  split at h
  ·rename_i x L
   have I:=J x (List.mem_of_getLast? L)
   split at h
   ·rcases F7.1 h with h|h
    ·have:=J r ((List.dropLast_sublist _).subset h)
     exact⟨this.1,this.2.1,by omega⟩
    ·rw[F0.1 h]
     exact⟨I.1,by show(0:Int)<=x.2+1;omega,by show x.2+1<=_;omega⟩
   ·rcases F7.1 h with h|h
    ·have:=J r h
     exact⟨this.1,this.2.1,by omega⟩
    ·rw[F0.1 h]
     exact⟨hz,by show(0:Int)<=1;omega,by show(1:Int)<=_;omega⟩
  ·rw[F0.1 h]
   exact⟨hz,by show(0:Int)<=1;omega,by show(1:Int)<=_;omega⟩
theorem Lt.tS (l:List Int) (hp:∀ z∈l,Lt.pt z=true) (hl:l.length<=10000000):(Lt.aA l).2.length<=65536/\∀ r∈(Lt.aA l).2,(Lit.int .i64 r.1).wf=true/\(Lit.int .i64 r.2).wf=true:=by
 unfold Lt.aA
 split
 ·split
  ·rename_i h
   exact⟨h,fun r I=>by
    obtain⟨⟨a,b⟩,c,d⟩:=Lt.tB _ l rfl hp r I
    exact⟨Ff (by omega),Ff (by omega)⟩⟩
  ·exact⟨Fz _,fun r I=>by cases I⟩
 ·exact⟨Fz _,fun r I=>by cases I⟩
theorem bj.gs {w:World} {B:Nat} {A:Option Addr} {c n:Nat} {l:List (Int×Int)} (h:bj w B A c l) (hn:l.length=n):Gs (fun k=>B<=k) A n:=fun a e _=>(h.lt hn (q:=a.block) (by rw[e];rfl)).1
theorem Num.few {w:World} {v:Value} {N:Nat} (h:Num w v N) (Q:N<M.BB^223):∃ A n c,v=.slice A n c/\o9 w false A n c (N:Int)/\n<=900:=by
 obtain⟨A,n,c,l,rfl,r,J,I,L,O⟩:=h
 have hn:n<=223:=M.ep J r.1 (by rw[I];exact Q)
 exact⟨A,n,c,rfl,⟨⟨l,r,by rw[I];simp,L,O,by omega⟩,by simp[Z.sg]⟩,by omega⟩
theorem zu (E:Mk.Env) (hE:E.Ok) (hG:Gl E.w0) (w:World) (M:Nat) (Y:Mk.Lay) (s:Ms) (bs:List Fr) (f:Fr) (k:Int) (t:ByteArray) (ta:Int) (h:Mk.aF E w M Y s) (hf:s.fr=bs++[f]) (hs:Mk.Small s) (ha:∀ x∈s.sc,x.ahead<=E.n) (ht:t.size<=1048576)
  (ad:∀ (j:Nat) d,E.D[j]?=some d->d.par.length<=1000/\∀ p∈d.par,p.1.size<=maxLen):
  Calls Tryz.prog 181 #[.pointer (some ⟨M,0,none⟩),.agg #[.int .i64 k,.string t,.int .i64 ta]] w fun x w'=>Mk.aY E w M Y (Mk.atom E.D s k t) x w':=by
 have hR:Mk.atom E.D s k t=if k=4 then(if j8 t.data.toList=true then Mk.aO s (Tm.num s.N (T.dv t.data.toList)) else(s,(101:Int)))
  else if k=6 then Mk.aO s (Tm.str s.N (Lt.aA (Lt.ir t.data.toList)).2)
  else if k=3 then Mk.name E.D s t else(s,101):=rfl
 have av:=hs.N
 obtain⟨I,bl⟩:∃ I,w.alloc (.cells #[.int .i64 k,.string t,.int .i64 ta] 24)=I:=⟨_,rfl⟩
 have J:Below w.heap.size w I:=by rw[<-bl];exact(Gp _ w).alloc (Fm _) _
 have U:aa I w.heap.size 24 #[.int .i64 k,.string t,.int .i64 ta]:=by rw[<-bl];exact aa.new w _ _
 have r:∀ {W:World},Below I.heap.size I W->Below w.heap.size w W:=fun hW=>J.trans (hW.mono J.size)
 have HS:Hid (∀ W,Below I.heap.size I W->Mk.Left E w M Y s W):=fun W hW=>Mk.Left.same h (r hW)
 have Q:Hid (∀ W,Below I.heap.size I W->M<W.heap.size/\W.cell? ⟨M,0,none⟩=some (.pointer (some ⟨E.bk,0,none⟩))):=fun W hW=>⟨(h.below (r hW)).own.lt,by rw[(h.below (r hW)).own.cell];rfl⟩
 have k0:=U.cell 0
 have k1:=U.cell 1
 have k2:=U.cell 2
 have kl:=U.lt
 simp at k0 k1 k2
 have O:=h.out
 by_cases h4:k=4
 ·subst h4
  rw[Fx rfl] at hR
  by_cases hd:j8 t.data.toList=true
  ·rw[Fx hd] at hR
   have HP:=Gn (rR t I (by unfold maxLen;omega) hd)
   have HK:Hid (∀ W v,Below I.heap.size I W->Num W v (T.dv t.data.toList)->∃ A n c,v=.slice A n c/\Calls Tryz.prog 242 #[.pointer (some ⟨E.bk,0,none⟩),.agg #[.bool false,.slice A n c]] W fun e w1=>∃ q1 q2:Int,e=.returned (.tuple #[.int .i64 q1,.int .i64 q2])/\Calls Tryz.prog 237 #[.pointer (some ⟨M,0,none⟩),.int .i64 q1,.int .i64 q2] w1 fun x w'=>Mk.aY E w M Y (Mk.atom E.D s 4 t) x w'):=fun W v hW hv=>by
    obtain⟨A,n,c,rfl,hi,hn⟩:=hv.few (kV hd)
    rw[hR]
    have Z:=h.below (r hW)
    exact⟨A,n,c,rfl,(Eg W E.bk Y.Fb s.N Z.aO false A n c _ hi hn (by omega) (Z.pow hE)).mono fun e w1 q=>⟨_,_,(Mk.dC Z q).1,(Mk.given (Mk.dC Z q).2 hf hs).mono fun x w' q=>q.up (r hW)⟩⟩
   generalize Mk.atom E.D s 4 t=R at HK ⊢
   obtain⟨bk,ao⟩:∃ bk,E.bk=bk:=⟨_,rfl⟩
   rw[ao] at HK Q
   obtain⟨N,hN⟩:∃ N,T.dv t.data.toList=N:=⟨_,rfl⟩
   rw[hN] at HP HK
   clear h hf hs ha ht ad av J U r HS O hd ao hN hR
   go_enter Tryz.func181,Tryz.ntmps181
   go_wp2_with fail
   refine HP.out.mono ?_
   rintro e w1 ⟨v,rfl,hv,b1⟩
   obtain⟨A,n,c,rfl,hc⟩:=HK.out w1 v b1 hv
   have HC:=Gn hc
   obtain⟨mM,m0⟩:=Q.out w1 b1
   clear HP HK Q hv b1 hc k0 k1 k2
   go_wp2_with fail
   refine HC.out.mono ?_
   rintro e w2 ⟨q1,q2,rfl,hg⟩
   have ah:=Gn hg
   clear HC hg m0
   go_wp2_with fail
   refine ah.out.mono ?_
   rintro e w3 ⟨rfl,v⟩
   have V:=Gn v
   clear ah v
   go_wp2
   go_ret
   exact⟨rfl,V.out⟩
  ·rw[FQ hd] at hR
   have HP:=Gn (vD t I (by unfold maxLen;omega) (by simpa using hd))
   have HV:=Gn (HS.out I (Gp _ _))
   rw[hR]
   clear h hf hs ha ht ad av J U r HS O hd hR Q
   go_enter Tryz.func181,Tryz.ntmps181
   go_wp2_with fail
   refine HP.out.mono ?_
   rintro e w1 ⟨rfl,rfl⟩
   clear HP
   go_wp2
   go_ret
   exact⟨rfl,HV.out⟩
 ·rw[FQ h4] at hR
  have bD:(k == 4)=false:=Gx.2 h4
  by_cases h6:k=6
  ·subst h6
   rw[Fx rfl] at hR
   have a7:=Gn (uB t I (by omega) (hG.below (h.below J).base))
   obtain⟨bo,bp⟩:=Lt.jI _ t.data.toList (Fm _)
   rw[Lt.ar] at bo
   obtain⟨m1,m2⟩:=Lt.tS _ bp (by omega)
   have a1:Hid (∀ W A c,dV W I.heap.size A c (Lt.ir t.data.toList)->Calls Tryz.prog 243 #[.slice A (Lt.ir t.data.toList).length c] W fun e w'=>aU W (Lt.aA (Lt.ir t.data.toList)) e w'):=fun W A c ho=>
    AL W A _ c _ (ho.uE rfl) (by omega)
   have HK:Hid (∀ W1 W A c,Below I.heap.size I W1->Below W1.heap.size W1 W->bj W W1.heap.size A c (Lt.aA (Lt.ir t.data.toList)).2->Calls Tryz.prog 245 #[.pointer (some ⟨E.bk,0,none⟩),.slice A (Lt.aA (Lt.ir t.data.toList)).2.length c] W fun e w1=>∃ q1 q2:Int,e=.returned (.tuple #[.int .i64 q1,.int .i64 q2])/\Calls Tryz.prog 237 #[.pointer (some ⟨M,0,none⟩),.int .i64 q1,.int .i64 q2] w1 fun x w'=>Mk.aY E w M Y (Mk.atom E.D s 6 t) x w'):=fun W1 W A c bb hW ho=>by
    have bn:=r (bb.trans (hW.mono bb.size))
    have Z:=h.below bn
    rw[hR]
    exact(Eh W E.bk Y.Fb s.N Z.aO A _ c _ (ho.runs rfl) m2 (ho.gs rfl) (fun k hk e=>O k (Fo (r bb).size hk) (.inr (.inl e))) m1 (by omega) (Z.pow hE)).mono fun e w1 q=>⟨_,_,(Mk.dC Z q).1,(Mk.given (Mk.dC Z q).2 hf hs).mono fun x w' q=>q.up bn⟩
   generalize Mk.atom E.D s 6 t=R at HK ⊢
   obtain⟨bk,ao⟩:∃ bk,E.bk=bk:=⟨_,rfl⟩
   rw[ao] at HK Q
   generalize Lt.ir t.data.toList=L at a7 a1 HK
   generalize Lt.aA L=X at a1 HK
   clear h hf hs ha ht ad av J U r HS O hR ao bo bp m1 m2 h4
   go_enter Tryz.func181,Tryz.ntmps181
   go_wp2_with fail
   refine a7.out.mono ?_
   rintro e w1 ⟨⟨A,c,rfl,ho⟩,b1⟩
   have ba:=Gn (a1.out w1 A c ho)
   have B1:=Gn b1
   obtain⟨ln,bx⟩:∃ ln,L.length=ln:=⟨_,rfl⟩
   rw[bx] at ba ⊢
   clear a7 a1 ho b1 k0 k1 k2 bx
   go_wp2_with fail
   refine ba.out.mono ?_
   rintro e w2 ⟨⟨A2,c2,rfl,ho⟩,b2⟩
   have HC:=Gn (HK.out w1 w2 A2 c2 B1.out b2 ho)
   obtain⟨mM,m0⟩:=Q.out w2 (B1.out.trans (b2.mono B1.out.size))
   obtain⟨xn,bB⟩:∃ xn,X.2.length=xn:=⟨_,rfl⟩
   obtain⟨x1,bz⟩:∃ x1,X.1=x1:=⟨_,rfl⟩
   rw[bB] at HC ⊢
   rw[bz]
   clear ba HK Q ho b2 B1 bB bz
   go_wp2_with fail
   refine HC.out.mono ?_
   rintro e w3 ⟨q1,q2,rfl,hg⟩
   have ah:=Gn hg
   clear HC hg m0
   go_wp2_with fail
   refine ah.out.mono ?_
   rintro e w4 ⟨rfl,v⟩
   have V:=Gn v
   clear ah v
   go_wp2
   go_ret
   exact⟨rfl,V.out⟩
  ·rw[FQ h6] at hR
   have bE:(k == 6)=false:=Gx.2 h6
   by_cases h3:k=3
   ·subst h3
    rw[Fx rfl] at hR
    have HN:=Gn ((Ed E hE I M Y s bs f t (h.below J) hf hs ha ht ad).mono fun x w' q=>q.up J)
    rw[hR]
    generalize Mk.name E.D s t=R at HN ⊢
    clear h hf hs ha ht ad av J U r HS O hR Q h4 h6
    go_enter Tryz.func181,Tryz.ntmps181
    go_wp2_with fail
    refine HN.out.mono ?_
    rintro e w1 ⟨rfl,v⟩
    have V:=Gn v
    clear HN v
    go_wp2
    go_ret
    exact⟨rfl,V.out⟩
   ·rw[FQ h3] at hR
    have bC:(k == 3)=false:=Gx.2 h3
    have HV:=Gn (HS.out I (Gp _ _))
    rw[hR]
    clear h hf hs ha ht ad av J U r HS O hR Q h4 h6 h3
    go_enter Tryz.func181,Tryz.ntmps181
    go_wp2
    go_ret
    exact⟨rfl,HV.out⟩
theorem DY (E:Mk.Env) (hE:E.Ok) (hG:Gl E.w0) (w:World) (M:Nat) (Y:Mk.Lay) (s:Ms) (bs:List Fr) (f:Fr) (x:Sx) (A:Option Addr) (c:Nat) (h:Mk.aF E w M Y s) (hf:s.fr=bs++[f]) (hs:Mk.Small s) (ha:∀ x∈s.sc,x.ahead<=E.n) (hx:aJ w (fun b _=>¬Mk.ag M Y b) x A c) (L:Sx.bH x)
  (X:∀ (j:Nat) d,E.D[j]?=some d->d.par.length<=1000/\∀ p∈d.par,p.1.size<=maxLen):
  Calls Tryz.prog 134 #[.pointer (some ⟨M,0,none⟩),aX x A c] w fun e w'=>Mk.aY E w M Y (Mk.part E.D s x) e w':=by
 obtain⟨xl,xk,xT,O,xa,U⟩:=x
 obtain⟨Z,J⟩:∃ Z,w.alloc (dr ⟨xl,xk,xT,O,xa,U⟩ A c)=Z:=⟨_,rfl⟩
 have I:Below w.heap.size w Z:=by rw[<-J];exact(Gp _ w).alloc (Fm _) _
 have r:aa Z w.heap.size 27 #[.bool xl,.int .i64 xk,.string xT,.int .i64 O,.int .i64 xa,.slice A U.length c]:=by rw[<-J];exact aa.new w _ _
 have k0:=r.cell 0
 have k1:=r.cell 1
 have k2:=r.cell 2
 have k3:=r.cell 3
 have k5:=r.cell 5
 have kl:=r.lt
 simp at k0 k1 k2 k3 k5
 unfold aX
 unfold dr at J
 simp only at J ⊢
 have hR:Mk.part E.D s ⟨xl,xk,xT,O,xa,U⟩=if xl=true then Mk.list E.D s U else Mk.atom E.D s xk xT:=rfl
 cases xl with
 |true=>
  rw[Fx rfl] at hR
  rw[hR]
  have Q:=Gn ((AJ E hE Z M Y s bs f A c U (h.below I) hf hs ha (hx.tree.kept I) hx.le L.len L.all).mono fun x w' q=>q.up I)
  obtain⟨n,hn⟩:∃ n,U.length=n:=⟨_,rfl⟩
  rw[hn] at Q k5 J ⊢
  generalize Mk.list E.D s U=R at Q ⊢
  clear h hf hs ha hx L X I r hR hn
  go_enter Tryz.func134,Tryz.ntmps134
  go_wp2_with fail
  refine Q.out.mono ?_
  rintro e w1 ⟨rfl,v⟩
  have V:=Gn v
  clear Q v
  go_wp2
  go_ret
  exact⟨rfl,V.out⟩
 |false=>
  rw[FQ (by decide)] at hR
  rw[hR]
  have Q:=Gn ((zu E hE hG Z M Y s bs f xk xT O (h.below I) hf hs ha L.T X).mono fun x w' q=>q.up I)
  obtain⟨n,hn⟩:∃ n,U.length=n:=⟨_,rfl⟩
  rw[hn] at k5 J ⊢
  generalize Mk.atom E.D s xk xT=R at Q ⊢
  clear h hf hs ha hx L X I r hR hn
  go_enter Tryz.func134,Tryz.ntmps134
  go_wp2_with fail
  refine Q.out.mono ?_
  rintro e w1 ⟨rfl,v⟩
  have V:=Gn v
  clear Q v
  go_wp2
  go_ret
  exact⟨rfl,V.out⟩
theorem xS {A:Option Addr} {n c k:Nat} (W:World) (hA:A.map (·.add 0)=A) (h:k<=c):(Instr.slice 169 (.slice A n c) none (some (.int .i64 (k:Nat))) none).run Tryz.prog W=.ok (.slice A k c) W:=by
 have hz:(sizeOf (Tryz.prog.elem 169)).run Tryz.prog W=.ok 3 W:=by kernel_rfl
 rw[run_slice_h W 169 A n c (by kernel_rfl) .i64 (k:Nat) (by omega) (by omega),hz]
 simp only[Result.andThen,sliced]
 have e:(if c=0 then A else A.map (·.add (0*3)))=A:=by
  split
  ·rfl
  ·rw[Hx];exact hA
 rw[e]
 simp
theorem kZ {w:World} {base:Nat} {e:TypeId} {size n c:Nat} {A:Option Addr} {xs:List Value} (h:w.ownsRow base e size (.slice A n c) n xs):A.map (·.add 0)=A/\n<=c:=by
 rcases h.2 with⟨e,L⟩|⟨g,cap,cur,e,_,_,J,_⟩
 ·injection e with r _ I
  subst r
  exact⟨rfl,by omega⟩
 ·injection e with r _ I
  subst r
  subst I
  exact⟨by simp[addr_add],J⟩
theorem r9 (E:Mk.Env) (hE:E.Ok) (hG:Gl E.w0) (w:World) (M:Nat) (Y:Mk.Lay) (s:Ms) (bs:List Fr) (f:Fr) (x:Sx) (h:Mk.aF E w M Y s) (hf:s.fr=bs++[f]) (hs:Mk.Small s) (ha:∀ x∈s.sc,x.ahead<=E.n) (b1:f.sc<=s.sc.length) (a1:f.parts[f.ids.length]?=some x) (bD:Sx.bH x) (cl:f.parts.length<=1000)
  (bT:∀ (j:Nat) d,E.D[j]?=some d->d.par.length<=1000/\∀ p∈d.par,p.1.size<=maxLen):
  Calls Tryz.prog 93 #[.pointer (some ⟨M,0,none⟩)] w fun e w'=>Mk.aY E w M Y (Mk.step E.D s) e w':=by
 rw[Mk.jJ hf a1]
 obtain⟨FB,P,I,bx,ca,bB,ah,ch,hc,cf⟩:=h.last hf
 have hlen:s.fr.length=bs.length+1:=by rw[hf];simp
 have hq:(P,f)∈Y.FL:=by rw[bx];simp
 have hP:=h.vX _ hq
 have ao:=(Fg.1 a1).1
 have c5:w.cell? ⟨M,5,none⟩=some (.slice (some ⟨I,0,none⟩) (bs.length+1) Y.fc):=by rw[h.own.cell,<-hlen,<-bB];rfl
 have bz:=h.own.lt
 have b7:=hP.th.form
 obtain⟨X,J⟩:∃ X,X=(w.alloc (.cells #[.slice P.pA f.parts.length P.pc,.slice P.iA f.ids.length P.ic,P.v,.int .i64 (f.sc:Int),.int .i64 (f.dp:Int)] 177)).drew:=⟨_,rfl⟩
 have Z:Below w.heap.size w X:=by
  have:=(Gp w.heap.size w).alloc (Fm _) (.cells #[.slice P.pA f.parts.length P.pc,.slice P.iA f.ids.length P.ic,P.v,.int .i64 (f.sc:Int),.int .i64 (f.dp:Int)] 177)
  rw[J]
  exact⟨this.os,this.tape,this.output,this.size,this.block⟩
 have ba:aa X w.heap.size 177 #[.slice P.pA f.parts.length P.pc,.slice P.iA f.ids.length P.ic,P.v,.int .i64 (f.sc:Int),.int .i64 (f.dp:Int)]:=by rw[J];exact aa.new w _ _
 have h1:=h.below Z
 have hcut:=(h1.drew).cut b1
 obtain⟨rA,rC⟩:=kZ h.fY
 obtain⟨W2,Q⟩:∃ W2,W2=X.drew.setCell ⟨M,4,none⟩ (.slice Y.sA f.sc Y.sc):=⟨_,rfl⟩
 rw[<-Q] at hcut
 have bb:aa W2 w.heap.size 177 #[.slice P.pA f.parts.length P.pc,.slice P.iA f.ids.length P.ic,P.v,.int .i64 (f.sc:Int),.int .i64 (f.dp:Int)]:=Mk.cp hcut (show aa X.drew _ _ _ from ba) (h.out _ (Fm _))
 obtain⟨b3,o3,x',A3,c3,bP,b8,O,bL,bl,b5⟩:=hP.tree.get ao
 obtain rfl:x'=x:=by rw[b8] at a1;exact Fk a1
 obtain⟨Y2,r2,t2,y2,a2⟩:=hcut.apart
 have U:Below w.heap.size w X.drew:=⟨Z.os,Z.tape,Z.output,Z.size,Z.block⟩
 have b6:au W2 (fun b _=>¬Mk.ag M Y2 b) A3 x'.L:=(b5.bR (F:=fun _=>False) (G':=fun k=>¬Mk.ag M Y k) (ae.af U) fun k _ hk=>⟨id,hk⟩).bR t2 a2
 have b2:Mk.Small { s with sc:=s.sc.take f.sc }:=⟨hs.fr,by show(s.sc.take f.sc).length<=_;rw[FK];have:=hs.sc;omega,hs.ids,hs.N⟩
 have r:=Gn ((DY E hE hG W2 M Y2 { s with sc:=s.sc.take f.sc } bs f x' A3 c3 r2 hf b2 (fun y hy=>ha y (GN hy)) ⟨bl,b6⟩ bD bT).mono fun e w' q=>show Mk.aY E w M Y _ e w' from⟨q.1,(q.2.after t2 y2).up U⟩)
 have ad:∀ (p:Addr) v,p.block=b3->w.cell? p=some v->W2.cell? p=some v:=fun p v hp hv=>by
  have h3:b3<w.heap.size:=O.lt
  rw[t2.cell (p:=p) (by rw[hp];exact Fp h3 U.size) (by rw[hp];exact bL),U.cell (p:=p) (by rw[hp];exact h3)]
  exact hv
 obtain⟨n,hn⟩:∃ n,f.ids.length=n:=⟨_,rfl⟩
 rw[hn] at O ao
 have z0:=ad _ _ rfl O.c0
 have z1:=ad _ _ rfl O.c1
 have z2:=ad _ _ rfl O.c2
 have z3:=ad _ _ rfl O.c3
 have z4:=ad _ _ rfl O.c4
 have z5:=ad _ _ rfl O.c5
 have d0:=hc 0 _ rfl
 have d1:=hc 1 _ rfl
 have d2:=hc 2 _ rfl
 have d3:=hc 3 _ rfl
 have d4:=hc 4 _ rfl
 rw[Ho] at d0
 have e4:X.cell? ⟨M,4,none⟩=some (.slice Y.sA s.sc.length Y.sc):=by rw[h1.own.cell];rfl
 have f4:=h1.own.free 4
 have cR:=h1.own.lt
 have e3:X.cell? ⟨w.heap.size,3,none⟩=some (.int .i64 (f.sc:Int)):=by rw[ba.cell];rfl
 have g0:W2.cell? ⟨w.heap.size,0,none⟩=some (.slice P.pA f.parts.length P.pc):=by rw[bb.cell];rfl
 have g1:W2.cell? ⟨w.heap.size,1,none⟩=some (.slice P.iA f.ids.length P.ic):=by rw[bb.cell];rfl
 have cN:=ba.lt
 have cP:=bb.lt
 have bp:Hid (∀ o,w.drew.alloc o=w.drew.alloc o/\(w.drew.alloc o).cell? ⟨M,5,none⟩=some (.slice (some ⟨I,0,none⟩) (bs.length+1) Y.fc)/\∀ j u,(dn (P,f))[j]?=some u->(w.drew.alloc o).cell? ⟨I,bs.length*5+j,none⟩=some u):=fun o=>
  ⟨rfl,(((Gp w.heap.size w.drew).alloc (Fm _) o).cell (p:=⟨M,5,none⟩) bz).trans c5,fun j u hu=>(((Gp w.heap.size w.drew).alloc (Fm _) o).cell (p:=⟨I,_,none⟩) ah).trans (hc j u hu)⟩
 have av:∀ W:World,(Instr.slice 169 (.slice Y.sA s.sc.length Y.sc) none (some (.int .i64 (f.sc:Int))) none).run Tryz.prog W=.ok (.slice Y.sA f.sc Y.sc) W:=fun W=>xS W rA (by omega)
 rw[hn] at d1 g1 J
 simp only at d0 d1 d2 d3 d4
 obtain⟨m,hm⟩:∃ m,bs.length=m:=⟨_,rfl⟩
 have cx:m<=4900:=by have:=hs.fr;omega
 rw[hm] at c5 d0 d1 d2 d3 d4 bp
 rw[bP] at d0 g0 J
 generalize Mk.part E.D { s with sc:=s.sc.take f.sc } x'=R at r ⊢
 unfold aX at r
 obtain⟨pn,bn⟩:∃ pn,f.parts.length=pn:=⟨_,rfl⟩
 obtain⟨sn,b4⟩:∃ sn,s.sc.length=sn:=⟨_,rfl⟩
 obtain⟨xn,b9⟩:∃ xn,x'.L.length=xn:=⟨_,rfl⟩
 obtain⟨fs,bE⟩:∃ fs,f.sc=fs:=⟨_,rfl⟩
 obtain⟨fd,bC⟩:∃ fd,f.dp=fd:=⟨_,rfl⟩
 obtain⟨v,hv⟩:∃ v,P.v=v:=⟨_,rfl⟩
 rw[bn] at d0 g0 J ao
 rw[b4] at e4 av
 rw[b9] at z5 r
 rw[bE] at d3 e3 J av Q
 rw[bC] at d4 J
 rw[hv] at d2 J b7
 have cF:(n:Int)<(pn:Int):=by omega
 have cE:(0:Int)<=(n:Int):=by omega
 have cj:((m:Int)+1)-1=(m:Int):=by omega
 have cq:IntKind.i64.wrap (m:Int)=(m:Int):=GR _ (by omega)
 have cv:IntKind.i64.wrap ((m:Int)+1-1)=(m:Int):=by rw[cj];exact cq
 have cy:(0:Int)<=(m:Int):=by omega
 have cz:(m:Int)<(m:Int)+1:=by omega
 have HS:Hid (w.drew.cell? ⟨M,5,none⟩=some (.slice (some ⟨I,0,none⟩) (m+1) Y.fc)/\w.drew.cell? ⟨I,m*5,none⟩=some (.slice (some ⟨b3,o3,none⟩) pn P.pc)/\w.drew.cell? ⟨I,m*5+1,none⟩=some (.slice P.iA n P.ic)/\w.drew.cell? ⟨I,m*5+2,none⟩=some v/\w.drew.cell? ⟨I,m*5+3,none⟩=some (.int .i64 (fs:Int))/\w.drew.cell? ⟨I,m*5+4,none⟩=some (.int .i64 (fd:Int))):=⟨c5,d0,d1,d2,d3,d4⟩
 have a7:Hid (∀ o,(w.drew.alloc o).cell? ⟨M,5,none⟩=some (.slice (some ⟨I,0,none⟩) (m+1) Y.fc)/\(w.drew.alloc o).cell? ⟨I,m*5,none⟩=some (.slice (some ⟨b3,o3,none⟩) pn P.pc)/\(w.drew.alloc o).cell? ⟨I,m*5+1,none⟩=some (.slice P.iA n P.ic)/\(w.drew.alloc o).cell? ⟨I,m*5+2,none⟩=some v/\(w.drew.alloc o).cell? ⟨I,m*5+3,none⟩=some (.int .i64 (fs:Int))/\(w.drew.alloc o).cell? ⟨I,m*5+4,none⟩=some (.int .i64 (fd:Int))):=fun o=>by
  have b:=fun(k i:Nat) (hk:k<w.heap.size)=>((Gp w.heap.size w.drew).alloc (Fm _) o).cell (p:=⟨k,i,none⟩) hk
  obtain⟨q1,q2,q3,q4,q5,q6⟩:=HS.out
  exact⟨(b _ _ bz).trans q1,(b _ _ ah).trans q2,(b _ _ ah).trans q3,(b _ _ ah).trans q4,(b _ _ ah).trans q5,(b _ _ ah).trans q6⟩
 clear h hf hs ha b1 a1 bD cl bT bx ca bB ch hc cf hlen hq hP Z ba h1 hcut rA rC bb bP b8 O bL bl b5 r2 t2 y2 a2 U b6 b2 ad bp hn hm bn b4 b9 bE bC hv c5 d0 d1 d2 d3 d4
 rcases b7 with rfl|⟨fn,fa,fb,rfl⟩
 ·have bo:∀ (a:Addr) (W:World),(store a Value.nilFunc .plain).run Tryz.prog W=stored Tryz.prog W a Value.nilFunc .plain:=fun a W=>run_store Tryz.prog W a _ _ rfl
  go_enter Tryz.func93,Tryz.ntmps93
  go_wp2_with fail
  go_region_held3 (fun W=>W.cell? ⟨M,5,none⟩=some (.slice (some ⟨I,0,none⟩) (m+1) Y.fc)/\W.cell? ⟨I,m*5,none⟩=some (.slice (some ⟨b3,o3,none⟩) pn P.pc)/\W.cell? ⟨I,m*5+1,none⟩=some (.slice P.iA n P.ic)/\W.cell? ⟨I,m*5+2,none⟩=some Value.nilFunc/\W.cell? ⟨I,m*5+3,none⟩=some (.int .i64 (fs:Int))/\W.cell? ⟨I,m*5+4,none⟩=some (.int .i64 (fd:Int)))
   (first|(with_reducible exact HS.out)|exact a7.out _)
   (fail)
  rw[<-J]
  have cb:X.drew.setCell ⟨M,4,none⟩ (.slice Y.sA fs Y.sc)=W2:=Q.symm
  have cc:(X.setCell ⟨M,4,none⟩ (.slice Y.sA fs Y.sc)).drew=W2:=Q.symm
  clear J Q HS a7 bo
  go_wp2_with fail
  go_still_tail 10,(by kernel_rfl)
  change wpList _ _ _ _ _ X.drew
  go_wp2_with fail
  refine r.out.mono ?_
  rintro e w3 ⟨rfl,v⟩
  have V:=Gn v
  clear r v
  go_wp2
  go_ret
  exact⟨rfl,V.out⟩
 ·have bo:∀ (a:Addr) (W:World),(store a (.func fn fa fb) .plain).run Tryz.prog W=stored Tryz.prog W a (.func fn fa fb) .plain:=fun a W=>run_store Tryz.prog W a _ _ rfl
  go_enter Tryz.func93,Tryz.ntmps93
  go_wp2_with fail
  go_region_held3 (fun W=>W.cell? ⟨M,5,none⟩=some (.slice (some ⟨I,0,none⟩) (m+1) Y.fc)/\W.cell? ⟨I,m*5,none⟩=some (.slice (some ⟨b3,o3,none⟩) pn P.pc)/\W.cell? ⟨I,m*5+1,none⟩=some (.slice P.iA n P.ic)/\W.cell? ⟨I,m*5+2,none⟩=some (.func fn fa fb)/\W.cell? ⟨I,m*5+3,none⟩=some (.int .i64 (fs:Int))/\W.cell? ⟨I,m*5+4,none⟩=some (.int .i64 (fd:Int)))
   (first|(with_reducible exact HS.out)|exact a7.out _)
   (fail)
  rw[<-J]
  have cb:X.drew.setCell ⟨M,4,none⟩ (.slice Y.sA fs Y.sc)=W2:=Q.symm
  have cc:(X.setCell ⟨M,4,none⟩ (.slice Y.sA fs Y.sc)).drew=W2:=Q.symm
  clear J Q HS a7 bo
  go_wp2_with fail
  go_still_tail 10,(by kernel_rfl)
  change wpList _ _ _ _ _ X.drew
  go_wp2_with fail
  refine r.out.mono ?_
  rintro e w3 ⟨rfl,v⟩
  have V:=Gn v
  clear r v
  go_wp2
  go_ret
  exact⟨rfl,V.out⟩
theorem Mk.aF.EP {E:Mk.Env} {w:World} {M:Nat} {Y:Mk.Lay} {s:Ms} (h:Mk.aF E w M Y s) {bs:List Fr} {f:Fr} (hf:s.fr=bs++[f]) {FB:List (qU×Fr)} {P:qU} (hL:Y.FL=FB++[(P,f)]):∃ Y',Mk.aF E (w.setCell ⟨M,5,none⟩ (.slice Y.fA bs.length Y.fc)) M Y' { s with fr:=bs }/\ae (Mk.ag M Y) w (w.setCell ⟨M,5,none⟩ (.slice Y.fA bs.length Y.fc))/\(∀ k,Mk.ag M Y' k->Mk.ag M Y k)/\∀ g,ak P.iA=some g->¬Mk.ag M Y' g:=by
 have V:=h.fl
 rw[hf] at V
 have Q:=hL
 rw[hL,Hf] at V
 have X:FB.map (·.2)=bs:=(List.append_inj' V rfl).1
 have hlen:s.fr.length=bs.length+1:=by rw[hf];simp
 have Z:FB.length=bs.length:=by rw[<-X,Fi]
 have I:∀ q∈FB,q∈Y.FL:=fun q r=>by rw[Q];exact F9 _ r
 have t2:ae (fun k=>k=M) w (w.setCell ⟨M,5,none⟩ (.slice Y.fA bs.length Y.fc)):=(ae.refl (fun k=>k=M) w).put (p:=⟨M,5,none⟩) (.inl rfl) _
 have ad:ae (Mk.ag M Y) w (w.setCell ⟨M,5,none⟩ (.slice Y.fA bs.length Y.fc)):=t2.mono fun i _ hi=> .inl hi
 have ah:∀ k,Mk.ag M { Y with FL:=FB } k->Mk.ag M Y k:=fun k L=>by
  rcases L with e|e|e|e|e|⟨q,r,e⟩
  ·exact(.inl e)
  ·exact(.inr (.inl e))
  ·exact(.inr (.inr (.inl e)))
  ·exact(.inr (.inr (.inr (.inl e))))
  ·exact(.inr (.inr (.inr (.inr (.inl e)))))
  ·exact(.inr (.inr (.inr (.inr (.inr ⟨q,I q r,e⟩)))))
 have hY:∀ k,Mk.ag M { Y with FL:=FB } k->Mk.ag M Y k\/w.heap.size<=k:=fun k L=> .inl (ah k L)
 obtain⟨o1,o2,o3,o4,o5⟩:=h.outer ad hY
 have hG:∀ k,k<w.heap.size->¬Mk.ag M Y k->¬(k=M)/\¬Mk.ag M { Y with FL:=FB } k:=fun k ao L=>⟨fun e=>L (.inl e),(o5 k ao L).2⟩
 have O:=gw h.fZ (k:=bs.length) (by omega)
 have hcut:(Y.FL.flatMap dn).take (bs.length*5)=FB.flatMap dn:=by
  rw[Q,IH,List.take_left' (by rw[iK,Z])]
 rw[hcut] at O
 have U:=h.apart
 rw[Q,List.pairwise_append] at U
 refine⟨{ Y with FL:=FB },⟨o1,o2,h.own.put 5 _,h.aO.turn t2 (fun k L e=>h.xM (e▸L)),h.made.turn t2 (fun e=>h.Dk e.symm),
  t2.own h.fY (fun g J e=>h.BX (by rw[aj] at J;exact e▸J)),h.sl,fun q r=>(h.zj q r).turn t2 hG,t2.own O (fun g J e=>h.BM (by rw[aj] at J;exact e▸J)),X,fun q r=>(h.vX q (I q r)).turn t2 hG,
  fun q r=>t2.own (h.ids q (I q r)) (fun g J e=>h.BC (I q r) (by rw[aj] at J;exact e▸J)),U.1,h.xM,h.xm,h.xs,h.xf,fun q r=>h.xi q (I q r),o3,o4⟩,ad,ah,fun g J e=>?_⟩
 have r:(P,f)∈Y.FL:=by rw[hL];simp
 rcases e with e|e|e|e|e|⟨q,av,e⟩
 ·exact h.BC r (e▸J)
 ·exact h.xi _ r g J e
 ·exact h.EC r (e▸J)
 ·exact h.Ey r e J
 ·exact h.Ct r e J
 ·exact U.2.2 q av (P,f) (by simp) g e J
theorem Mk.aF.EM {E:Mk.Env} {w:World} {M:Nat} {Y:Mk.Lay} {s:Ms} (h:Mk.aF E w M Y s) {k:Nat} (O:k<=s.sc.length):∃ Y',Mk.aF E (w.setCell ⟨M,4,none⟩ (.slice Y.sA k Y.sc)) M Y' { s with sc:=s.sc.take k }/\ae (Mk.ag M Y) w (w.setCell ⟨M,4,none⟩ (.slice Y.sA k Y.sc))/\(∀ k,Mk.ag M Y' k->Mk.ag M Y k\/w.heap.size<=k)/\Y'.FL=Y.FL/\Y'.fA=Y.fA/\Y'.fc=Y.fc:=by
 have Q:Y.SL.length=s.sc.length:=by rw[<-h.sl,Fi]
 have hlen:(s.sc.take k).length=k:=by rw[FK];exact G6 O
 have t2:ae (fun k=>k=M) w (w.setCell ⟨M,4,none⟩ (.slice Y.sA k Y.sc)):=(ae.refl (fun k=>k=M) w).put (p:=⟨M,4,none⟩) (.inl rfl) _
 have L:ae (Mk.ag M Y) w (w.setCell ⟨M,4,none⟩ (.slice Y.sA k Y.sc)):=t2.mono fun i _ hi=> .inl hi
 have X:∀ i,Mk.ag M { Y with SL:=Y.SL.take k } i->Mk.ag M Y i\/w.heap.size<=i:=fun i hi=> .inl hi
 obtain⟨Z,o2,o3,o4,o5⟩:=h.outer L X
 have V:∀ i,i<w.heap.size->¬Mk.ag M Y i->¬(i=M)/\¬Mk.ag M { Y with SL:=Y.SL.take k } i:=fun i U hi=>⟨fun e=>hi (.inl e),(o5 i U hi).2⟩
 have I:=gw h.fY O
 have hcut:(Y.SL.flatMap bw).take (k*3)=(Y.SL.take k).flatMap bw:=by
  conv=>lhs;rw[<-FM k Y.SL]
  rw[IH,List.take_left' (by rw[wJ,FK,Q,G6 O])]
 rw[hcut] at I
 refine⟨{ Y with SL:=Y.SL.take k },⟨Z,o2,by rw[hlen];exact h.own.put 4 _,h.aO.turn t2 (fun k O e=>h.xM (e▸O)),h.made.turn t2 (fun e=>h.Dk e.symm),
  by rw[hlen];exact t2.own I (fun g r e=>h.BX (by rw[aj] at r;exact e▸r)),by rw[List.map_take,h.sl],fun q J=>(h.zj q (GN J)).turn t2 V,t2.own h.fZ (fun g r e=>h.BM (by rw[aj] at r;exact e▸r)),h.fl,fun q J=>(h.vX q J).turn t2 V,
  fun q J=>t2.own (h.ids q J) (fun g r e=>h.BC J (by rw[aj] at r;exact e▸r)),h.apart,h.xM,h.xm,h.xs,h.xf,h.xi,o3,o4⟩,L,X,rfl,rfl,rfl⟩
theorem aH.eX {w:World} {A:Option Addr} {n c:Nat} {l:List Int} (h:w.ownsRow 0 3 1 (.slice A n c) n (cH l)) (hl:l.length=n):aH w A n l:=
 ⟨hl,fun hn=>by
  rcases h.2 with⟨_,e⟩|⟨g,cap,cur,e,_,I,_⟩
  ·omega
  ·injection e with r _ _
   refine⟨g,0,r,(Fl.1 I).1,fun i x J=>?_⟩
   have:=h.cells (g:=g) (by rw[r];rfl) i (.int .i64 x) (by rw[Fj,J];rfl)
   simpa [addr_add] using this⟩
theorem Cs {A:Option Addr} {n c k:Nat} (W:World) (hA:A.map (·.add 0)=A) (h:k<=c):(Instr.slice 170 (.slice A n c) none (some (.int .i64 (k:Nat))) none).run Tryz.prog W=.ok (.slice A k c) W:=by
 have hz:(sizeOf (Tryz.prog.elem 170)).run Tryz.prog W=.ok 5 W:=by kernel_rfl
 rw[run_slice_h W 170 A n c (by kernel_rfl) .i64 (k:Nat) (by omega) (by omega),hz]
 simp only[Result.andThen,sliced]
 have e:(if c=0 then A else A.map (·.add (0*5)))=A:=by
  split
  ·rfl
  ·rw[Hx];exact hA
 rw[e]
 simp
theorem DN (E:Mk.Env) (hE:E.Ok) (hD:Mk.vU E.D) (w:World) (M:Nat) (Y:Mk.Lay) (s:Ms) (bs:List Fr) (g f:Fr) (v:Value) (A:Option Addr) (n c:Nat) (h:Mk.aF E w M Y s) (hf:s.fr=bs++[g]) (hs:Mk.Small s) (hb:Mk.Base E.D s) (L:Fr.Ok E.D s.N.length f) (ao:f.parts.length<=f.ids.length) (hn:f.th≠.none)
  (ht:jK w (fun k=>¬Mk.ag M Y k) M v f.th) (hA:aH w A n f.ids) (hg:Gs (fun k=>¬Mk.ag M Y k) A n):
  (∃ r I,v=.func (.func 236) #[] #[.pointer (some ⟨r,0,none⟩),.pointer (some ⟨I,0,none⟩)]/\Calls Tryz.prog 236 #[.slice A n c,.pointer (some ⟨r,0,none⟩),.pointer (some ⟨I,0,none⟩)] w fun e w'=>Mk.aY E w M Y (Mk.ends E.D s f.th f.ids) e w')\/
  (∃ r I,v=.func (.func 239) #[] #[.pointer (some ⟨r,0,none⟩),.pointer (some ⟨I,0,none⟩)]/\Calls Tryz.prog 239 #[.slice A n c,.pointer (some ⟨r,0,none⟩),.pointer (some ⟨I,0,none⟩)] w fun e w'=>Mk.aY E w M Y (Mk.ends E.D s f.th f.ids) e w')\/
  (∃ r I X,v=.func (.func 268) #[] #[.pointer (some ⟨r,0,none⟩),.pointer (some ⟨I,0,none⟩),.pointer (some ⟨X,0,none⟩)]/\Calls Tryz.prog 268 #[.slice A n c,.pointer (some ⟨r,0,none⟩),.pointer (some ⟨I,0,none⟩),.pointer (some ⟨X,0,none⟩)] w fun e w'=>Mk.aY E w M Y (Mk.ends E.D s f.th f.ids) e w')\/
  (v=.func (.func 269) #[.pointer (some ⟨M,0,none⟩)] #[]/\Calls Tryz.prog 269 #[.pointer (some ⟨M,0,none⟩),.slice A n c] w fun e w'=>Mk.aY E w M Y (Mk.ends E.D s f.th f.ids) e w')\/
  (∃ r I,v=.func (.func 273) #[] #[.pointer (some ⟨r,0,none⟩),.pointer (some ⟨I,0,none⟩)]/\Calls Tryz.prog 273 #[.slice A n c,.pointer (some ⟨r,0,none⟩),.pointer (some ⟨I,0,none⟩)] w fun e w'=>Mk.aY E w M Y (Mk.ends E.D s f.th f.ids) e w'):=by
 have hN:=hb.len
 have hw:∀ z∈f.ids,0<=z/\z<=30000:=fun z hz=>by have:=L.ids z hz;omega
 have U:∀ z∈f.ids,(Lit.int .i64 z).wf=true:=fun z hz=>Ff (by have:=hw z hz;omega)
 have hlen:=hA.len
 have hle:=L.le
 have hl:=L.len
 have J:=L.th
 have ad:E.D.length=E.n:=by rw[<-hE.dc.len];exact Fi _
 have a7:∀ (j:Nat) d,E.D[j]?=some d->d.par.length<=1000/\∀ p∈d.par,p.1.size<=maxLen:=fun j d hd=>⟨by have:=(hD.par j d hd).1;omega,fun p hp=>by have:=(hD.par j d hd).2 p hp;unfold maxLen;omega⟩
 cases e:f.th with
 |none=>exact absurd e hn
 |op o=>
  rw[e] at ht J
  obtain⟨r,I,rfl,V,Z,O,Q⟩:=ht
  exact .inl ⟨r,I,rfl,zR E hE w M Y s bs g o r I A n c f.ids h hf hs hb.inv V Z O Q hA U hg (by omega)⟩
 |fn j=>
  rw[e] at ht J
  obtain⟨r,I,rfl,V,Z,O,Q⟩:=ht
  exact .inr (.inl ⟨r,I,rfl,Be E hE w M Y s bs g j r I A n c f.ids h hf hs (by rw[<-ad];exact J.1) O Q hA hw (by omega) (a7 j)⟩)
 |bind names t=>
  rw[e] at ht J
  obtain⟨r,I,X,nA,nc,pA,pc,bx,rfl,V,Z,O,Q,h5,h6,h7,h8,h9⟩:=ht
  obtain⟨k1,k2,k3⟩:=J
  obtain rfl:n=names.length:=by omega
  exact .inr (.inr (.inl ⟨r,I,X,rfl,xz E w M Y s bs g names t bx r I X nA nc pA pc A c f.ids h hf hs V Z O Q h5 h6 h7 h8 h9 hA U (fun s hs=>by have:=k2 s hs;unfold maxLen;omega) (by omega)⟩))
 |first=>
  rw[e] at ht J
  have J:f.parts.length=1:=J
  have ht:v=_:=ht
  have ah:bs.length<=5000:=by have:=hs.fr;rw[hf,Gb] at this;omega
  have av:g.ids.length<=100000:=by have:=(hs.ids g (by rw[hf];simp)).1;omega
  exact .inr (.inr (.inr (.inl ⟨ht,sB E w M Y s bs g A n c f.ids h hf ah av hA (by omega)⟩)))
 |cD j a=>
  rw[e] at ht J
  obtain⟨r,I,rfl,V,Z,O,Q⟩:=ht
  obtain⟨k1,k2,k3,k4⟩:=J
  have ba:a.length<=3:=by
   obtain⟨d,hd,_,e⟩:=Bd.fk k3
   rw[<-e]
   exact(hD.par j d hd).1
  have a1:(Mk.key j a).size<=maxLen:=by
   have:=Mk.lX (j:=j) (A:=a) (by have:=hE.few;omega) (fun z hz=>Ff (by have:=k4 z hz;omega)) (by omega)
   unfold maxLen
   omega
  exact .inr (.inr (.inr (.inr ⟨r,I,rfl,uU E w M Y s bs g j a r I A n c f.ids h hf hs V O Q hA hg U (by omega) a1 (hb.few hD)⟩)))
theorem qY (E:Mk.Env) (hE:E.Ok) (hD:Mk.vU E.D) (w:World) (M:Nat) (Y:Mk.Lay) (s:Ms) (bs:List Fr) (g f:Fr) (h:Mk.aF E w M Y s) (hf:s.fr=(bs++[g])++[f]) (hs:Mk.Small s) (cf:f.sc<=s.sc.length) (L:f.parts.length<=f.ids.length) (b8:Fr.Ok E.D s.N.length f) (hn:f.th≠.none) (hb:Mk.Base E.D s):
  Calls Tryz.prog 93 #[.pointer (some ⟨M,0,none⟩)] w fun e w'=>Mk.aY E w M Y (Mk.step E.D s) e w':=by
 rw[Mk.ia hf L]
 obtain⟨FB,P,I,bC,b5,av,a1,cE,hc,cz⟩:=h.last hf
 obtain⟨m,hm⟩:∃ m,(bs++[g]).length=m:=⟨_,rfl⟩
 have hlen:s.fr.length=m+1:=by rw[hf,Gb,hm];simp
 have hq:(P,f)∈Y.FL:=by rw[bC];simp
 have hP:=h.vX _ hq
 rw[hm] at hc b5
 have c5:w.cell? ⟨M,5,none⟩=some (.slice (some ⟨I,0,none⟩) (m+1) Y.fc):=by rw[h.own.cell,<-hlen,<-av];rfl
 have cx:=h.own.lt
 obtain⟨rA,rC⟩:=kZ h.fY
 obtain⟨rF,rG⟩:=kZ h.fZ
 rw[av] at rF
 rw[hlen] at rG
 obtain⟨X,J⟩:∃ X,X=(w.alloc (.cells #[.slice P.pA f.parts.length P.pc,.slice P.iA f.ids.length P.ic,P.v,.int .i64 (f.sc:Int),.int .i64 (f.dp:Int)] 177)).drew:=⟨_,rfl⟩
 have O:Below w.heap.size w X:=by
  have:=(Gp w.heap.size w).alloc (Fm _) (.cells #[.slice P.pA f.parts.length P.pc,.slice P.iA f.ids.length P.ic,P.v,.int .i64 (f.sc:Int),.int .i64 (f.dp:Int)] 177)
  rw[J]
  exact⟨this.os,this.tape,this.output,this.size,this.block⟩
 have bo:aa X w.heap.size 177 #[.slice P.pA f.parts.length P.pc,.slice P.iA f.ids.length P.ic,P.v,.int .i64 (f.sc:Int),.int .i64 (f.dp:Int)]:=by rw[J];exact aa.new w _ _
 have h1:=h.below O
 have Q:Below w.heap.size w X.drew:=⟨O.os,O.tape,O.output,O.size,O.block⟩
 obtain⟨Y2,r2,t2,y2,cl,bD,bE⟩:=(h1.drew).EM cf
 obtain⟨W2,U⟩:∃ W2,W2=X.drew.setCell ⟨M,4,none⟩ (.slice Y.sA f.sc Y.sc):=⟨_,rfl⟩
 rw[<-U] at r2 t2
 have cq:ae (fun k=>k=M) w W2:=by rw[U];exact(ae.af (F:=fun k=>k=M) Q).put (p:=⟨M,4,none⟩) (.inl rfl) _
 have ao:Below W2.heap.size W2 W2.drew:=⟨rfl,rfl,rfl,Fm _,fun _ _=>rfl⟩
 obtain⟨Y3,r3,t3,y3,a3⟩:=(r2.drew).EP (s:={ s with sc:=s.sc.take f.sc }) (bs:=bs++[g]) (f:=f) hf (FB:=FB) (P:=P) (by rw[cl];exact bC)
 rw[bD,bE,av,hm] at r3 t3
 obtain⟨Z,ah⟩:∃ Z,Z=W2.drew.setCell ⟨M,5,none⟩ (.slice (some ⟨I,0,none⟩) m Y.fc):=⟨_,rfl⟩
 rw[<-ah] at r3 t3
 have bL:ae (fun k=>k=M) w Z:=by rw[ah];exact(cq.step ao).put (p:=⟨M,5,none⟩) (.inl rfl) _
 have cv:∀ k,Mk.ag M Y3 k->Mk.ag M Y k\/w.heap.size<=k:=fun k hk=>(y2 k (y3 k hk)).imp id fun e=>Fo Q.size e
 have bl:∀ k,w.heap.size<=k->k≠M:=fun k hk e=>by omega
 have bb:aa W2 w.heap.size 177 #[.slice P.pA f.parts.length P.pc,.slice P.iA f.ids.length P.ic,P.v,.int .i64 (f.sc:Int),.int .i64 (f.dp:Int)]:=by
  have:ae (fun k=>k=M) X W2:=by rw[U];exact((ae.refl (fun k=>k=M) X).drew).put (p:=⟨M,4,none⟩) (.inl rfl) _
  exact this.lies bo (bl _ (Fm _))
 have bp:aa Z w.heap.size 177 #[.slice P.pA f.parts.length P.pc,.slice P.iA f.ids.length P.ic,P.v,.int .i64 (f.sc:Int),.int .i64 (f.dp:Int)]:=by
  have:ae (fun k=>k=M) W2 Z:=by rw[ah];exact((ae.refl (fun k=>k=M) W2).drew).put (p:=⟨M,5,none⟩) (.inl rfl) _
  exact this.lies bb (bl _ (Fm _))
 have bx:=h.ids _ hq
 have a7:Z.ownsRow 0 3 1 (.slice P.iA f.ids.length P.ic) f.ids.length (cH f.ids):=bL.own bx (fun k hk e=>h.BC hq (by rw[aj] at hk;exact e▸hk))
 have b4:=aH.eX a7 rfl
 have b6:Gs (fun k=>¬Mk.ag M Y3 k) P.iA f.ids.length:=fun a e _=>a3 a.block (by rw[e];rfl)
 have bB:jK Z (fun k=>¬Mk.ag M Y3 k) M P.v f.th:=hP.th.turn bL fun k c6 hk=>⟨fun e=>hk (.inl e),fun e=>(cv k e).elim hk fun e2=>by omega⟩
 have cc:Mk.Small { s with sc:=s.sc.take f.sc,fr:=bs++[g] }:=⟨by have:=hs.fr;rw[hlen] at this;show(bs++[g]).length<=_;omega,by show(s.sc.take f.sc).length<=_;rw[FK];have:=hs.sc;omega,fun x hx=>hs.ids x (by rw[hf];exact F9 _ hx),hs.N⟩
 have r:=DN E hE hD Z M Y3 { s with sc:=s.sc.take f.sc,fr:=bs++[g] } bs g f P.v P.iA f.ids.length P.ic r3 rfl cc (hb.cut f.sc _) b8 L hn bB b4 b6
 have cj:∀ (R:Ms×Int) e w',Mk.aY E Z M Y3 R e w'->Mk.aY E w M Y R e w':=fun R e w' q=>⟨q.1,(((q.2.after t3 fun k hk=> .inl (y3 k hk)).up ao).after t2 y2).up Q⟩
 generalize Mk.ends E.D { s with sc:=s.sc.take f.sc,fr:=bs++[g] } f.th f.ids=R at r ⊢
 have bT:=Gn cj
 have ba:=L
 have d0:=hc 0 _ rfl
 have d1:=hc 1 _ rfl
 have d2:=hc 2 _ rfl
 have d3:=hc 3 _ rfl
 have d4:=hc 4 _ rfl
 rw[Ho] at d0
 simp only at d0 d1 d2 d3 d4
 have e4:X.cell? ⟨M,4,none⟩=some (.slice Y.sA s.sc.length Y.sc):=by rw[h1.own.cell];rfl
 have f4:=h1.own.free 4
 have en:=h1.own.lt
 have e3:X.cell? ⟨w.heap.size,3,none⟩=some (.int .i64 (f.sc:Int)):=by rw[bo.cell];rfl
 have g0:W2.cell? ⟨w.heap.size,0,none⟩=some (.slice P.pA f.parts.length P.pc):=by rw[bb.cell];rfl
 have g1:W2.cell? ⟨w.heap.size,1,none⟩=some (.slice P.iA f.ids.length P.ic):=by rw[bb.cell];rfl
 have e5:W2.cell? ⟨M,5,none⟩=some (.slice (some ⟨I,0,none⟩) (m+1) Y.fc):=by
  have:=r2.own.cell 5
  rw[this,bD,bE,av]
  show some (Value.slice _ s.fr.length _)=_
  rw[hlen]
 have f5:=r2.own.free 5
 have er:=r2.own.lt
 have k1:Z.cell? ⟨w.heap.size,1,none⟩=some (.slice P.iA f.ids.length P.ic):=by rw[bp.cell];rfl
 have k2:Z.cell? ⟨w.heap.size,2,none⟩=some P.v:=by rw[bp.cell];rfl
 have dO:=bo.lt
 have dS:=bb.lt
 have ea:=bp.lt
 have bn:∀ W:World,(Instr.slice 169 (.slice Y.sA s.sc.length Y.sc) none (some (.int .i64 (f.sc:Int))) none).run Tryz.prog W=.ok (.slice Y.sA f.sc Y.sc) W:=fun W=>xS W rA (by omega)
 have cy:∀ W:World,(Instr.slice 170 (.slice (some ⟨I,0,none⟩) (m+1) Y.fc) none (some (.int .i64 (m:Int))) none).run Tryz.prog W=.ok (.slice (some ⟨I,0,none⟩) m Y.fc) W:=fun W=>Cs W rF (by omega)
 have c7:m<=4900:=by have:=hs.fr;omega
 obtain⟨n,ca⟩:∃ n,f.ids.length=n:=⟨_,rfl⟩
 obtain⟨pn,bz⟩:∃ pn,f.parts.length=pn:=⟨_,rfl⟩
 obtain⟨sn,ch⟩:∃ sn,s.sc.length=sn:=⟨_,rfl⟩
 obtain⟨fs,b9⟩:∃ fs,f.sc=fs:=⟨_,rfl⟩
 obtain⟨fd,b7⟩:∃ fd,f.dp=fd:=⟨_,rfl⟩
 obtain⟨v,hv⟩:∃ v,P.v=v:=⟨_,rfl⟩
 obtain⟨pA,cb⟩:∃ pA,P.pA=pA:=⟨_,rfl⟩
 rw[ca] at d1 g1 k1 J ba r
 rw[bz] at d0 g0 J ba
 rw[ch] at e4 bn
 rw[b9] at d3 e3 J bn U
 rw[b7] at d4 J
 rw[hv] at d2 J k2 r
 rw[cb] at d0 g0 J
 have dN:(pn:Int)<=(n:Int):=by omega
 have dx:decide ((n:Int)<(pn:Int))=false:=Gq (by omega)
 have cF:((m:Int)+1)-1=(m:Int):=by omega
 have cP:IntKind.i64.wrap (m:Int)=(m:Int):=GR _ (by omega)
 have cR:IntKind.i64.wrap ((m:Int)+1-1)=(m:Int):=by rw[cF];exact cP
 have c8:(0:Int)<=(m:Int):=by omega
 have dd:(m:Int)<(m:Int)+1:=by omega
 have HS:Hid (w.drew.cell? ⟨M,5,none⟩=some (.slice (some ⟨I,0,none⟩) (m+1) Y.fc)/\w.drew.cell? ⟨I,m*5,none⟩=some (.slice pA pn P.pc)/\w.drew.cell? ⟨I,m*5+1,none⟩=some (.slice P.iA n P.ic)/\w.drew.cell? ⟨I,m*5+2,none⟩=some v/\w.drew.cell? ⟨I,m*5+3,none⟩=some (.int .i64 (fs:Int))/\w.drew.cell? ⟨I,m*5+4,none⟩=some (.int .i64 (fd:Int))):=⟨c5,d0,d1,d2,d3,d4⟩
 have bP:Hid (∀ o,(w.drew.alloc o).cell? ⟨M,5,none⟩=some (.slice (some ⟨I,0,none⟩) (m+1) Y.fc)/\(w.drew.alloc o).cell? ⟨I,m*5,none⟩=some (.slice pA pn P.pc)/\(w.drew.alloc o).cell? ⟨I,m*5+1,none⟩=some (.slice P.iA n P.ic)/\(w.drew.alloc o).cell? ⟨I,m*5+2,none⟩=some v/\(w.drew.alloc o).cell? ⟨I,m*5+3,none⟩=some (.int .i64 (fs:Int))/\(w.drew.alloc o).cell? ⟨I,m*5+4,none⟩=some (.int .i64 (fd:Int))):=fun o=>by
  have b:=fun(k i:Nat) (hk:k<w.heap.size)=>((Gp w.heap.size w.drew).alloc (Fm _) o).cell (p:=⟨k,i,none⟩) hk
  obtain⟨q1,q2,q3,q4,q5,q6⟩:=HS.out
  exact⟨(b _ _ cx).trans q1,(b _ _ a1).trans q2,(b _ _ a1).trans q3,(b _ _ a1).trans q4,(b _ _ a1).trans q5,(b _ _ a1).trans q6⟩
 clear h hf hs cf L bC b5 av cE hc cz hlen hq hP O bo h1 rA rC rF rG bb bp cb r2 t2 y2 r3 t3 y3 a3 cl bD bE cq bL cv bl bx a7 b4 b6 bB cc cj Q ao hm ca bz ch b9 b7 hv c5 d0 d1 d2 d3 d4 b8 hn hb ba
 obtain⟨fn,fa,fb,rfl⟩:∃ fn fa fb,v=.func fn fa fb:=by
  rcases r with⟨b1,b2,e,_⟩|⟨b1,b2,e,_⟩|⟨b1,b2,b3,e,_⟩|⟨e,_⟩|⟨b1,b2,e,_⟩ <;> exact⟨_,_,_,e⟩
 have ad:=Gn r
 clear r
 have cN:∀ (a:Addr) (W:World),(store a (.func fn fa fb) .plain).run Tryz.prog W=stored Tryz.prog W a (.func fn fa fb) .plain:=fun a W=>run_store Tryz.prog W a _ _ rfl
 go_enter Tryz.func93,Tryz.ntmps93
 go_wp2_with fail
 go_region_held3 (fun W=>W.cell? ⟨M,5,none⟩=some (.slice (some ⟨I,0,none⟩) (m+1) Y.fc)/\W.cell? ⟨I,m*5,none⟩=some (.slice pA pn P.pc)/\W.cell? ⟨I,m*5+1,none⟩=some (.slice P.iA n P.ic)/\W.cell? ⟨I,m*5+2,none⟩=some (.func fn fa fb)/\W.cell? ⟨I,m*5+3,none⟩=some (.int .i64 (fs:Int))/\W.cell? ⟨I,m*5+4,none⟩=some (.int .i64 (fd:Int)))
  (first|(with_reducible exact HS.out)|exact bP.out _)
  (fail)
 rw[<-J]
 have cX:X.drew.setCell ⟨M,4,none⟩ (.slice Y.sA fs Y.sc)=W2:=U.symm
 have cY:W2.drew.setCell ⟨M,5,none⟩ (.slice (some ⟨I,0,none⟩) m Y.fc)=Z:=ah.symm
 clear J U ah HS bP cN
 go_wp2_with fail
 go_still_tail 10,(by kernel_rfl)
 change wpList _ _ _ _ _ X.drew
 go_wp2_with fail
 go_still_tail 14,(by kernel_rfl)
 change wpList _ _ _ _ _ W2.drew
 rcases ad.out with⟨b1,b2,e,ht⟩|⟨b1,b2,e,ht⟩|⟨b1,b2,b3,e,ht⟩|⟨e,ht⟩|⟨b1,b2,e,ht⟩
 all_goals
  injection e with e1 e2 e3
  subst e1 e2 e3
  have HT:=Gn ht
  clear ht ad
  go_wp2_with fail
  refine HT.out.mono ?_
  rintro e w4 q
  have V:=Gn (bT.out _ _ _ q)
  obtain⟨rfl,_⟩:=q
  clear HT bT
  go_wp2
  go_ret
  exact V.out
end Go.Proofs.YtdbgiijdgedggaaGreatDoor
