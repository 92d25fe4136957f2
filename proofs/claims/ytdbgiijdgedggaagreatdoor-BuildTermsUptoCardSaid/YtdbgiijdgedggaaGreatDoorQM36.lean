import Derived.Test.YtdbgiijdgedggaaGreatDoorQM35
import Derived.Deep.CutBlock
import Derived.Deep.DeepCutAuto
set_option linter.unusedSimpArgs false
set_option linter.unusedVariables false
set_option maxRecDepth 100000
set_option maxHeartbeats 25600000
namespace Go.Proofs.YtdbgiijdgedggaaGreatDoor
open Go.RowKit
abbrev World.six (w:World) (g:Nat) (u0 u1 u2 u3 u4 u5:Value):World:=(((((w.setCell ⟨g,0,none⟩ u0).setCell ⟨g,1,none⟩ u1).setCell ⟨g,2,none⟩ u2).setCell ⟨g,3,none⟩ u3).setCell ⟨g,4,none⟩ u4).setCell ⟨g,5,none⟩ u5
theorem kO (w:World) (g:Nat) (u0 u1 u2 u3 u4 u5:Value):ae (fun b=>b=g) w (World.six w g u0 u1 u2 u3 u4 u5):=
 ((((((ae.refl (fun b=>b=g) w).put (p:=⟨g,0,none⟩) (.inl rfl) u0).put (p:=⟨g,1,none⟩) (.inl rfl) u1).put (p:=⟨g,2,none⟩) (.inl rfl) u2).put (p:=⟨g,3,none⟩) (.inl rfl) u3).put (p:=⟨g,4,none⟩) (.inl rfl) u4).put (p:=⟨g,5,none⟩) (.inl rfl) u5
theorem ni {B:Nat} {w0 w:World} {g:Nat} {u0 u1 u2 u3 u4 u5:Value} (h:Below B w0 w) (r:B<=w0.heap.size) (I:B<=g):Below B w0 (World.six w g u0 u1 u2 u3 u4 u5):=
 h.trans ((kO w g u0 u1 u2 u3 u4 u5).below (Fo r h.size) (fun _ e=>e▸I))
theorem zf {w:World} {g:Nat} {t:TypeId} {a0 r a2 a3 a4 a5:Value} (h:aa w g t #[a0,r,a2,a3,a4,a5]) (u0 u1 u2 u3 u4 u5:Value):aa (World.six w g u0 u1 u2 u3 u4 u5) g t #[u0,u1,u2,u3,u4,u5]:=by
 have:=(((((h.put 0 u0).put 1 u1).put 2 u2).put 3 u3).put 4 u4).put 5 u5
 exact this
theorem vZ {w:World} {g B B':Nat} {x:Sx} {A:Option Addr} {c:Nat} (u0 u1 u2 u3 u4 u5:Value) (h:aJ w (fun b _=>B<=b) x A c) (J:g<B) (r:B'<=B):aJ (World.six w g u0 u1 u2 u3 u4 u5) (fun b _=>B'<=b) x A c:=
 ⟨h.le,h.tree.imp (kO w g u0 u1 u2 u3 u4 u5).size (fun b off hb I j _=>(kO w g u0 u1 u2 u3 u4 u5).cell (p:=⟨b,off+j,none⟩) hb (by show ¬b=g;omega)) (fun _ _ _ I=>Fo r I)⟩
theorem aN.yw {z:Int} {l:List aG} {D:List bZ} {t:aG} {r:List aG} (h:∀ J,aN z (t::r) J->aN z l (D++J)) (I:t.1=2):∀ J,aN z r J->aN z l ((D++[⟨Sx.zero,60,t.2.2⟩])++J):=fun J L=>by
 rw[F3]
 exact h _ (.close t r J I L)
theorem aN.Ab {z:Int} {l:List aG} {D:List bZ} {t:aG} {r:List aG} (h:∀ J,aN z (t::r) J->aN z l (D++J)) (I:t.1≠1) (L:t.1≠2):∀ J,aN z r J->aN z l ((D++[⟨Sx.atom t,0,t.2.2⟩])++J):=fun J O=>by
 rw[F3]
 exact h _ (.atom t r J I L O)
theorem aN.Au {z:Int} {l:List aG} {D:List bZ} {t c:aG} {m r:List aG} {M:List Sx} (h:∀ J,aN z (t::(m++c::r)) J->aN z l (D++J)) (I:t.1=1) (L:c.1=2) (Q:Reads m M) (hd:¬64<Sx.bf M+1):∀ J,aN z r J->aN z l ((D++[⟨Sx.node t.2.2 M,0,t.2.2⟩])++J):=fun J O=>by
 rw[F3]
 exact h _ (.list t c m r M J I L Q hd O)
theorem aN.zG {z:Int} {l:List aG} {D:List bZ} {t c:aG} {m r:List aG} {M:List Sx} (h:∀ J,aN z (t::(m++c::r)) J->aN z l (D++J)) (I:t.1=1) (L:c.1=2) (Q:Reads m M) (hd:64<Sx.bf M+1):∀ J,aN z r J->aN z l ((D++[⟨Sx.zero,2,t.2.2⟩])++J):=fun J O=>by
 rw[F3]
 exact h _ (.deep t c m r M J I L Q hd O)
theorem aN.Ad {z:Int} {l:List aG} {D:List bZ} {t:aG} {r:List aG} (h:∀ J,aN z (t::r) J->aN z l (D++J)) (I:t.1=1) (hc:cJ 0 0 (t::r)=none):aN z l (D++[⟨Sx.zero,51,z⟩]):=h _ (.ends t r I hc)
abbrev eg (w:World) (l:List aG) (z:Int) (e:Ending) (w':World):Prop:=
 (∃ (A':Option Addr) (c':Nat) (li:List aE),e=.returned (.slice A' li.length c')/\li.length<=l.length/\dm w' w.heap.size A' c' li/\aN z l (li.map aE.pure))/\Below w.heap.size w w'
theorem eg.mk {w w':World} {l:List aG} {z:Int} {A':Option Addr} {r n:Nat} {li:List aE} (hn:li.length=n) (I:n<=l.length) (h:dm w' w.heap.size A' r li) (hs:aN z l (li.map aE.pure)) (hb:Below w.heap.size w w'):eg w l z (.returned (.slice A' n r)) w':=
 ⟨⟨A',r,li,by rw[hn],by omega,h,hs⟩,hb⟩
theorem Cg (w:World) (A:Option Addr) (n c:Nat) (l:List aG) (z:Int) (h:oQ w A n l) (hn:n<=1000000):
  Calls Tryz.prog 132 #[.slice A n c,.int .i64 z] w fun e w'=>eg w l z e w':=by
 obtain⟨bp,ah⟩:∃ bp:Ending->World->Prop,bp=fun e w'=>eg w l z e w':=⟨_,rfl⟩
 rw[<-ah]
 have bP:=Gn ah
 have HH:=Gn h
 clear ah h
 go_enter Tryz.func132,Tryz.ntmps132
 go_wp2
 go_loopw [5,6] (fun ov iv wr=>∃ (i m:Nat) (A':Option Addr) (c':Nat) (li:List aE),i<=n/\m<=i/\iv=.int .i64 (i:Nat)/\ov=.slice A' m c'/\Below w.heap.size w wr/\
  Hid (dm wr w.heap.size A' c' li/\li.length=m/\∀ J,aN z (l.drop i) J->aN z l (li.map aE.pure++J))) (fun _ iv _=>n-(intOf iv).toNat)
 case atStart=>exact⟨0,0,none,0,[],Fz _,Fm _,rfl,rfl,Gp _ _,dm.nil _ _,rfl,fun J hJ=>by rw[Hw] at hJ;exact hJ⟩
 case round=>
  obtain⟨i,m,A',c',li,hi,b9,rfl,rfl,hb,HI⟩:=hrel
  have HB:=Gn hb
  by_cases ao:i<n
  ·obtain⟨b,off,x,rfl,hx,ad,hc⟩:=HH.out.get ao
   obtain⟨z0,z1,z2,z3⟩:=hc wr hb
   obtain⟨xk,xt,V⟩:=x
   obtain⟨U,X,I⟩:=HI.out
   rw[ad] at I
   have cc:(i:Int)<(n:Int):=by omega
   have cf:(0:Int)<=(i:Int):=by omega
   have HO:=Gn U
   have HM:=Gn X
   have b4:Hid (n=l.length):=HH.out.len.symm
   have Q:Hid (∀ o,dm (wr.alloc o) w.heap.size A' c' li/\w.heap.size<=(wr.alloc o).heap.size/\Below w.heap.size w (wr.alloc o)):=fun o=>⟨U.kept ((Gp _ wr).alloc (Fm _) o),Fo hb.size (by simp),hb.alloc hb.size o⟩
   by_cases h2:xk=2
   ·subst h2
    have HN:=Gn (aN.yw I rfl)
    clear U X I HI hb hx ad hc ao
    go_wp2_with (at_builtin;refine eJ _ rfl (.tmp 24) (.tmp 28) rfl w.heap.size A' c' li m HM.out ⟨Sx.zero,none,0,60,V⟩ _ (by simp) rfl (Q.out _).1 ⟨⟨Fm _,Fz _⟩,.nil _⟩ rfl (by omega) (Q.out _).2.1 ?_;intro A3 c3 w3 o3 g3;have O3:=Gn o3;have B3:=Gn ((Q.out _).2.2.grown g3 (Q.out _).2.1 (fun q hq=>(HO.out.lt HM.out hq).1));clear o3 g3)
    go_roundw
    case rel=>exact⟨i+1,m+1,A3,c3,li++[⟨Sx.zero,none,0,60,V⟩],by omega,by omega,by go_num,rfl,B3.out,O3.out,by rw[Gb,HM.out];rfl,by rw[Hf];exact HN.out⟩
    case measure=>simp[intOf];omega
   ·by_cases h1:xk=1
    ·subst h1
     have HC:=Gn fun W (hW:Below w.heap.size w W)=>qs W (some ⟨b,off,none⟩) n c l i (1,xt,V) (HH.out.below hW) hx rfl hn
     cases Z:cJ 0 0 (l.drop i) with
     |none=>
      rw[Z] at HC
      rw[ad] at Z
      have HN:=Gn (aN.Ad I rfl Z)
      clear U X I HI hb hx ad hc ao h2 Z
      go_wp2_with (first
       |(go_at_call 178;refine(HC.out _ (Q.out _).2.2).mono ?_;rintro e w4 ⟨⟨y,rfl⟩,rfl⟩)
       |(at_builtin;refine eJ _ rfl (.tmp 51) (.tmp 54) rfl w.heap.size A' c' li m HM.out ⟨Sx.zero,none,0,51,z⟩ _ (by simp) rfl (Q.out _).1 ⟨⟨Fm _,Fz _⟩,.nil _⟩ rfl (by omega) (Q.out _).2.1 ?_;intro A3 c3 w3 o3 g3;have O3:=Gn o3;have B3:=Gn ((Q.out _).2.2.grown g3 (Q.out _).2.1 (fun q hq=>(HO.out.lt HM.out hq).1));clear o3 g3))
      rw[bP.out]
      exact eg.mk (by rw[Gb,HM.out];rfl) (by have:=b4.out;omega) O3.out (by rw[Hf];exact HN.out) B3.out
     |some sd=>
      obtain⟨s,d⟩:=sd
      rw[Z] at HC
      rw[ad] at Z
      obtain⟨m',M',cb,r,e,bo,bl,rfl,rfl⟩:=rO (o:=(1,xt,V)) rfl Z
      obtain⟨p,hp⟩:∃ p,m'.length=p:=⟨_,rfl⟩
      have hw:=yf (l:=l) (j:=n) (c:=cb) (m:=m') (i:=i+1) (l':=r) (by rw[HH.out.len];exact Fm _) (by rw[Gr (by rw[FU,HH.out.len];omega)];exact e)
      obtain⟨w1,w2,w3,w4⟩:=hw
      have hr:r=l.drop (i+1+p+1):=by
       rw[e,hp] at w4
       have:=List.append_cancel_left w4
       injection this
      rw[e,hr] at I
      rw[hp] at HC w1
      by_cases hd:64<Sx.bf M'+1
      ·have HN:=Gn (aN.zG I rfl bo bl hd)
       obtain⟨dd,ba⟩:∃ d,Sx.bf M'+1=d:=⟨_,rfl⟩
       rw[ba] at HC hd
       have b7:(64:Int)<(dd:Int):=by omega
       have ca:¬(i:Int)+((p:Int)+1)<0:=by omega
       clear U X I HI hb hx ad hc ao h2 Z w2 w3 w4 e hr bl bo ba hp hd
       go_wp2_with (first
        |(go_at_call 178;refine(HC.out _ (Q.out _).2.2).mono ?_;rintro e w4 ⟨⟨y,y',rfl,rfl,rfl⟩,rfl⟩)
        |(at_builtin;refine eJ _ rfl (.tmp 58) (.tmp 62) rfl w.heap.size A' c' li m HM.out ⟨Sx.zero,none,0,2,V⟩ _ (by simp) rfl (Q.out _).1 ⟨⟨Fm _,Fz _⟩,.nil _⟩ rfl (by omega) (Q.out _).2.1 ?_;intro A3 c3 w3 o3 g3;have O3:=Gn o3;have B3:=Gn ((Q.out _).2.2.grown g3 (Q.out _).2.1 (fun q hq=>(HO.out.lt HM.out hq).1));clear o3 g3))
       go_roundw
       case rel=>exact⟨i+1+p+1,m+1,A3,c3,li++[⟨Sx.zero,none,0,2,V⟩],by omega,by omega,by go_num,rfl,B3.out,O3.out,by rw[Gb,HM.out];rfl,by rw[Hf];exact HN.out⟩
       case measure=>simp[intOf];omega
      ·have HN:=Gn (aN.Au I rfl bo bl hd)
       obtain⟨dd,ba⟩:∃ d,Sx.bf M'+1=d:=⟨_,rfl⟩
       rw[ba] at HC hd
       have b7:¬(64:Int)<(dd:Int):=by omega
       have ca:¬(i:Int)+((p:Int)+1)<0:=by omega
       have bb:=fun W (hW:Below w.heap.size w W)=>Ck p W (some ⟨b,off,none⟩) n c l (i+1) (i+1+p) M' (by omega) (HH.out.below hW) hn (by omega) (by omega) (by rw[show i+1+p-(i+1)=p by omega,<-hp,w2];exact bl)
       have b8:((i+1:Nat):Int)=(i:Int)+1:=by omega
       have hq:((i+1+p:Nat):Int)=(i:Int)+((p:Int)+1):=by omega
       have ch:IntKind.i64.wrap ((i:Int)+1)=(i:Int)+1:=GR _ (by omega)
       rw[b8,hq] at bb
       have av:=Gn bb
       clear U X I HI hb hx ad hc ao h2 Z w2 w3 w4 e hr bl bo ba hp hd bb
       go_wp2_with (first
        |(go_at_call 178;refine(HC.out _ (Q.out _).2.2).mono ?_;rintro e w4 ⟨⟨y,y',rfl,rfl,rfl⟩,rfl⟩))
       generalize b3:wr.alloc (Obj.cells #[Value.int IntKind.i64 1,Value.string xt,Value.int IntKind.i64 V] 24)=L
       have O:Hid (Below w.heap.size w L/\aa L wr.heap.size 24 #[Value.int IntKind.i64 1,Value.string xt,Value.int IntKind.i64 V]/\dm L w.heap.size A' c' li/\L.heap.size=wr.heap.size+1):=by
        show _/\_
        rw[<-b3]
        exact⟨(Q.out _).2.2,aa.new _ _ _,(Q.out _).1,by simp⟩
       have a7:Hid (Below L.heap.size L L.drew):=⟨rfl,rfl,rfl,Fm _,fun _ _=>rfl⟩
       have B2:=Gn (O.out.1.trans (a7.out.mono O.out.1.size))
       have KS:Hid (∀ W,Below L.heap.size L W->W.cell? ⟨wr.heap.size,2,none⟩=some (.int .i64 V)/\wr.heap.size<W.heap.size):=fun W hW=>by
        have:=(ae.af (F:=fun _=>False) hW).lies O.out.2.1 id
        exact⟨this.cell 2,this.lt⟩
       have HS:=Gn (KS.out _ a7.out)
       have a1:Hid (∀ o,Below L.heap.size L (L.alloc o).drew/\Below w.heap.size w (L.alloc o).drew/\L.heap.size<=(L.alloc o).drew.heap.size):=fun o=>
        have e:Below L.heap.size L (L.alloc o).drew:=((ae.refl (fun _=>False) L).alloc o).drew.none_ (fun _=>id)
        ⟨e,O.out.1.trans (e.mono O.out.1.size),e.size⟩
       have bz:Hid (∀ o,(L.alloc o).drew.heap.size=L.heap.size+1):=fun o=>by show(L.alloc o).heap.size=_;simp
       have bT:Hid (∀ t cs,aa (L.alloc (.cells cs t)).drew L.heap.size t cs):=fun t cs=>aa.new L t cs
       clear b3 Q
       go_cut [10] (fun s W=>∃ (p:Nat) (A2:Option Addr) (c2:Nat),s=.pointer (some ⟨p,0,none⟩)/\aa W p 27 #[.bool true,.int .i64 0,.string ByteArray.empty,.int .i64 0,.int .i64 V,.slice A2 M'.length c2]/\Below L.heap.size L W/\aJ W (fun b _=>L.heap.size<=b) (Sx.node V M') A2 c2)
       case first=>
        go_region_held3 (fun W'=>W'.cell? ⟨wr.heap.size,2,none⟩=some (.int .i64 V)/\wr.heap.size<W'.heap.size)
         (first|(with_reducible exact HS.out)|(with_reducible exact KS.out _ B3.out)|(with_reducible exact KS.out _ (B3.out.alloc B3.out.size _))|(with_reducible exact KS.out _ (a1.out _).1)|(with_reducible exact KS.out _ (ni B3.out (Fm _) (Fm _))))
         (first
          |(go_at_call 179;(with_reducible refine(av.out _ ?_).mono ?_);(with_reducible exact B2.out);rintro e w5 ⟨⟨A2,c2,rfl,bB,bC,t2⟩,b5⟩;have B3:=Gn (a7.out.trans (b5.mono a7.out.size));have T2:=Gn (Ig (Ig bB bC) t2);clear b5 t2)
          |(go_at_call 179;(with_reducible refine(av.out _ ?_).mono ?_);(with_reducible exact(a1.out _).2.1);rintro e w5 ⟨⟨A2,c2,rfl,bB,bC,t2⟩,b5⟩;have B3:=Gn ((a1.out _).1.trans (b5.mono (a1.out _).2.2));have T2:=Gn (Ig (Ig bB bC) t2);have L5:=(ae.af (F:=fun _=>False) b5).lies (bT.out _ _) id;have l0:=L5.cell 0;have l1:=L5.cell 1;have l2:=L5.cell 2;have l3:=L5.cell 3;have l4:=L5.cell 4;have l5:=L5.cell 5;have f0:=L5.free 0;have f1:=L5.free 1;have f2:=L5.free 2;have f3:=L5.free 3;have f4:=L5.free 4;have f5:=L5.free 5;clear b5 t2))
        case' _=>
         go_wp2_with fail
         go_meet
         exact⟨w5.heap.size,A2,c2,rfl,aa.new _ _ _,B3.out.alloc B3.out.size _,⟨T2.out.1,(T2.out.2.kept ((Gp _ _).alloc (Fm _) _)).mono fun _ _ _ h=>h⟩⟩
        case' _=>
         go_wp2_with fail
         go_meet
         exact⟨L.heap.size,A2,c2,rfl,zf L5 _ _ _ _ _ _,ni B3.out (Fm _) (Fm _),vZ _ _ _ _ _ _ ⟨T2.out.1,T2.out.2⟩ (by rw[bz.out];omega) (by rw[bz.out];omega)⟩
       case rest=>
        obtain⟨g,A2,c2,rfl,hL,bn,bE⟩:=hcut
        have bD:=(ae.af (F:=fun _=>False) bn).lies O.out.2.1 id
        have z0:=bD.lt
        have z2:=bD.cell 2
        have y_:=hL.lt
        have y0:=hL.cell 0
        have y1:=hL.cell 1
        have y2:=hL.cell 2
        have y3:=hL.cell 3
        have y4:=hL.cell 4
        have y5:=hL.cell 5
        simp at z2 y0 y1 y2 y3 y4 y5
        have bL:=Gn (O.out.2.2.1.kept bn)
        have bx:=Gn (O.out.1.trans (bn.mono O.out.1.size))
        have b6:Hid (aJ wc (eV w.heap.size A' m c') (Sx.node V M') A2 c2):=⟨bE.le,bE.tree.mono fun b _ _ hb=>⟨Fo O.out.1.size hb,fun e=>absurd (O.out.2.2.1.lt HM.out e).2 (Nat.not_lt.2 hb)⟩⟩
        clear hL bD bn bE O a7 a1 bT bz KS HS B2 HC av
        go_wp2_with (at_builtin;refine eJ _ rfl (.tmp 72) (.tmp 77) rfl w.heap.size A' c' li m HM.out ⟨Sx.node V M',A2,c2,0,V⟩ _ (by simp) rfl bL.out b6.out rfl (by omega) bx.out.size ?_;intro A3 c3 w3 o3 g3;have O3:=Gn o3;have B3:=Gn (bx.out.grown g3 bx.out.size (fun q hq=>(bL.out.lt HM.out hq).1));clear o3 g3)
        go_roundw
        case rel=>exact⟨i+1+p+1,m+1,A3,c3,li++[⟨Sx.node V M',A2,c2,0,V⟩],by omega,by omega,by go_num,rfl,B3.out,O3.out,by rw[Gb,HM.out];rfl,by rw[Hf];exact HN.out⟩
        case measure=>simp[intOf];omega
    ·have HN:=Gn (aN.Ab I h1 h2)
     have b1:(xk == 2)=false:=Gx.2 h2
     have b2:(xk != 1)=true:=bne_iff_ne.2 h1
     clear U X I HI hb hx ad hc ao h1 h2
     go_wp2_with (at_builtin;refine eJ _ rfl (.tmp 33) (.tmp 41) rfl w.heap.size A' c' li m HM.out ⟨Sx.atom (xk,xt,V),none,0,0,V⟩ _ (by simp) rfl (Q.out _).1 ⟨⟨Fm _,Fz _⟩,.nil _⟩ rfl (by omega) (Q.out _).2.1 ?_;intro A3 c3 w3 o3 g3;have O3:=Gn o3;have B3:=Gn ((Q.out _).2.2.grown g3 (Q.out _).2.1 (fun q hq=>(HO.out.lt HM.out hq).1));clear o3 g3)
     go_roundw
     case rel=>exact⟨i+1,m+1,A3,c3,li++[⟨Sx.atom (xk,xt,V),none,0,0,V⟩],by omega,by omega,by go_num,rfl,B3.out,O3.out,by rw[Gb,HM.out];rfl,by rw[Hf];exact HN.out⟩
     case measure=>simp[intOf];omega
  ·obtain rfl:i=n:=by omega
   obtain⟨U,X,I⟩:=HI.out
   have HE:=Gn (eg.mk (z:=z) (l:=l) X (by rw[HH.out.len];exact b9) U (by have:=I [] (by rw[Gz (by rw[HH.out.len];exact Fm _)];exact .nil);rw[GH] at this;exact this) hb)
   clear U X I HI hb
   go_wp2
   rw[bP.out]
   exact HE.out
section
variable {T : TypeId} {s : Nat} (hT : Tryz.prog.underlying T = some (.slice (Tryz.prog.elem T))) (hz : ∀ W, (sizeOf (Tryz.prog.elem T)).run Tryz.prog W = .ok s W)
include hT hz
theorem Ef {A:Option Addr} {n c k:Nat} (W:World) (hA:A.map (·.add 0)=A) (h:k<=c):(Instr.slice T (.slice A n c) none (some (.int .i64 (k:Nat))) none).run Tryz.prog W=.ok (.slice A k c) W:=by
 rw[run_slice_h W T A n c hT .i64 (k:Nat) (by omega) (by omega),hz]
 simp only[Result.andThen,sliced]
 have e:(if c=0 then A else A.map (·.add (0*s)))=A:=by
  split
  ·rfl
  ·rw[Hx];exact hA
 rw[e]
 simp
end
theorem zE {w:World} {B:Nat} {e:TypeId} {size n:Nat} {A:Option Addr} {c m:Nat} {xs:List Value} (h:w.ownsRow B e size (.slice A m c) n xs):A.map (·.add 0)=A:=by
 rcases h.2 with⟨r,_⟩|⟨g,cap,cur,r,_⟩
 ·injection r with r _ _
  rw[r]
  rfl
 ·injection r with r _ _
  rw[r]
  simp[addr_add]
theorem yF {w:World} {B:Nat} {e:TypeId} {size n k:Nat} {A:Option Addr} {c:Nat} {xs:List Value} (h:w.ownsRow B e size (.slice A n c) n xs) (O:k<=n):w.ownsRow B e size (.slice A k c) k (xs.take (k*size)):=by
 have hl:=h.1
 have J:k*size<=n*size:=FF _ O
 refine⟨by rw[FK];omega,?_⟩
 rcases h.2 with⟨r,h0⟩|⟨g,cap,cur,r,Q,U,q3,V,X,Z⟩
 ·injection r with r L I
  subst r
  subst I
  obtain rfl:k=0:=by omega
  exact .inl ⟨rfl,rfl⟩
 ·injection r with r L I
  subst r
  subst I
  refine .inr ⟨g,c,cur,rfl,Q,U,by omega,V,X,?_⟩
  rw[<-Z,List.take_take,G6 J]
theorem zV (l:List aE) (k:Nat) (r:k<=l.length):(aL l).take (k*8)=aL (l.take k):=by
 have h:aL l=aL (l.take k)++aL (l.drop k):=by rw[aL,<-IH,FM]
 have hl:(aL (l.take k)).length=k*8:=by rw[uG,FK,G6 r]
 rw[h,<-hl,FN]
theorem dm.take {w:World} {B:Nat} {A:Option Addr} {c k:Nat} {l:List aE} (h:dm w B A c l) (r:k<=l.length):dm w B A c (l.take k):=by
 have hl:(l.take k).length=k:=by rw[FK,G6 r]
 refine⟨?_,fun x J=>?_⟩
 ·rw[hl,<-zV l k r]
  exact yF h.row r
 ·have:=h.trees x (GN J)
  refine⟨this.le,this.tree.mono fun b off _ I=>⟨I.1,fun e=>I.2 ?_⟩⟩
  rw[<-e]
  cases A <;> rfl
structure jh (s:ByteArray) (l:List eG) (E:Int) (p:Nat):Prop where
 at_:∀ x∈l,x.2.2<=s.size
 le:p<=s.size
 few:l.length<=4000
 long:16384<s.size->l=[]/\E=2/\p=0
 vM:s.size<=16384->l.map (ee s)=(Lx.lex 4000 s.data.toList).1/\E=(Lx.lex 4000 s.data.toList).2.1/\s.data.toList.drop p=(Lx.lex 4000 s.data.toList).2.2
theorem qz.of {s:ByteArray} {w w':World} {A:Option Addr} {c:Nat} {l:List eG} {E:Int} {p:Nat} (h:qz s w A c l E p w'):jh s l E p:=⟨h.at_,h.le,h.few,h.long,h.vM⟩
theorem dK {a b:ByteArray} (h:a.data.toList=b.data.toList):a=b:=by
 have e:=Array.toList_inj.1 h
 cases a
 cases b
 simp only at e
 rw[e]
theorem jh.uniq {s:ByteArray} {l l':List eG} {E J:Int} {p V:Nat} (h:jh s l E p) (I:jh s l' J V):l=l'/\E=J/\p=V:=by
 by_cases hs:16384<s.size
 ·obtain⟨rfl,rfl,rfl⟩:=h.long hs
  obtain⟨rfl,rfl,rfl⟩:=I.long hs
  exact⟨rfl,rfl,rfl⟩
 ·obtain⟨t1,t2,t3⟩:=h.vM (by omega)
  obtain⟨u1,u2,u3⟩:=I.vM (by omega)
  refine⟨?_,t2.trans u2.symm,kR s h.le I.le (t3.trans u3.symm)⟩
  have hl:∀ (l l':List eG),(∀ x∈l,x.2.2<=s.size)->(∀ x∈l',x.2.2<=s.size)->l.map (ee s)=l'.map (ee s)->l=l':=by
   intro l
   induction l with
   |nil=>
    intro l' _ _ e
    cases l' with
    |nil=>rfl
    |cons y l'=>simp at e
   |cons x l Z=>
    intro l' L O e
    cases l' with
    |nil=>simp at e
    |cons y l'=>
     rw[GK,GK] at e
     injection e with r X
     rw[Z l' (fun z hz=>L z (Gd _ hz)) (fun z hz=>O z (Gd _ hz)) X]
     have x1:=L x Gc
     have y1:=O y Gc
     unfold ee at r
     injection r with Q r
     injection r with U k3
     obtain⟨xk,xt,xa⟩:=x
     obtain⟨yk,yt,ya⟩:=y
     simp only at Q U k3 x1 y1
     rw[Q,dK U,show xa=ya by omega]
  exact hl l l' h.at_ I.at_ (t1.trans u1.symm)
def iT (I:List bZ):List bZ:=if(I.getLast?.map (·.E))=some 51 then I.dropLast else I
def lQ (I:List bZ) (E:Int) (p:Nat):List bZ:=if E=0 then I else iT I++[⟨Sx.zero,E,(p:Int)⟩]
def bW (s:ByteArray) (R:List bZ):Prop:=∃ (l:List eG) (E:Int) (p:Nat) (I:List bZ),jh s l E p/\aN (s.size:Nat) (l.map CP) I/\R=lQ I E p
theorem bW.uniq {s:ByteArray} {R R':List bZ} (h:bW s R) (L:bW s R'):R=R':=by
 obtain⟨l,E,p,I,O,Q,rfl⟩:=h
 obtain⟨l',U,X,V,r,J,rfl⟩:=L
 obtain⟨rfl,rfl,rfl⟩:=O.uniq r
 rw[aN.uniq _ _ _ _ (Fm _) Q J]
abbrev dL (w:World) (s:ByteArray) (e:Ending) (w':World):Prop:=
 (∃ (A':Option Addr) (c':Nat) (li:List aE),e=.returned (.slice A' li.length c')/\li.length<=4001/\dm w' w.heap.size A' c' li/\bW s (li.map aE.pure))/\Below w.heap.size w w'
theorem dL.mk {w w':World} {s:ByteArray} {A':Option Addr} {r n:Nat} {li:List aE} (hn:li.length=n) (I:n<=4001) (h:dm w' w.heap.size A' r li) (hs:bW s (li.map aE.pure)) (hb:Below w.heap.size w w'):dL w s (.returned (.slice A' n r)) w':=
 ⟨⟨A',r,li,by rw[hn],by omega,h,hs⟩,hb⟩
theorem dm.base {w:World} {B B':Nat} {A:Option Addr} {c:Nat} {l:List aE} (h:dm w B A c l) (hb:B'<=B):dm w B' A c l:=by
 refine⟨⟨h.row.1,?_⟩,fun x I=>⟨(h.trees x I).le,(h.trees x I).tree.mono fun b off _ r=>⟨Fo hb r.1,r.2⟩⟩⟩
 rcases h.row.2 with q|⟨g,cap,cur,J,L,O⟩
 ·exact .inl q
 ·exact .inr ⟨g,cap,cur,J,Fo hb L,O⟩
end Go.Proofs.YtdbgiijdgedggaaGreatDoor
namespace Go.Proofs.YtdbgiijdgedggaaGreatDoor
open Go.RowKit
theorem vv (I:List bZ) (p:Nat):lQ I 0 p=I:=by unfold lQ;rw[Fx rfl]
theorem Aa {l:List aE} {n:Nat} (hn:l.length=n+1):∃ x,l[n]?=some x/\l.getLast?=some x:=by
 refine⟨l[n],Ge (by omega),?_⟩
 rw[List.getLast?_eq_getElem?,show l.length-1=n by omega]
 exact Ge (by omega)
theorem rI {l:List aE} {n:Nat} {x:aE} (hn:l.length=n+1) (r:l.getLast?=some x) (h:x.E=51):iT (l.map aE.pure)=(l.take n).map aE.pure:=by
 unfold iT
 rw[List.getLast?_map,r,Fx (by simp[h]),List.map_take,List.dropLast_eq_take,Fi,hn,Ha]
theorem uD {l:List aE} {x:aE} (r:l.getLast?=some x) (h:x.E≠51):iT (l.map aE.pure)=l.map aE.pure:=by
 unfold iT
 rw[List.getLast?_map,r,FQ (by simp[h])]
theorem rm {l:List aE} (hn:l.length=0):iT (l.map aE.pure)=l.map aE.pure:=by
 rw[FV hn]
 rfl
theorem D9 (s:ByteArray) (w:World) (hs:s.size<=4000000):
  Calls Tryz.prog 88 #[.string s] w fun e w'=>dL w s e w':=by
 obtain⟨Z,L⟩:∃ Z:Ending->World->Prop,Z=fun e w'=>dL w s e w':=⟨_,rfl⟩
 rw[<-L]
 have V:=Gn L
 have HL:=Gn (EN s w hs)
 clear L
 go_enter Tryz.func88,Tryz.ntmps88
 go_wp2_with fail
 refine HL.out.mono ?_
 rintro e w1 ⟨A1,c1,l1,E,p,rfl,q1⟩
 have X:=Gn q1
 have hT:=q1.own.vM
 obtain⟨n1,av⟩:∃ n,l1.length=n:=⟨_,rfl⟩
 have h4:=q1.few
 rw[av] at hT h4 ⊢
 have HP:=Gn (Cg w1 A1 n1 c1 (l1.map CP) (s.size:Nat) hT (by omega))
 have Q:Hid (l1.length=n1):=av
 clear q1 hT av HL
 go_wp2_with fail
 refine HP.out.mono ?_
 rintro e w2 ⟨⟨A2,c2,li,rfl,ao,ho,ad⟩,b2⟩
 have hB:Below w.heap.size w w2:=X.out.below.trans (b2.mono X.out.below.size)
 have h:=ho.base X.out.below.size
 rw[Fi,Q.out] at ao
 obtain⟨n,hn⟩:∃ n,li.length=n:=⟨_,rfl⟩
 rw[hn] at ao ⊢
 have I:bW s (lQ (li.map aE.pure) E p):=⟨l1,E,p,_,X.out.of,ad,rfl⟩
 clear HP b2 ad ho
 by_cases hE:E=0
 ·subst hE
  rw[vv] at I
  have HE:=Gn (dL.mk hn (by omega) h I hB)
  clear h I hB hn ao X Q
  go_wp2
  rw[V.out]
  exact HE.out
 ·have bp:(E == 0)=false:=Gx.2 hE
  have U:=Gn hB
  have HN:=Gn hn
  have HO:=Gn h
  have r:Hid (bW s (iT (li.map aE.pure)++[⟨Sx.zero,E,(p:Int)⟩])):=by
   unfold lQ at I
   rw[FQ hE] at I
   exact I
  cases n with
  |zero=>
   have HR:Hid (bW s ((li++[aE.mk Sx.zero none 0 E (p:Int)]).map aE.pure)):=by
    have:=r.out
    rw[rm hn] at this
    show bW _ _
    rw[Hf]
    exact this
   clear h I hB hn X Q hE r
   go_wp2_with (at_builtin;refine eJ _ rfl (.tmp 37) (.tmp 41) rfl w.heap.size A2 c2 li 0 HN.out ⟨Sx.zero,none,0,E,(p:Int)⟩ _ rfl rfl HO.out ⟨⟨Fm _,Fz _⟩,.nil _⟩ rfl (by omega) U.out.size ?_;intro A3 c3 w3 o3 g3;have O3:=Gn o3;have B3:=Gn (U.out.grown g3 U.out.size (fun q hq=>(HO.out.lt HN.out hq).1));clear o3 g3)
   rw[V.out]
   exact dL.mk (by rw[Gb,HN.out];rfl) (by omega) O3.out HR.out B3.out
  |succ n=>
   obtain⟨x,hx,J⟩:=Aa hn
   have hp:=h.parts
   have bb:n<li.length:=by omega
   have bl:=(h.its hn).get (i:=n) (by omega)
   obtain⟨b,off,y,A',c',rfl,hy,_,hs,_,ba,_⟩:=bl
   have a1:y.E=x.E:=by
    rw[Fj,hx] at hy
    injection hy with hy
    rw[<-hy]
   have bx:=hs.lt
   rw[a1] at ba
   have bz:(0:Int)<=(n:Int):=by omega
   have bo:(n:Int)<(n:Int)+1:=by omega
   by_cases O:x.E=51
   ·rw[O] at ba
    have HR:Hid (bW s ((li.take n++[aE.mk Sx.zero none 0 E (p:Int)]).map aE.pure)):=by
     have:=r.out
     rw[rI hn J O] at this
     show bW _ _
     rw[Hf]
     exact this
    have ah:Hid ((li.take n).length=n):=by show _=_;rw[FK,G6 (by omega)]
    have a7:=Gn (h.take (k:=n) (by omega))
    have hcut:=fun W=>Ef (T:=160) (s:=8) Tryz.underlying160 (fun W=>by kernel_rfl) (n:=n+1) (c:=c2) (k:=n) W (zE h.row) (by have:=hp.1;omega)
    clear h I hB hn X Q hE r hp hx J hy hs a1 bb O
    go_wp2_with (at_builtin;refine eJ _ rfl (.tmp 37) (.tmp 41) rfl w.heap.size _ c2 (li.take n) n ah.out ⟨Sx.zero,none,0,E,(p:Int)⟩ _ rfl rfl a7.out ⟨⟨Fm _,Fz _⟩,.nil _⟩ rfl (by omega) U.out.size ?_;intro A3 c3 w3 o3 g3;have O3:=Gn o3;have B3:=Gn (U.out.grown g3 U.out.size (fun q hq=>(a7.out.lt ah.out hq).1));clear o3 g3)
    rw[V.out]
    exact dL.mk (by rw[Gb,ah.out];rfl) (by omega) O3.out HR.out B3.out
   ·have bn:(x.E == 51)=false:=Gx.2 O
    have HR:Hid (bW s ((li++[aE.mk Sx.zero none 0 E (p:Int)]).map aE.pure)):=by
     have:=r.out
     rw[uD J O] at this
     show bW _ _
     rw[Hf]
     exact this
    clear h I hB hn X Q hE r hp hx J hy hs a1 bb O
    go_wp2_with (at_builtin;refine eJ _ rfl (.tmp 37) (.tmp 41) rfl w.heap.size _ c2 li (n+1) HN.out ⟨Sx.zero,none,0,E,(p:Int)⟩ _ rfl rfl HO.out ⟨⟨Fm _,Fz _⟩,.nil _⟩ rfl (by omega) U.out.size ?_;intro A3 c3 w3 o3 g3;have O3:=Gn o3;have B3:=Gn (U.out.grown g3 U.out.size (fun q hq=>(HO.out.lt HN.out hq).1));clear o3 g3)
    rw[V.out]
    exact dL.mk (by rw[Gb,HN.out];rfl) (by omega) O3.out HR.out B3.out
theorem tI (a b:ByteArray):(a.toList == b.toList)=decide (a=b):=by
 rw[GA,GA]
 by_cases e:a=b
 ·subst e
  rw[FW rfl,Gw.2 rfl]
 ·rw[Gq e,Gx]
  exact fun h=>e (dK h)
def Bd.sort (x:Sx):Int×Int:=if x.list=false/\x.k=3 then(if x.T.data.toList=[66,111,111,108] then(1,0) else if x.T.data.toList=[73,110,116] then(2,0) else if x.T.data.toList=[83,116,114,105,110,103] then(3,0) else(0,101)) else(0,101)
theorem zK (w:World) (x:Sx) (A:Option Addr) (c:Nat):
  Calls Tryz.prog 41 #[aX x A c] w fun e w'=>e=.returned (.tuple #[.int .i64 (Bd.sort x).1,.int .i64 (Bd.sort x).2])/\Below w.heap.size w w':=by
 obtain⟨V,O⟩:∃ V,w.alloc (dr x A c)=V:=⟨_,rfl⟩
 have ad:Below w.heap.size w V:=by rw[<-O];exact(Gp _ w).alloc (Fm _) _
 obtain⟨_,b0,I,Z,b3,b4,X⟩:mh V w.heap.size 0 x A c:=by rw[<-O];exact eN w x A c
 simp only[FA] at b0 I Z b3 b4 X
 obtain⟨xn,U⟩:∃ xn,x.L.length=xn:=⟨_,rfl⟩
 have r:=Gn (nY V x A c)
 obtain⟨T,hT⟩:∃ T:ByteArray,(if x.list=false/\x.k=3 then x.T else⟨#[]⟩)=T:=⟨_,rfl⟩
 have hs:Bd.sort x=(if T.data.toList=[66,111,111,108] then((1:Int),(0:Int)) else if T.data.toList=[73,110,116] then(2,0) else if T.data.toList=[83,116,114,105,110,103] then(3,0) else(0,101)):=by
  unfold Bd.sort
  split
  ·rename_i h
   rw[Fx h] at hT
   rw[hT]
  ·rename_i h
   rw[FQ h] at hT
   rw[<-hT]
   rfl
 rw[hs]
 rw[hT] at r
 obtain⟨is,ah⟩:∃ is,decide (x.list=false/\x.k=3)=is:=⟨_,rfl⟩
 rw[ah] at r
 unfold aX at r ⊢
 rw[U] at r X ⊢
 have ao:w.alloc (.cells #[.bool x.list,.int .i64 x.k,.string x.T,.int .i64 x.ta,.int .i64 x.at_,.slice A xn c] 27)=V:=by rw[<-O,<-U]
 have J:=Gn ad
 clear hT hs ah ad O U
 by_cases t1:T.data.toList=[66,111,111,108]
 ·rw[Fx t1]
  have e1:=aq t1
  clear t1
  go_enter Tryz.func41,Tryz.ntmps41
  go_wp2_with fail
  refine r.out.mono ?_
  rintro e w1 ⟨rfl,I⟩
  have Q:=Gn (J.out.trans (I.mono J.out.size))
  clear r I J b0 Z b3 b4 X
  go_wp2
  go_ret2
  exact⟨rfl,Q.out⟩
 rw[FQ t1]
 have e1:=az t1
 clear t1
 by_cases t2:T.data.toList=[73,110,116]
 ·rw[Fx t2]
  have e2:=aq t2
  clear t2
  go_enter Tryz.func41,Tryz.ntmps41
  go_wp2_with fail
  refine r.out.mono ?_
  rintro e w1 ⟨rfl,I⟩
  have Q:=Gn (J.out.trans (I.mono J.out.size))
  clear r I J b0 Z b3 b4 X
  go_wp2
  go_ret2
  exact⟨rfl,Q.out⟩
 rw[FQ t2]
 have e2:=az t2
 clear t2
 by_cases t3:T.data.toList=[83,116,114,105,110,103]
 ·rw[Fx t3]
  have e3:=aq t3
  clear t3
  go_enter Tryz.func41,Tryz.ntmps41
  go_wp2_with fail
  refine r.out.mono ?_
  rintro e w1 ⟨rfl,I⟩
  have Q:=Gn (J.out.trans (I.mono J.out.size))
  clear r I J b0 Z b3 b4 X
  go_wp2
  go_ret2
  exact⟨rfl,Q.out⟩
 rw[FQ t3]
 have e3:=az t3
 clear t3
 go_enter Tryz.func41,Tryz.ntmps41
 go_wp2_with fail
 refine r.out.mono ?_
 rintro e w1 ⟨rfl,I⟩
 have Q:=Gn (J.out.trans (I.mono J.out.size))
 clear r I J b0 Z b3 b4 X
 go_wp2
 go_ret2
 exact⟨rfl,Q.out⟩
structure oe (w:World) (x:Sx) (e:Ending) (w':World):Prop where
 val:∃ A c,e=.returned (aX x A c)/\aJ w' (fun b _=>w.heap.size<=b) x A c
 fM:Below w.heap.size w w'
theorem sW (w:World) (s:ByteArray) (x:Sx) (hs:s.size<=4000000) (h:bW s [⟨x,0,0⟩]):
  Calls Tryz.prog 40 #[.string s] w fun e w'=>oe w x e w':=by
 obtain⟨W0,ao⟩:∃ W0,w.alloc (.cells #[.bool false,.int .i64 0,.string ⟨#[]⟩,.int .i64 0,.int .i64 0,.slice none 0 0] 27)=W0:=⟨_,rfl⟩
 have Q:Below w.heap.size w W0:=by rw[<-ao];exact(Gp _ w).alloc (Fm _) _
 have U:aa W0 w.heap.size 27 #[.bool false,.int .i64 0,.string ByteArray.empty,.int .i64 0,.int .i64 0,.slice none 0 0]:=by rw[<-ao];exact aa.new w _ _
 have ad:W0.heap.size=w.heap.size+1:=by rw[<-ao];simp
 have HR:=Gn (D9 s W0 hs)
 have HH:=Gn h
 have HB:=Gn (Ig Q (Ig U ad))
 obtain⟨Z,I⟩:∃ Z:Ending->World->Prop,Z=fun e w'=>oe w x e w':=⟨_,rfl⟩
 rw[<-I]
 have bx:=Gn I
 clear hs h Q U ad I
 go_enter Tryz.func40,Tryz.ntmps40
 go_wp2_with fail
 refine HR.out.mono ?_
 rintro e O ⟨⟨A1,c1,li,rfl,_,ho,hr⟩,b1⟩
 have hI:=hr.uniq HH.out
 have hl:li.length=1:=by have:=G1 List.length hI;rw[Fi] at this;exact this
 obtain⟨m,rfl⟩:=List.length_eq_one_iff.1 hl
 have hm:m.pure=⟨x,0,0⟩:=by simpa using hI
 obtain⟨mx,mA,mc,mE,ma⟩:=m
 simp only[aE.pure,bZ.mk.injEq] at hm
 obtain⟨rfl,rfl,rfl⟩:=hm
 obtain⟨Q,U,bB⟩:=HB.out
 have hT:=ho.trees _ (F0.2 rfl)
 simp only at hT
 obtain⟨b,rfl,hb,hc⟩:∃ b,A1=some ⟨b,0,none⟩/\b<O.heap.size/\∀ j u,(gj ⟨mx,mA,mc,0,0⟩)[j]?=some u->O.cell? ⟨b,j,none⟩=some u:=by
  have ah:=ho.row
  rcases ah.2 with⟨_,e⟩|⟨g,cap,cur,e,_,hg,_⟩
  ·cases e
  ·injection e with e1 _ _
   refine⟨g,e1,(Fl.1 hg).1,fun j u hu=>?_⟩
   have:=ah.cells (g:=g) (by rw[e1];rfl) j u (by simpa [aL] using hu)
   simpa [addr_add] using this
 have i0:=hc 0 _ rfl
 have i1:=hc 1 _ rfl
 have i2:=hc 2 _ rfl
 have i3:=hc 3 _ rfl
 have i4:=hc 4 _ rfl
 have i5:=hc 5 _ rfl
 have i6:=hc 6 _ rfl
 have bp:=(b1.block _ U.lt).trans U
 have r:aa O w.heap.size 27 #[.bool false,.int .i64 0,.string ⟨#[]⟩,.int .i64 0,.int .i64 0,.slice none 0 0]:=bp
 have fz:=fun j=>r.free j
 have bC:=r.lt
 have HE:Hid (∀ W,Below w.heap.size w W->au W (fun b _=>w.heap.size<=b) mA mx.L->oe w mx (.returned (aX mx mA mc)) W):=fun W hW bz=>⟨⟨mA,mc,rfl,hT.le,bz⟩,hW⟩
 have HT:Hid (au O (fun b _=>w.heap.size<b) mA mx.L):=hT.tree.mono fun b _ _ h=>by have:=h.1;omega
 have bl:Hid (Below w.heap.size w O):=Q.trans (b1.mono Q.size)
 have bo:=Gn r
 obtain⟨xn,bb⟩:∃ xn,mx.L.length=xn:=⟨_,rfl⟩
 obtain⟨xl,ba⟩:∃ xl,mx.list=xl:=⟨_,rfl⟩
 obtain⟨xk,a7⟩:∃ xk,mx.k=xk:=⟨_,rfl⟩
 obtain⟨xT,av⟩:∃ xT,mx.T=xT:=⟨_,rfl⟩
 obtain⟨X,V⟩:∃ X,mx.ta=X:=⟨_,rfl⟩
 obtain⟨xa,a1⟩:∃ xa,mx.at_=xa:=⟨_,rfl⟩
 simp only at i0 i1 i2 i3 i4 i5 i6
 unfold aX at HE
 rw[ba,a7,av,V,a1,bb] at HE
 rw[ba] at i0
 rw[a7] at i1
 rw[av] at i2
 rw[V] at i3
 rw[a1] at i4
 rw[bb] at i5
 have f0:=fz 0
 have f1:=fz 1
 have f2:=fz 2
 have f3:=fz 3
 have f4:=fz 4
 have f5:=fz 5
 have r0:O.cell? ⟨w.heap.size,0,none⟩=some (.bool false):=by rw[r.cell];rfl
 have r1:O.cell? ⟨w.heap.size,1,none⟩=some (.int .i64 0):=by rw[r.cell];rfl
 have r2:O.cell? ⟨w.heap.size,2,none⟩=some (.string ⟨#[]⟩):=by rw[r.cell];rfl
 have r3:O.cell? ⟨w.heap.size,3,none⟩=some (.int .i64 0):=by rw[r.cell];rfl
 have r4:O.cell? ⟨w.heap.size,4,none⟩=some (.int .i64 0):=by rw[r.cell];rfl
 have r5:O.cell? ⟨w.heap.size,5,none⟩=some (.slice none 0 0):=by rw[r.cell];rfl
 have bD:b≠w.heap.size:=fun e=>by
  have h1:=ho.row.lt b rfl
  omega
 clear bp r hT Q U bB b1 hl hI hr ho HH HB HR hc fz ba a7 av V a1 bb
 have J:=(((((bo.out.put 0 (.bool xl)).put 1 (.int .i64 xk)).put 2 (.string xT)).put 3 (.int .i64 X)).put 4 (.int .i64 xa)).put 5 (.slice mA xn mc)
 have s0:=J.cell 0
 have s1:=J.cell 1
 have s2:=J.cell 2
 have s3:=J.cell 3
 have s4:=J.cell 4
 have s5:=J.cell 5
 simp at s0 s1 s2 s3 s4 s5
 have t6:∀ F:Nat->Prop,F w.heap.size->∀ v,ae F v O->ae F v ((((((O.setCell ⟨w.heap.size,0,none⟩ (.bool xl)).setCell ⟨w.heap.size,1,none⟩ (.int .i64 xk)).setCell ⟨w.heap.size,2,none⟩ (.string xT)).setCell ⟨w.heap.size,3,none⟩ (.int .i64 X)).setCell ⟨w.heap.size,4,none⟩ (.int .i64 xa)).setCell ⟨w.heap.size,5,none⟩ (.slice mA xn mc)):=fun F hF v h=>
  (((((h.put (p:=⟨w.heap.size,0,none⟩) (.inl hF) _).put (p:=⟨w.heap.size,1,none⟩) (.inl hF) _).put (p:=⟨w.heap.size,2,none⟩) (.inl hF) _).put (p:=⟨w.heap.size,3,none⟩) (.inl hF) _).put (p:=⟨w.heap.size,4,none⟩) (.inl hF) _).put (p:=⟨w.heap.size,5,none⟩) (.inl hF) _
 have bn:=Gn (HE.out _ ((t6 (fun k=>w.heap.size<=k) (Fm _) w (ae.af bl.out)).below (Fm _) fun _ h=>h) (HT.out.bR (G':=fun b=>w.heap.size<=b) (t6 (fun k=>k=w.heap.size) rfl O (ae.refl _ _)) fun k _ hk=>⟨by omega,by omega⟩))
 clear HE HT bl bo J t6
 go_wp2
 rw[bx.out]
 exact GD (v:=.agg #[.bool xl,.int .i64 xk,.string xT,.int .i64 X,.int .i64 xa,.slice mA xn mc]) (by simp[results,Tryz.results40,go_sem,s0,s1,s2,s3,s4,s5]) rfl bn.out
end Go.Proofs.YtdbgiijdgedggaaGreatDoor
