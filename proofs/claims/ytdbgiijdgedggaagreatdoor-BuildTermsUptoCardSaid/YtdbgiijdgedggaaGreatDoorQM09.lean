import Derived.Test.YtdbgiijdgedggaaGreatDoorQM08
set_option linter.unusedSimpArgs false
set_option linter.unusedVariables false
set_option maxRecDepth 100000
set_option maxHeartbeats 25600000
namespace Go.Proofs.YtdbgiijdgedggaaGreatDoor
open Go.RowKit
def Tm.bs (L:List Nat):ByteArray:=⟨(L.map UInt8.ofNat).toArray⟩
theorem Tm.fT (L:List Nat):(Tm.bs L).size=L.length:=by unfold Tm.bs;rw[ByteArray.size];simp
theorem Tm.jS {L:List Nat} {k:Nat} (h:k<(Tm.bs L).size) (I:∀ c∈L,c<256):((Tm.bs L)[k]'h).toNat=L.getD k 0:=by
 have r:k<L.length:=by rwa [Tm.fT] at h
 have e:(Tm.bs L)[k]'h=UInt8.ofNat (L[k]):=by
  show(Tm.bs L).data[k]'(by unfold Tm.bs;simpa using r)=_
  simp[Tm.bs]
 rw[e,G3,Ge r,G0]
 have:=I L[k] (Gf r)
 simp
 omega
theorem Tm.od (L:List Nat) (c:Nat):(Tm.bs (L++[c])).extract 0 L.length=Tm.bs L:=by
 refine ByteArray.ext ?_
 rw[ByteArray.data_extract]
 unfold Tm.bs
 rw[Hf]
 apply Array.toList_inj.1
 rw[Array.toList_extract]
 show List.take _ (List.drop 0 _)=_
 rw[Hw,Nat.sub_zero]
 exact List.take_left' (by rw[Fi])
theorem Tm.vS {op:Int} {w:List Nat} {more:Bool} {own:Nat} (h:Tm.asks op=some (w,more,own)):
  1<=w.length/\w.length<=3/\(∀ c∈w,c=66\/c=73\/c=83\/c=97\/c=61)/\(own=66\/own=73\/own=83\/own=61):=by
 have key:∀ (x:List Nat×Bool×Nat),some x=some (w,more,own)->(1<=x.1.length/\x.1.length<=3/\(∀ c∈x.1,c=66\/c=73\/c=83\/c=97\/c=61)/\(x.2.2=66\/x.2.2=73\/x.2.2=83\/x.2.2=61))->1<=w.length/\w.length<=3/\(∀ c∈w,c=66\/c=73\/c=83\/c=97\/c=61)/\(own=66\/own=73\/own=83\/own=61):=fun x e I=>by
  obtain rfl:=Fk e
  exact I
 by_cases r:6<=op/\op<=30
 ·have:op=6\/op=7\/op=8\/op=9\/op=10\/op=11\/op=12\/op=13\/op=14\/op=15\/op=16\/op=17\/op=18\/op=19\/op=20\/op=21\/op=22\/op=23\/op=24\/op=25\/op=26\/op=27\/op=28\/op=29\/op=30:=by omega
  rcases this with rfl|rfl|rfl|rfl|rfl|rfl|rfl|rfl|rfl|rfl|rfl|rfl|rfl|rfl|rfl|rfl|rfl|rfl|rfl|rfl|rfl|rfl|rfl|rfl|rfl
  all_goals exact key _ h (by decide)
 ·rw[Tm.ei r] at h
  cases h
theorem Tm.sr {op:Int} {w:List Nat} {more:Bool} {own:Nat} (h:Tm.asks op=some (w,more,own)):Tm.ju op=Tm.bs (w++if more=true then[43] else[])/\Tm.rp op=Tm.bs [own]:=by
 unfold Tm.ju Tm.rp
 rw[h]
 exact⟨rfl,rfl⟩
theorem de {T:ByteArray} (h:0<T.size):T.toList.isEmpty=false:=by
 rw[GA,List.isEmpty_eq_false_iff]
 intro e
 have:=G1 List.length e
 rw[Fv] at this
 have r:T.data.size=T.size:=rfl
 have I:T.data.size=0:=this
 omega
theorem oY (w:World) {ops:Array Oper} {rest:List Oper} {o:Oper} {a:Act} {Q:Exit->Act->World->Prop} (r:o.guard=none) (x:Operand)
  (Z:o.op=.call { callee:=.builtin .append,args:=#[.const (.slice none 0 0),x],argTypes:=#[44,44] }) (A:Option Addr) (n c:Nat) (R:List Int)
  (hx:a.eval x=.slice A n c) (I:aH w A n R) (hA:A=none->n=0/\c=0) (hn:n<=1000000)
  (h:∀ A' L w',dV w' w.heap.size A' L R->Below w.heap.size w w'->wpList Tryz.prog ops Q rest (a.put o.dst (.slice A' n L)) w'):
  wpList Tryz.prog ops Q (o::rest) a w:=by
 obtain⟨i0,hi,O,U,V⟩:=Gj B5
 cases A with
 |none=>
  obtain⟨rfl,rfl⟩:=hA rfl
  obtain rfl:R=[]:=FV I.len
  exact Hv r _ x 44 Z w.heap.size 3 i0 1 Tryz.underlying44 hi (.slice none 0 0) 0 [] rfl (Gg _ _ _ _) hx (h none 0 w (dV.nil _ _) (Gp _ _))
 |some ad=>
  refine Fw w r _ x 44 Z w.heap.size 3 i0 (.int .i64 0) 1 8 Tryz.underlying44 hi O U V rfl (by decide) (.slice none 0 0) 0 [] rfl (Gg _ _ _ _)
   ad n c (cH R) hx (by rw[Fi,I.len];omega) (fun j u hu=>?_) (fun u hu=>by obtain⟨z,_,rfl⟩:=Hh.1 hu;rfl) (by unfold maxLen;omega) (by omega) (Fm _) fun v' w' X J _ _=>?_
  ·rw[Fj] at hu
   obtain⟨z,hz,rfl⟩:=FT.1 hu
   obtain⟨b,off,e,_,hc⟩:=I.at_ (by have:=I.len;have:=(Fg.1 hz).1;omega)
   obtain rfl:=Fk e
   rw[addr_add]
   exact hc j z hz
  ·simp only[FA,FY] at X
   obtain⟨A',L,rfl⟩:=aI X
   have hl:=I.len
   subst hl
   exact h A' L w' X ⟨J.os,J.tape,J.output,J.size,fun k hk=>J.block k hk (by simp[Value.ownBlock])⟩
theorem D4 (w:World) (A:Option Addr) (n c:Nat) (l:List Nd) (op:Int) (B:Option Addr) (m d:Nat) (a:List Int) {G:Nat->Prop} (h:bO w G A n c l) (hI:Tm.Inv l) (ha:aH w B m a) (hB:B=none->m=0/\d=0) (hn:n<=30000) (hm:m<=1000):
  Calls Tryz.prog 140 #[.slice A n c,.int .i64 op,.slice B m d] w fun e w'=>cO w G (Tm.app l op a) e w':=by
 have HK:=Gn (Cv op w)
 have hl:=h.len
 have cy:=ha.len
 have bC:Hid (∀ (e:Int) W,Tm.app l op a=(l,0,e)->Below w.heap.size w W->cO w G (Tm.app l op a) (.returned (.tuple #[.slice A n c,.int .i64 0,.int .i64 e])) W):=fun e W he hW=>by
  rw[he]
  exact⟨⟨A,c,by rw[hl],by rw[hl];exact(h.below hW).mono fun _=> .inl⟩,hW⟩
 obtain⟨bD,cv⟩:∃ bD:Ending->World->Prop,bD=fun e w'=>cO w G (Tm.app l op a) e w':=⟨_,rfl⟩
 have cb:Hid (∀ e W,cO w G (Tm.app l op a) e W->bD e W):=fun e W h=>by rw[cv];exact h
 rw[<-cv]
 clear cv
 cases bL:Tm.asks op with
 |none=>
  have e1:Tm.ju op=⟨#[]⟩:=by unfold Tm.ju;rw[bL]
  rw[e1] at HK
  have HE:=Gn fun W hW=>cb.out _ W (bC.out 101 W (by unfold Tm.app;rw[bL]) hW)
  clear h ha hB bL bC cb e1 hI
  go_enter Tryz.func140,Tryz.ntmps140
  go_wp2_with fail
  refine HK.out.mono ?_
  rintro e w1 ⟨rfl,rfl⟩
  clear HK
  go_wp2_with fail
  first|exact HE.out _ (Gp _ _)|exact GD (by simp[results,Tryz.results140,go_sem]) rfl (HE.out _ (Gp _ _))
 |some q=>
  obtain⟨wl,more,own⟩:=q
  obtain⟨hQ,hR,wc,ow⟩:=Tm.vS bL
  obtain⟨eW,eO⟩:=Tm.sr bL
  rw[eW,eO] at HK
  clear eW eO
  obtain⟨k,hk⟩:∃ k,wl.length=k:=⟨_,rfl⟩
  rw[hk] at hQ hR
  obtain⟨T,hT⟩:∃ T,T=Tm.bs wl:=⟨_,rfl⟩
  have h8:T.size=k:=by rw[hT,Tm.fT,hk]
  have cc:Hid (∀ i (h:i<T.size),(T[i]'h).toNat=wl.getD i 0):=fun i h=>by
   subst hT
   exact Tm.jS h fun c hc=>by have:=wc c hc;omega
  obtain⟨O,hO⟩:∃ O,O=Tm.bs [own]:=⟨_,rfl⟩
  rw[<-hO] at HK
  have h7:O.size=1:=by rw[hO,Tm.fT];rfl
  have b4:Hid (∀ (h:0<O.size),(O[0]'h).toNat=own):=fun h=>by
   subst hO
   exact Tm.jS h fun c hc=>by rw[F0.1 hc];omega
  have bp:Hid ((O.toList == [61])=decide (own=61)):=by
   show(O.toList == [61])=decide (own=61)
   rw[hO,GA]
   rcases ow with rfl|rfl|rfl|rfl <;> decide
  have bE:Tm.app l op a=if a.length<wl.length\/(wl.length<a.length/\more=false)\/200<a.length then(l,0,1) else if Tm.ct l a=false then(l,0,1)
    else if Tm.fU wl 0 63 (a.map (Tm.a6 l))=false then(l,0,90) else if op=17/\1<Tm.free l a then(l,0,101) else Tm.add l (Tm.node op own l a):=by
   unfold Tm.app
   rw[bL]
  rw[cy,hk] at bE
  have HG:=Gn (Ig h (Ig hI (Ig ha hB)))
  have bP:=Gn (Ig wc ow)
  have Q:=Gn (Ig hk cy)
  by_cases av:m<k\/(k<m/\more=false)\/200<m
  case pos=>
   have HE:=Gn fun W hW=>cb.out _ W (bC.out 1 W (by rw[bE,Fx av]) hW)
   clear h hI ha hB bC cb bE hO bL wc ow cy hk hl b4 bp HG
   have hK:(more=true/\m<k)\/(more=true/\k<m/\200<m)\/(more=false/\m<k)\/(more=false/\k<m):=by
    cases more
    ·rcases GX m k with e|e
     ·exact .inr (.inr (.inl ⟨rfl,e⟩))
     ·exact .inr (.inr (.inr ⟨rfl,by simp at av;omega⟩))
    ·rcases GX m k with e|e
     ·exact .inl ⟨rfl,e⟩
     ·exact .inr (.inl ⟨rfl,by simp at av;omega,by simp at av;omega⟩)
   clear av
   rcases hK with⟨rfl,bx⟩|⟨rfl,bx⟩|⟨rfl,bx⟩|⟨rfl,bx⟩
   ·have dS:decide ((m:Int)<(k:Int))=true:=FW (by omega)
    have ea:decide (m<k)=true:=FW (by omega)
    obtain⟨W,hW⟩:∃ W,W=Tm.bs (wl++[43]):=⟨_,rfl⟩
    obtain⟨z,cj⟩:∃ z,W.size=z:=⟨_,rfl⟩
    have cz:z=k+1:=by rw[<-cj,hW,Tm.fT,Gb,Q.out.1];rfl
    have ch:W.toList.isEmpty=false:=de (by omega)
    have J:k<W.size:=by omega
    have bT:(W[k]'J).toNat=43:=by
     subst hW
     have hk:=Q.out.1
     rw[Tm.jS J (fun c hc=>by
      rcases F7.1 hc with hc|hc
      ·have:=bP.out.1 c hc
       omega
      ·rw[F0.1 hc]
       decide)]
     rw[G3,Ga (by omega),hk]
     simp
    have hcut:W.extract 0 k=T:=by rw[hW,hT,<-Q.out.1,Tm.od]
    have cX:wrap64 ((z:Int)-1)=(k:Int):=by rw[Ij _ (by omega)];omega
    have cf:(0:Int)<=(k:Int):=by omega
    have bo:(k:Int)<(z:Int):=by omega
    have Z:Tm.bs (wl++if true=true then[43] else[])=W:=by rw[hW];rfl
    rw[Z] at HK
    clear hW Z hT cz bx
    go_enter Tryz.func140,Tryz.ntmps140
    go_wp2_with fail
    refine HK.out.mono ?_
    rintro e w1 ⟨rfl,rfl⟩
    clear HK
    go_wp2_with fail
    have HF:=HE.out _ (Gp _ _)
    first|exact HF|exact GD (by simp[results,Tryz.results140,go_sem]) rfl HF
   ·have dS:decide ((m:Int)<(k:Int))=false:=Gq (by omega)
    have ea:decide (m<k)=false:=Gq (by omega)
    have gA:decide ((k:Int)<(m:Int))=true:=FW (by omega)
    have hh:decide (k<m)=true:=FW (by omega)
    have hX:decide ((200:Int)<(m:Int))=true:=FW (by omega)
    have hY:decide (200<m)=true:=FW (by omega)
    obtain⟨W,hW⟩:∃ W,W=Tm.bs (wl++[43]):=⟨_,rfl⟩
    obtain⟨z,cj⟩:∃ z,W.size=z:=⟨_,rfl⟩
    have cz:z=k+1:=by rw[<-cj,hW,Tm.fT,Gb,Q.out.1];rfl
    have ch:W.toList.isEmpty=false:=de (by omega)
    have J:k<W.size:=by omega
    have bT:(W[k]'J).toNat=43:=by
     subst hW
     have hk:=Q.out.1
     rw[Tm.jS J (fun c hc=>by
      rcases F7.1 hc with hc|hc
      ·have:=bP.out.1 c hc
       omega
      ·rw[F0.1 hc]
       decide)]
     rw[G3,Ga (by omega),hk]
     simp
    have hcut:W.extract 0 k=T:=by rw[hW,hT,<-Q.out.1,Tm.od]
    have cX:wrap64 ((z:Int)-1)=(k:Int):=by rw[Ij _ (by omega)];omega
    have cf:(0:Int)<=(k:Int):=by omega
    have bo:(k:Int)<(z:Int):=by omega
    have Z:Tm.bs (wl++if true=true then[43] else[])=W:=by rw[hW];rfl
    rw[Z] at HK
    clear hW Z hT cz bx
    go_enter Tryz.func140,Tryz.ntmps140
    go_wp2_with fail
    refine HK.out.mono ?_
    rintro e w1 ⟨rfl,rfl⟩
    clear HK
    go_wp2_with fail
    have HF:=HE.out _ (Gp _ _)
    first|exact HF|exact GD (by simp[results,Tryz.results140,go_sem]) rfl HF
   ·have dS:decide ((m:Int)<(k:Int))=true:=FW (by omega)
    have ea:decide (m<k)=true:=FW (by omega)
    have Z:Tm.bs (wl++if false=true then[43] else[])=T:=by rw[hT];simp
    rw[Z] at HK
    have ch:T.toList.isEmpty=false:=de (by omega)
    have J:k-1<T.size:=by omega
    have cf:(0:Int)<=(k:Int)-1:=by omega
    have bo:(k:Int)-1<(k:Int):=by omega
    have bT:(((T[k-1]'J).toNat:Int) == 43)=false:=by
     have h1:=cc.out (k-1) J
     have h2:k-1<wl.length:=by rw[Q.out.1];omega
     rw[G3,Ge h2,G0] at h1
     have h3:=bP.out.1 _ (Gf h2)
     refine Gx.2 ?_
     omega
    obtain⟨gf,b8⟩:∃ y,(T[k-1]'J).toNat=y:=⟨_,rfl⟩
    rw[b8] at bT
    clear Z hT bx
    go_enter Tryz.func140,Tryz.ntmps140
    go_wp2_with fail
    refine HK.out.mono ?_
    rintro e w1 ⟨rfl,rfl⟩
    clear HK
    go_wp2_with fail
    have HF:=HE.out _ (Gp _ _)
    first|exact HF|exact GD (by simp[results,Tryz.results140,go_sem]) rfl HF
   ·have dS:decide ((m:Int)<(k:Int))=false:=Gq (by omega)
    have ea:decide (m<k)=false:=Gq (by omega)
    have gA:decide ((k:Int)<(m:Int))=true:=FW (by omega)
    have hh:decide (k<m)=true:=FW (by omega)
    have Z:Tm.bs (wl++if false=true then[43] else[])=T:=by rw[hT];simp
    rw[Z] at HK
    have ch:T.toList.isEmpty=false:=de (by omega)
    have J:k-1<T.size:=by omega
    have cf:(0:Int)<=(k:Int)-1:=by omega
    have bo:(k:Int)-1<(k:Int):=by omega
    have bT:(((T[k-1]'J).toNat:Int) == 43)=false:=by
     have h1:=cc.out (k-1) J
     have h2:k-1<wl.length:=by rw[Q.out.1];omega
     rw[G3,Ge h2,G0] at h1
     have h3:=bP.out.1 _ (Gf h2)
     refine Gx.2 ?_
     omega
    obtain⟨gf,b8⟩:∃ y,(T[k-1]'J).toNat=y:=⟨_,rfl⟩
    rw[b8] at bT
    clear Z hT bx
    go_enter Tryz.func140,Tryz.ntmps140
    go_wp2_with fail
    refine HK.out.mono ?_
    rintro e w1 ⟨rfl,rfl⟩
    clear HK
    go_wp2_with fail
    have HF:=HE.out _ (Gp _ _)
    first|exact HF|exact GD (by simp[results,Tryz.results140,go_sem]) rfl HF
  case neg=>
  have c7:Hid (Tm.ct l a=false->∀ W,Below w.heap.size w W->bD (.returned (.tuple #[.slice A n c,.int .i64 0,.int .i64 1])) W):=fun h1 W hW=>cb.out _ W (bC.out 1 W (by rw[bE,FQ av,Fx h1]) hW)
  have cl:Hid (Tm.ct l a=true->Tm.fU wl 0 63 (a.map (Tm.a6 l))=false->∀ W,Below w.heap.size w W->bD (.returned (.tuple #[.slice A n c,.int .i64 0,.int .i64 90])) W):=fun h1 h2 W hW=>cb.out _ W (bC.out 90 W (by rw[bE,FQ av,FQ (by rw[h1];decide),Fx h2]) hW)
  have b2:Hid (Tm.ct l a=true->Tm.fU wl 0 63 (a.map (Tm.a6 l))=true->op=17/\1<Tm.free l a->∀ W,Below w.heap.size w W->bD (.returned (.tuple #[.slice A n c,.int .i64 0,.int .i64 101])) W):=fun h1 h2 h3 W hW=>cb.out _ W (bC.out 101 W (by rw[bE,FQ av,FQ (by rw[h1];decide),FQ (by rw[h2];decide),Fx h3]) hW)
  have HAdd:Hid (Tm.ct l a=true->Tm.fU wl 0 63 (a.map (Tm.a6 l))=true->¬(op=17/\1<Tm.free l a)->∀ e W W',Below w.heap.size w W->cO W (fun k=>G k\/w.heap.size<=k) (Tm.add l (Tm.node op own l a)) e W'->bD e W'):=fun h1 h2 h3 e W W' hW hA=>cb.out _ W' (by
   rw[bE,FQ av,FQ (by rw[h1];decide),FQ (by rw[h2];decide),FQ h3]
   exact hA.up hW fun _=>id)
  have hZ:decide ((m:Int)<(k:Int))=false:=Gq (by omega)
  have h4:decide (m<k)=false:=Gq (by omega)
  have h5:decide ((200:Int)<(m:Int))=false:=Gq (by omega)
  have h6:decide (200<m)=false:=Gq (by omega)
  clear h hI ha hB bC cb bE hO bL wc ow cy hk hl
  have hJ:(more=true/\k<m)\/(more=true/\k=m)\/(more=false/\k=m):=by
   cases more
   ·exact .inr (.inr ⟨rfl,by simp at av;omega⟩)
   ·rcases GX k m with e|e
    ·exact .inl ⟨rfl,e⟩
    ·exact .inr (.inl ⟨rfl,by omega⟩)
  clear av
  rcases hJ with⟨rfl,bx⟩|⟨rfl,bx⟩|⟨rfl,bx⟩
  case' inl=>
   have e8:decide ((k:Int)<(m:Int))=true:=FW (by omega)
   have e9:decide (k<m)=true:=FW (by omega)
   obtain⟨W,hW⟩:∃ W,W=Tm.bs (wl++[43]):=⟨_,rfl⟩
   obtain⟨z,cj⟩:∃ z,W.size=z:=⟨_,rfl⟩
   have cz:z=k+1:=by rw[<-cj,hW,Tm.fT,Gb,Q.out.1];rfl
   have ch:W.toList.isEmpty=false:=de (by omega)
   have J:k<W.size:=by omega
   have bT:(W[k]'J).toNat=43:=by
    subst hW
    have hk:=Q.out.1
    rw[Tm.jS J (fun c hc=>by
     rcases F7.1 hc with hc|hc
     ·have:=bP.out.1 c hc
      omega
     ·rw[F0.1 hc]
      decide)]
    rw[G3,Ga (by omega),hk]
    simp
   have hcut:W.extract 0 k=T:=by rw[hW,hT,<-Q.out.1,Tm.od]
   have cX:wrap64 ((z:Int)-1)=(k:Int):=by rw[Ij _ (by omega)];omega
   have cf:(0:Int)<=(k:Int):=by omega
   have bo:(k:Int)<(z:Int):=by omega
   have Z:Tm.bs (wl++if true=true then[43] else[])=W:=by rw[hW];rfl
   rw[Z] at HK
   clear hW Z hT cz bx
   go_enter Tryz.func140,Tryz.ntmps140
   go_wp2_with fail
   refine HK.out.mono ?_
   rintro e w1 ⟨rfl,rfl⟩
   clear HK
   go_wp2_with fail
   clear cX hcut bT ch J cf bo cj
  case' inr.inl=>
   have e8:decide ((k:Int)<(m:Int))=false:=Gq (by omega)
   have e9:decide (k<m)=false:=Gq (by omega)
   obtain⟨W,hW⟩:∃ W,W=Tm.bs (wl++[43]):=⟨_,rfl⟩
   obtain⟨z,cj⟩:∃ z,W.size=z:=⟨_,rfl⟩
   have cz:z=k+1:=by rw[<-cj,hW,Tm.fT,Gb,Q.out.1];rfl
   have ch:W.toList.isEmpty=false:=de (by omega)
   have J:k<W.size:=by omega
   have bT:(W[k]'J).toNat=43:=by
    subst hW
    have hk:=Q.out.1
    rw[Tm.jS J (fun c hc=>by
     rcases F7.1 hc with hc|hc
     ·have:=bP.out.1 c hc
      omega
     ·rw[F0.1 hc]
      decide)]
    rw[G3,Ga (by omega),hk]
    simp
   have hcut:W.extract 0 k=T:=by rw[hW,hT,<-Q.out.1,Tm.od]
   have cX:wrap64 ((z:Int)-1)=(k:Int):=by rw[Ij _ (by omega)];omega
   have cf:(0:Int)<=(k:Int):=by omega
   have bo:(k:Int)<(z:Int):=by omega
   have Z:Tm.bs (wl++if true=true then[43] else[])=W:=by rw[hW];rfl
   rw[Z] at HK
   clear hW Z hT cz bx
   go_enter Tryz.func140,Tryz.ntmps140
   go_wp2_with fail
   refine HK.out.mono ?_
   rintro e w1 ⟨rfl,rfl⟩
   clear HK
   go_wp2_with fail
   clear cX hcut bT ch J cf bo cj
  case' inr.inr=>
   have e8:decide ((k:Int)<(m:Int))=false:=Gq (by omega)
   have e9:decide (k<m)=false:=Gq (by omega)
   have Z:Tm.bs (wl++if false=true then[43] else[])=T:=by rw[hT];simp
   rw[Z] at HK
   have ch:T.toList.isEmpty=false:=de (by omega)
   have J:k-1<T.size:=by omega
   have cf:(0:Int)<=(k:Int)-1:=by omega
   have bo:(k:Int)-1<(k:Int):=by omega
   have bT:(((T[k-1]'J).toNat:Int) == 43)=false:=by
    have h1:=cc.out (k-1) J
    have h2:k-1<wl.length:=by rw[Q.out.1];omega
    rw[G3,Ge h2,G0] at h1
    have h3:=bP.out.1 _ (Gf h2)
    refine Gx.2 ?_
    omega
   obtain⟨gf,b8⟩:∃ y,(T[k-1]'J).toNat=y:=⟨_,rfl⟩
   rw[b8] at bT
   clear Z hT bx
   go_enter Tryz.func140,Tryz.ntmps140
   go_wp2_with fail
   refine HK.out.mono ?_
   rintro e w1 ⟨rfl,rfl⟩
   clear HK
   go_wp2_with fail
   clear bT ch b8 cf bo J
  all_goals
   go_loopw [12] (fun iv wr=>∃ i:Nat,i<=m/\iv=.int .i64 (i:Nat)/\w1=wr/\Hid (∀ p∈a.take i,0<=p/\p<n)) (fun iv _=>m-(intOf iv).toNat)
   case atStart=>exact⟨0,Fz _,rfl,rfl,fun p hp=>by simp at hp⟩
   case round=>
    obtain⟨i,hi,rfl,rfl,HA⟩:=hrel
    by_cases cN:i<m
    ·have cP:(i:Int)<(m:Int):=by omega
     have hE:(0:Int)<=(i:Int):=by omega
     obtain⟨b,off,x,rfl,hx,_,_,hc⟩:=HG.out.2.2.1.get cN
     have cx:=(hc w1 (Gp _ _)).2
     have bz:=Gn (take_one hx)
     have fE:=Gn hx
     clear hx hc
     by_cases cY:0<=x/\x<n
     ·have x0:decide (x<0)=false:=Gq (by omega)
      have x1:decide ((n:Int)<=x)=false:=Gq (by omega)
      have gg:Hid (∀ p∈a.take (i+1),0<=p/\p<n):=by
       show ∀ p∈a.take (i+1),0<=p/\p<n
       rw[bz.out]
       intro p hp
       rcases F7.1 hp with hp|hp
       ·exact HA.out p hp
       ·rw[F0.1 hp]
        exact cY
      have hG:IntKind.i64.wrap ((i:Int)+1)=(i:Int)+1:=GR _ (by omega)
      clear cY HA HG c7 cl b2 HAdd cc b4 bp bP Q
      go_wp2
      go_roundw
      case rel=>exact⟨i+1,by omega,by go_num,by first|trivial|rfl,gg.out⟩
      case measure=>simp[intOf];omega
     ·have HE:=Gn (c7.out (by
       rw[GU]
       intro e
       have:=Tm.bV e x (FP fE.out)
       rw[HG.out.1.len] at this
       exact cY this) w1 (Gp _ _))
      clear HA HG c7 cl b2 HAdd cc b4 bp bP Q bz fE
      by_cases dN:x<0
      ·have x0:decide (x<0)=true:=FW dN
       clear cY dN
       go_wp2
       first|exact HE.out|exact GD (by simp[results,Tryz.results140,go_sem]) rfl HE.out
      ·have x0:decide (x<0)=false:=Gq dN
       have x1:decide ((n:Int)<=x)=true:=FW (by omega)
       clear cY dN
       go_wp2
       first|exact HE.out|exact GD (by simp[results,Tryz.results140,go_sem]) rfl HE.out
    ·obtain rfl:m=i:=by omega
     have cE:Hid (Tm.ct l a=true):=by
      show Tm.ct l a=true
      refine Gt.2 fun p hp=>FW ?_
      rw[HG.out.1.len]
      refine HA.out p ?_
      rw[<-Q.out.2,Ib]
      exact hp
     clear HA c7 cN hi
     go_wp2
     go_loopw [13,14,15] (fun lv fv iv wr=>∃ (i last fr:Nat),i<=m/\lv=.int .u8 (last:Nat)/\fv=.int .i64 (fr:Nat)/\iv=.int .i64 (i:Nat)/\Hid (Below w1.heap.size w1 wr/\Tm.fU wl 0 63 ((a.take i).map (Tm.a6 l))=true/\last=((a.take i).map (Tm.a6 l)).getLast?.getD 63/\fr=Tm.free l (a.take i)/\fr<=i)) (fun _ _ iv _=>m-(intOf iv).toNat)
     case atStart=>exact⟨0,63,0,Fz _,rfl,rfl,rfl,Gp _ _,rfl,rfl,rfl,Fm _⟩
     case round=>
      obtain⟨i,last,fr,hi,rfl,rfl,rfl,HI⟩:=hrel
      by_cases cN:i<m
      ·have cP:(i:Int)<(m:Int):=by omega
       have hE:(0:Int)<=(i:Int):=by omega
       obtain⟨bB,oB,x,rfl,hx,ga,_,hc⟩:=HG.out.2.2.1.get cN
       have fR:=Tm.bV cE.out x ga
       rw[HG.out.1.len] at fR
       obtain⟨p,rfl⟩:∃ p:Nat,x=(p:Int):=⟨x.toNat,by omega⟩
       have e5:p<n:=by omega
       have iI:(0:Int)<=(p:Int):=by omega
       have hV:(p:Int)<(n:Int):=by omega
       obtain⟨bA,oA,y,P,rfl,hy,hD,hP,fa⟩:=HG.out.1.get e5
       have cx:=(hc wr HI.out.1).2
       have cs:=(fa wr HI.out.1).2.1
       have e7:=HG.out.2.1.sort y (FP hy)
       obtain⟨lt,cF⟩:∃ lt,Tm.letter y.sort=lt:=⟨_,rfl⟩
       have X:Hid (Calls Tryz.prog 183 #[.int .i64 y.sort] wr fun e w'=>e=.returned (.int .u8 (lt:Nat))/\w'=wr):=by
        have:=xY y.sort e7.1 e7.2 wr
        rw[cF] at this
        exact this
       obtain⟨g,hg⟩:∃ g,Tm.isNum l (p:Int)=g:=⟨_,rfl⟩
       have ao:=Gn (yZ wr _ n c l (HG.out.1.below HI.out.1) HG.out.2.1 p e5)
       rw[hg] at ao
       have fx:Tm.a6 l (p:Int)=lt:=by unfold Tm.a6;rw[Ih,hy];exact cF
       obtain⟨j,hj⟩:∃ j,(if i<k then i else k-1)=j:=⟨_,rfl⟩
       have ff:j<k:=by rw[<-hj];split <;> omega
       obtain⟨q,hq⟩:∃ q,Tm.want wl i=q:=⟨_,rfl⟩
       have hr:(T[j]'(by omega)).toNat=q:=by
        rw[cc.out j,<-hq,Tm.want,Q.out.1,hj]
       have hL:q=66\/q=73\/q=83\/q=97\/q=61:=by
        have:=hr
        rw[cc.out j,G3,Ge (by rw[Q.out.1];exact ff),G0] at this
        have:=bP.out.1 _ (Gf (by rw[Q.out.1];exact ff))
        omega
       have bz:(a.take (i+1)).map (Tm.a6 l)=(a.take i).map (Tm.a6 l)++[lt]:=by rw[take_one hx,Hf,GK,fx];rfl
       have cR:Tm.fU wl 0 63 ((a.take (i+1)).map (Tm.a6 l))=Tm.cG q last lt:=by
        rw[bz,Tm.uh,HI.out.2.1,Bool.true_and,<-HI.out.2.2.1,<-hq]
        congr 2
        rw[Fi,FK,HG.out.2.2.1.len,FA,G6 (by omega)]
       have a7:Hid (Tm.cG q last lt=true->Tm.fU wl 0 63 ((a.take (i+1)).map (Tm.a6 l))=true/\lt=((a.take (i+1)).map (Tm.a6 l)).getLast?.getD 63):=fun h=>⟨by rw[cR,h],by rw[bz];simp⟩
       have V:Hid (Tm.cG q last lt=false->bD (.returned (.tuple #[.slice (some ⟨bA,oA,none⟩) n c,.int .i64 0,.int .i64 90])) wr):=fun h=>cl.out cE.out (by
        rw[GU]
        intro e
        have dx:a.map (Tm.a6 l)=(a.take (i+1)).map (Tm.a6 l)++(a.drop (i+1)).map (Tm.a6 l):=by rw[<-Hf,FM]
        rw[dx] at e
        have:=Tm.tu wl _ _ _ _ e
        rw[cR,h] at this
        cases this) wr HI.out.1
       have a1:Hid (Tm.free l (a.take (i+1))=fr+if g=true then 0 else 1):=by
        show Tm.free l (a.take (i+1))=_
        rw[take_one hx,Tm.pE,hg,<-HI.out.2.2.2.1]
       have hS:=HI.out.2.2.2.2
       have HB:=Gn HI.out.1
       have hG:IntKind.i64.wrap ((i:Int)+1)=(i:Int)+1:=GR _ (by omega)
       have h9:IntKind.i64.wrap ((fr:Int)+1)=(fr:Int)+1:=GR _ (by omega)
       have ih:(0:Int)<=(j:Int):=by omega
       have hU:(j:Int)<(k:Int):=by omega
       have e6:(i<k/\j=i)\/(k<=i/\j+1=k):=by
        by_cases e:i<k
        ·rw[Fx e] at hj
         exact .inl ⟨e,hj.symm⟩
        ·rw[FQ e] at hj
         exact .inr ⟨by omega,by omega⟩
       have fy:(q=97)\/(q=61/\lt=last)\/(q=61/\lt≠last)\/(q≠97/\q≠61/\lt=q)\/(q≠97/\q≠61/\lt≠q):=by omega
       clear HI hx ga hc fR e5 hy hD hP fa e7 cF hg fx hj hq hL bz cR cl b2 HAdd HG Q bP cc b4 bp hi
       rcases e6 with⟨e1,e2⟩|⟨e1,e2⟩
       ·have hM:decide ((k:Int)<=(i:Int))=false:=Gq (by omega)
        have hN:decide (k<=i)=false:=Gq (by omega)
        have e3:i=j:=e2.symm
        clear e1 e2 cP
        subst e3
        have cP:(i:Int)<(m:Int):=by omega
        rcases fy with rfl|⟨rfl,I⟩|⟨rfl,I⟩|⟨n1,n2,I⟩|⟨n1,n2,I⟩
        ·have r:=Gn (a7.out rfl)
         clear a7 V
         go_wp2_with fail
         refine X.out.mono ?_
         rintro e w2 ⟨rfl,rfl⟩
         clear X
         go_wp2_with fail
         refine ao.out.mono ?_
         rintro e w3 ⟨rfl,b3⟩
         have ah:=Gn (HB.out.trans (b3.mono HB.out.size))
         clear ao b3 HB
         cases g
         ·go_wp2
          go_roundw
          case rel=>exact⟨i+1,lt,fr+1,by omega,by go_num,by go_num,by go_num,ah.out,r.out.1,r.out.2,by rw[a1.out];rfl,by omega⟩
          case measure=>simp[intOf];omega
         ·go_wp2
          go_roundw
          case rel=>exact⟨i+1,lt,fr,by omega,by go_num,by go_num,by go_num,ah.out,r.out.1,r.out.2,by rw[a1.out];rfl,by omega⟩
          case measure=>simp[intOf];omega
        ·have e4:((lt:Int) != (last:Int))=false:=by rw[I];simp
         have r:=Gn (a7.out (by rw[I];simp[Tm.cG]))
         clear I
         clear a7 V
         go_wp2_with fail
         refine X.out.mono ?_
         rintro e w2 ⟨rfl,rfl⟩
         clear X
         go_wp2_with fail
         refine ao.out.mono ?_
         rintro e w3 ⟨rfl,b3⟩
         have ah:=Gn (HB.out.trans (b3.mono HB.out.size))
         clear ao b3 HB
         cases g
         ·go_wp2
          go_roundw
          case rel=>exact⟨i+1,lt,fr+1,by omega,by go_num,by go_num,by go_num,ah.out,r.out.1,r.out.2,by rw[a1.out];rfl,by omega⟩
          case measure=>simp[intOf];omega
         ·go_wp2
          go_roundw
          case rel=>exact⟨i+1,lt,fr,by omega,by go_num,by go_num,by go_num,ah.out,r.out.1,r.out.2,by rw[a1.out];rfl,by omega⟩
          case measure=>simp[intOf];omega
        ·have e4:((lt:Int) != (last:Int))=true:=by simp;omega
         have HE:=Gn (V.out (by simp[Tm.cG,I]))
         clear I
         clear a7 V ao a1
         go_wp2_with fail
         refine X.out.mono ?_
         rintro e w2 ⟨rfl,rfl⟩
         clear X
         go_wp2_with fail
         first|exact HE.out|exact GD (by simp[results,Tryz.results140,go_sem]) rfl HE.out
        ·have eA:((q:Int) != 97)=true:=by simp;omega
         have eD:((q:Int) != 61)=true:=by simp;omega
         have e0:((q:Int) == 61)=false:=by simp;omega
         have eP:((lt:Int) != (q:Int))=false:=by rw[I];simp
         have r:=Gn (a7.out (by simp[Tm.cG,n2,I]))
         clear n1 n2 I
         clear a7 V
         go_wp2_with fail
         refine X.out.mono ?_
         rintro e w2 ⟨rfl,rfl⟩
         clear X
         go_wp2_with fail
         refine ao.out.mono ?_
         rintro e w3 ⟨rfl,b3⟩
         have ah:=Gn (HB.out.trans (b3.mono HB.out.size))
         clear ao b3 HB
         cases g
         ·go_wp2
          go_roundw
          case rel=>exact⟨i+1,lt,fr+1,by omega,by go_num,by go_num,by go_num,ah.out,r.out.1,r.out.2,by rw[a1.out];rfl,by omega⟩
          case measure=>simp[intOf];omega
         ·go_wp2
          go_roundw
          case rel=>exact⟨i+1,lt,fr,by omega,by go_num,by go_num,by go_num,ah.out,r.out.1,r.out.2,by rw[a1.out];rfl,by omega⟩
          case measure=>simp[intOf];omega
        ·have eA:((q:Int) != 97)=true:=by simp;omega
         have eD:((q:Int) != 61)=true:=by simp;omega
         have e0:((q:Int) == 61)=false:=by simp;omega
         have eP:((lt:Int) != (q:Int))=true:=by simp;omega
         have HE:=Gn (V.out (by simp[Tm.cG,n1,n2,I]))
         clear n1 n2 I
         clear a7 V ao a1
         go_wp2_with fail
         refine X.out.mono ?_
         rintro e w2 ⟨rfl,rfl⟩
         clear X
         go_wp2_with fail
         first|exact HE.out|exact GD (by simp[results,Tryz.results140,go_sem]) rfl HE.out
       ·have hM:decide ((k:Int)<=(i:Int))=true:=FW (by omega)
        have hN:decide (k<=i)=true:=FW (by omega)
        have im:IntKind.i64.wrap ((k:Int)-1)=(j:Int):=by rw[GR _ (by omega)];omega
        clear e1 e2
        rcases fy with rfl|⟨rfl,I⟩|⟨rfl,I⟩|⟨n1,n2,I⟩|⟨n1,n2,I⟩
        ·have r:=Gn (a7.out rfl)
         clear a7 V
         go_wp2_with fail
         refine X.out.mono ?_
         rintro e w2 ⟨rfl,rfl⟩
         clear X
         go_wp2_with fail
         refine ao.out.mono ?_
         rintro e w3 ⟨rfl,b3⟩
         have ah:=Gn (HB.out.trans (b3.mono HB.out.size))
         clear ao b3 HB
         cases g
         ·go_wp2
          go_roundw
          case rel=>exact⟨i+1,lt,fr+1,by omega,by go_num,by go_num,by go_num,ah.out,r.out.1,r.out.2,by rw[a1.out];rfl,by omega⟩
          case measure=>simp[intOf];omega
         ·go_wp2
          go_roundw
          case rel=>exact⟨i+1,lt,fr,by omega,by go_num,by go_num,by go_num,ah.out,r.out.1,r.out.2,by rw[a1.out];rfl,by omega⟩
          case measure=>simp[intOf];omega
        ·have e4:((lt:Int) != (last:Int))=false:=by rw[I];simp
         have r:=Gn (a7.out (by rw[I];simp[Tm.cG]))
         clear I
         clear a7 V
         go_wp2_with fail
         refine X.out.mono ?_
         rintro e w2 ⟨rfl,rfl⟩
         clear X
         go_wp2_with fail
         refine ao.out.mono ?_
         rintro e w3 ⟨rfl,b3⟩
         have ah:=Gn (HB.out.trans (b3.mono HB.out.size))
         clear ao b3 HB
         cases g
         ·go_wp2
          go_roundw
          case rel=>exact⟨i+1,lt,fr+1,by omega,by go_num,by go_num,by go_num,ah.out,r.out.1,r.out.2,by rw[a1.out];rfl,by omega⟩
          case measure=>simp[intOf];omega
         ·go_wp2
          go_roundw
          case rel=>exact⟨i+1,lt,fr,by omega,by go_num,by go_num,by go_num,ah.out,r.out.1,r.out.2,by rw[a1.out];rfl,by omega⟩
          case measure=>simp[intOf];omega
        ·have e4:((lt:Int) != (last:Int))=true:=by simp;omega
         have HE:=Gn (V.out (by simp[Tm.cG,I]))
         clear I
         clear a7 V ao a1
         go_wp2_with fail
         refine X.out.mono ?_
         rintro e w2 ⟨rfl,rfl⟩
         clear X
         go_wp2_with fail
         first|exact HE.out|exact GD (by simp[results,Tryz.results140,go_sem]) rfl HE.out
        ·have eA:((q:Int) != 97)=true:=by simp;omega
         have eD:((q:Int) != 61)=true:=by simp;omega
         have e0:((q:Int) == 61)=false:=by simp;omega
         have eP:((lt:Int) != (q:Int))=false:=by rw[I];simp
         have r:=Gn (a7.out (by simp[Tm.cG,n2,I]))
         clear n1 n2 I
         clear a7 V
         go_wp2_with fail
         refine X.out.mono ?_
         rintro e w2 ⟨rfl,rfl⟩
         clear X
         go_wp2_with fail
         refine ao.out.mono ?_
         rintro e w3 ⟨rfl,b3⟩
         have ah:=Gn (HB.out.trans (b3.mono HB.out.size))
         clear ao b3 HB
         cases g
         ·go_wp2
          go_roundw
          case rel=>exact⟨i+1,lt,fr+1,by omega,by go_num,by go_num,by go_num,ah.out,r.out.1,r.out.2,by rw[a1.out];rfl,by omega⟩
          case measure=>simp[intOf];omega
         ·go_wp2
          go_roundw
          case rel=>exact⟨i+1,lt,fr,by omega,by go_num,by go_num,by go_num,ah.out,r.out.1,r.out.2,by rw[a1.out];rfl,by omega⟩
          case measure=>simp[intOf];omega
        ·have eA:((q:Int) != 97)=true:=by simp;omega
         have eD:((q:Int) != 61)=true:=by simp;omega
         have e0:((q:Int) == 61)=false:=by simp;omega
         have eP:((lt:Int) != (q:Int))=true:=by simp;omega
         have HE:=Gn (V.out (by simp[Tm.cG,n1,n2,I]))
         clear n1 n2 I
         clear a7 V ao a1
         go_wp2_with fail
         refine X.out.mono ?_
         rintro e w2 ⟨rfl,rfl⟩
         clear X
         go_wp2_with fail
         first|exact HE.out|exact GD (by simp[results,Tryz.results140,go_sem]) rfl HE.out
      ·obtain rfl:m=i:=by omega
       have cy:=Q.out.2
       have fz:a.take m=a:=by rw[<-cy,Ib]
       obtain⟨c8,dd,en,er,_⟩:=HI.out
       rw[fz] at dd en er
       have b9:=Gn (b2.out cE.out dd)
       have ca:=Gn (HAdd.out cE.out dd)
       rw[<-er] at b9 ca
       have HB:=Gn c8
       have L:Hid (bO wr G A n c l/\aH wr B m a/\(B=none->m=0/\d=0)):=⟨HG.out.1.below c8,HG.out.2.2.1.below c8,HG.out.2.2.2⟩
       have dO:Tm.own own (a.map (Tm.a6 l))=Tm.dj (if own=61 then last else own):=by unfold Tm.own;rw[<-en]
       have bn:=Gn dO
       clear c8 dd en er HI cl b2 HAdd HG Q bP cc cy fz dO cN hi cE
       by_cases hmul:op=17/\1<fr
       ·obtain⟨rfl,fb⟩:=hmul
        have d2:decide ((1:Int)<(fr:Int))=true:=FW (by omega)
        have d3:decide (1<fr)=true:=FW fb
        have HE:=Gn (b9.out ⟨rfl,fb⟩ wr HB.out)
        clear b9 ca L bn b4 bp
        go_wp2_with fail
        first|exact HE.out|exact GD (by simp[results,Tryz.results140,go_sem]) rfl HE.out
       have HM:=Gn (ca.out hmul)
       have b7:op≠17\/op=17/\fr<=1:=by omega
       clear ca b9
       have cq:own=61\/own≠61:=by omega
       rcases b7 with b7|⟨rfl,b7⟩
       ·have d1:(op == 17)=false:=Gx.2 b7
        clear b7 hmul
        rcases cq with rfl|cq
        ·have ev:(O.toList == [61])=true:=bp.out
         have HS:=Gn (jc last wr)
         obtain⟨so,bl⟩:∃ so,Tm.dj last=so:=⟨_,rfl⟩
         rw[bl] at HS
         have U:Hid (Tm.node op 61 l a=⟨op,so,a,⟨#[]⟩,0,[]⟩):=by
          show Tm.node _ _ _ _=_
          unfold Tm.node
          rw[bn.out,Fx rfl,bl]
          rfl
         clear bn b4 bp bl
         go_wp2_with fail
         refine HS.out.mono ?_
         rintro e w2 ⟨rfl,rfl⟩
         clear HS
         go_wp2_with (at_builtin;refine oY _ rfl (.tmp 158) rfl B m d a rfl L.out.2.1 L.out.2.2 (by omega) ?_;intro A5 c5 w5 o5 b5;have bb:=Gn o5;have ba:=Gn b5;clear o5 b5)
         have b1:Hid (Calls Tryz.prog 105 #[.slice A n c,.agg #[.int .i64 op,.int .i64 so,.slice A5 m c5,.string ⟨#[]⟩,.bool false,.slice none 0 0,.slice none 0 0]] w5 fun e w'=>cO w5 (fun k=>G k\/w1.heap.size<=k) (Tm.add l (Tm.node op 61 l a)) e w'):=by
          rw[U.out]
          refine ke w5 A n c l ⟨A5,m,c5,false,none,0,0,none,0,0⟩ ⟨op,so,a,⟨#[]⟩,0,[]⟩ ((L.out.1.below ba.out).mono fun _=> .inl) ⟨dV.uE bb.out L.out.2.1.len,⟨⟨[],aQ.dI _ _,rfl,Fm _,Fz _,Fz _⟩,rfl⟩,cd.nil _ _,⟨by simp only;omega,Fz _,Fz _⟩,⟨fun ad e h0=> .inr (Fo HB.out.size (bb.out.lt (n:=m) L.out.2.1.len (by rw[show A5=some ad from e];rfl)).1),Gs.zero _ _,Gs.zero _ _⟩⟩ hn
         refine b1.out.mono ?_
         rintro e w6 b6
         have HE:=Gn (HM.out _ _ _ (HB.out.trans (ba.out.mono HB.out.size)) b6)
         obtain⟨⟨A6,c6,rfl,_⟩,_⟩:=b6
         clear HM b1 U bb ba L
         go_wp2
         first|exact HE.out|exact GD (by simp[results,Tryz.results140,go_sem]) rfl HE.out
        ·have ev:(O.toList == [61])=false:=by rw[bp.out];exact Gq cq
         have ho:=b4.out (by omega)
         have HS:=Gn (jc own wr)
         obtain⟨so,bl⟩:∃ so,Tm.dj own=so:=⟨_,rfl⟩
         rw[bl] at HS
         have U:Hid (Tm.node op own l a=⟨op,so,a,⟨#[]⟩,0,[]⟩):=by
          show Tm.node _ _ _ _=_
          unfold Tm.node
          rw[bn.out,FQ cq,bl]
          rfl
         clear bn b4 bp bl
         go_wp2_with fail
         refine HS.out.mono ?_
         rintro e w2 ⟨rfl,rfl⟩
         clear HS
         go_wp2_with (at_builtin;refine oY _ rfl (.tmp 170) rfl B m d a rfl L.out.2.1 L.out.2.2 (by omega) ?_;intro A5 c5 w5 o5 b5;have bb:=Gn o5;have ba:=Gn b5;clear o5 b5)
         have b1:Hid (Calls Tryz.prog 105 #[.slice A n c,.agg #[.int .i64 op,.int .i64 so,.slice A5 m c5,.string ⟨#[]⟩,.bool false,.slice none 0 0,.slice none 0 0]] w5 fun e w'=>cO w5 (fun k=>G k\/w1.heap.size<=k) (Tm.add l (Tm.node op own l a)) e w'):=by
          rw[U.out]
          refine ke w5 A n c l ⟨A5,m,c5,false,none,0,0,none,0,0⟩ ⟨op,so,a,⟨#[]⟩,0,[]⟩ ((L.out.1.below ba.out).mono fun _=> .inl) ⟨dV.uE bb.out L.out.2.1.len,⟨⟨[],aQ.dI _ _,rfl,Fm _,Fz _,Fz _⟩,rfl⟩,cd.nil _ _,⟨by simp only;omega,Fz _,Fz _⟩,⟨fun ad e h0=> .inr (Fo HB.out.size (bb.out.lt (n:=m) L.out.2.1.len (by rw[show A5=some ad from e];rfl)).1),Gs.zero _ _,Gs.zero _ _⟩⟩ hn
         refine b1.out.mono ?_
         rintro e w6 b6
         have HE:=Gn (HM.out _ _ _ (HB.out.trans (ba.out.mono HB.out.size)) b6)
         obtain⟨⟨A6,c6,rfl,_⟩,_⟩:=b6
         clear HM b1 U bb ba L
         go_wp2
         first|exact HE.out|exact GD (by simp[results,Tryz.results140,go_sem]) rfl HE.out
       ·have d2:decide ((1:Int)<(fr:Int))=false:=Gq (by omega)
        have d3:decide (1<fr)=false:=Gq (by omega)
        clear b7 hmul
        rcases cq with rfl|cq
        ·have ev:(O.toList == [61])=true:=bp.out
         have HS:=Gn (jc last wr)
         obtain⟨so,bl⟩:∃ so,Tm.dj last=so:=⟨_,rfl⟩
         rw[bl] at HS
         have U:Hid (Tm.node 17 61 l a=⟨17,so,a,⟨#[]⟩,0,[]⟩):=by
          show Tm.node _ _ _ _=_
          unfold Tm.node
          rw[bn.out,Fx rfl,bl]
          rfl
         clear bn b4 bp bl
         go_wp2_with fail
         refine HS.out.mono ?_
         rintro e w2 ⟨rfl,rfl⟩
         clear HS
         go_wp2_with (at_builtin;refine oY _ rfl (.tmp 158) rfl B m d a rfl L.out.2.1 L.out.2.2 (by omega) ?_;intro A5 c5 w5 o5 b5;have bb:=Gn o5;have ba:=Gn b5;clear o5 b5)
         have b1:Hid (Calls Tryz.prog 105 #[.slice A n c,.agg #[.int .i64 17,.int .i64 so,.slice A5 m c5,.string ⟨#[]⟩,.bool false,.slice none 0 0,.slice none 0 0]] w5 fun e w'=>cO w5 (fun k=>G k\/w1.heap.size<=k) (Tm.add l (Tm.node 17 61 l a)) e w'):=by
          rw[U.out]
          refine ke w5 A n c l ⟨A5,m,c5,false,none,0,0,none,0,0⟩ ⟨17,so,a,⟨#[]⟩,0,[]⟩ ((L.out.1.below ba.out).mono fun _=> .inl) ⟨dV.uE bb.out L.out.2.1.len,⟨⟨[],aQ.dI _ _,rfl,Fm _,Fz _,Fz _⟩,rfl⟩,cd.nil _ _,⟨by simp only;omega,Fz _,Fz _⟩,⟨fun ad e h0=> .inr (Fo HB.out.size (bb.out.lt (n:=m) L.out.2.1.len (by rw[show A5=some ad from e];rfl)).1),Gs.zero _ _,Gs.zero _ _⟩⟩ hn
         refine b1.out.mono ?_
         rintro e w6 b6
         have HE:=Gn (HM.out _ _ _ (HB.out.trans (ba.out.mono HB.out.size)) b6)
         obtain⟨⟨A6,c6,rfl,_⟩,_⟩:=b6
         clear HM b1 U bb ba L
         go_wp2
         first|exact HE.out|exact GD (by simp[results,Tryz.results140,go_sem]) rfl HE.out
        ·have ev:(O.toList == [61])=false:=by rw[bp.out];exact Gq cq
         have ho:=b4.out (by omega)
         have HS:=Gn (jc own wr)
         obtain⟨so,bl⟩:∃ so,Tm.dj own=so:=⟨_,rfl⟩
         rw[bl] at HS
         have U:Hid (Tm.node 17 own l a=⟨17,so,a,⟨#[]⟩,0,[]⟩):=by
          show Tm.node _ _ _ _=_
          unfold Tm.node
          rw[bn.out,FQ cq,bl]
          rfl
         clear bn b4 bp bl
         go_wp2_with fail
         refine HS.out.mono ?_
         rintro e w2 ⟨rfl,rfl⟩
         clear HS
         go_wp2_with (at_builtin;refine oY _ rfl (.tmp 170) rfl B m d a rfl L.out.2.1 L.out.2.2 (by omega) ?_;intro A5 c5 w5 o5 b5;have bb:=Gn o5;have ba:=Gn b5;clear o5 b5)
         have b1:Hid (Calls Tryz.prog 105 #[.slice A n c,.agg #[.int .i64 17,.int .i64 so,.slice A5 m c5,.string ⟨#[]⟩,.bool false,.slice none 0 0,.slice none 0 0]] w5 fun e w'=>cO w5 (fun k=>G k\/w1.heap.size<=k) (Tm.add l (Tm.node 17 own l a)) e w'):=by
          rw[U.out]
          refine ke w5 A n c l ⟨A5,m,c5,false,none,0,0,none,0,0⟩ ⟨17,so,a,⟨#[]⟩,0,[]⟩ ((L.out.1.below ba.out).mono fun _=> .inl) ⟨dV.uE bb.out L.out.2.1.len,⟨⟨[],aQ.dI _ _,rfl,Fm _,Fz _,Fz _⟩,rfl⟩,cd.nil _ _,⟨by simp only;omega,Fz _,Fz _⟩,⟨fun ad e h0=> .inr (Fo HB.out.size (bb.out.lt (n:=m) L.out.2.1.len (by rw[show A5=some ad from e];rfl)).1),Gs.zero _ _,Gs.zero _ _⟩⟩ hn
         refine b1.out.mono ?_
         rintro e w6 b6
         have HE:=Gn (HM.out _ _ _ (HB.out.trans (ba.out.mono HB.out.size)) b6)
         obtain⟨⟨A6,c6,rfl,_⟩,_⟩:=b6
         clear HM b1 U bb ba L
         go_wp2
         first|exact HE.out|exact GD (by simp[results,Tryz.results140,go_sem]) rfl HE.out
end Go.Proofs.YtdbgiijdgedggaaGreatDoor
namespace Go.Proofs.YtdbgiijdgedggaaGreatDoor
theorem Tm.xo {op:Int} {q:List Nat×Bool×Nat} (h:Tm.asks op=some q):6<=op/\op<=30:=by
 by_cases e:6<=op/\op<=30
 ·exact e
 ·rw[Tm.ei e] at h
  cases h
end Go.Proofs.YtdbgiijdgedggaaGreatDoor
