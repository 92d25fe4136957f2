import Derived.Test.YtdbgiijdgedggaaGreatDoorQM07
import Derived.Laws.AppendOwnNone
set_option linter.unusedSimpArgs false
set_option linter.unusedVariables false
set_option maxRecDepth 100000
set_option maxHeartbeats 25600000
namespace Go.Proofs.YtdbgiijdgedggaaGreatDoor
open Go.RowKit
theorem bX {α:Type} {k:Nat} {f:α->List Value} (h:∀ a,(f a).length=k):∀ L:List α,(L.flatMap f).length=L.length*k
 |[]=>by simp
 |a::L=>by rw[GI,Gb,h,bX h L,FG,Nat.succ_mul];omega
theorem fg {α:Type} {k:Nat} {f:α->List Value} (r:∀ a,(f a).length=k):∀ (L:List α) (i j:Nat) (a:α),L[i]?=some a->j<k->(L.flatMap f)[i*k+j]?=(f a)[j]?
 |[],i,j,a,h,_=>by simp at h
 |b::L,0,j,a,h,I=>by
  obtain rfl:b=a:=by simpa using h
  rw[GI,FO (by rw[r];omega)]
  congr 1
  omega
 |b::L,i+1,j,a,h,I=>by
  rw[GI,Ga (by rw[r,Nat.succ_mul];omega),r,<-fg r L i j a (by simpa using h) I]
  congr 1
  rw[Nat.succ_mul]
  omega
theorem tC {α:Type} {k:Nat} {f:α->List Value} (J:∀ a,(f a).length=k) (I:0<k) {L:List α} {j:Nat} {u:Value} (h:(L.flatMap f)[j]?=some u):∃ a,L[j/k]?=some a/\(f a)[j % k]?=some u:=by
 have r:=(Fg.1 h).1
 rw[bX J] at r
 have hi:j/k<L.length:=(Nat.div_lt_iff_lt_mul I).2 r
 refine⟨L[j/k],Ge hi,?_⟩
 have:=fg J L (j/k) (j % k) _ (Ge hi) (Nat.mod_lt _ I)
 rw[FI,Nat.div_add_mod] at this
 rw[<-this,h]
structure bO (w:World) (G:Nat->Prop) (A:Option Addr) (n c:Nat) (l:List Nd):Prop where
 len:l.length=n
 g:Gs G A n
 nil:A=none->n=0/\c=0
 at_:0<n->∃ b off,A=some ⟨b,off,none⟩/\b<w.heap.size/\∀ (i:Nat) x,l[i]?=some x->∃ P:bJ,(∀ j u,(P.cells x)[j]?=some u->w.cell? ⟨b,off+i*7+j,none⟩=some u)/\dk w G P x
theorem bO.mono {w:World} {G G':Nat->Prop} {A:Option Addr} {n c:Nat} {l:List Nd} (h:bO w G A n c l) (I:∀ k,G k->G' k):bO w G' A n c l:=
 ⟨h.len,h.g.mono I,h.nil,fun hn=>by
  obtain⟨b,off,e,r,hc⟩:=h.at_ hn
  refine⟨b,off,e,r,fun i x O=>?_⟩
  obtain⟨P,J,L⟩:=hc i x O
  exact⟨P,J,L.mono I⟩⟩
theorem bO.turn {F G:Nat->Prop} {w w':World} {A:Option Addr} {n c:Nat} {l:List Nd} (h:bO w G A n c l) (hT:ae F w w') (I:∀ k,G k->¬F k):bO w' G A n c l:=
 ⟨h.len,h.g,h.nil,fun hn=>by
  obtain⟨b,off,e,r,hc⟩:=h.at_ hn
  have hb:=I _ (h.g _ e hn)
  refine⟨b,off,e,Fp r hT.size,fun i x O=>?_⟩
  obtain⟨P,J,L⟩:=hc i x O
  exact⟨P,fun j u hu=>(hT.cell (p:=⟨b,off+i*7+j,none⟩) r hb).trans (J j u hu),L.turn hT I⟩⟩
theorem bO.below {w w':World} {G:Nat->Prop} {A:Option Addr} {n c:Nat} {l:List Nd} (h:bO w G A n c l) (hb:Below w.heap.size w w'):bO w' G A n c l:=
 ⟨h.len,h.g,h.nil,fun hn=>by
  obtain⟨b,off,e,r,hc⟩:=h.at_ hn
  refine⟨b,off,e,Fp r hb.size,fun i x L=>?_⟩
  obtain⟨P,I,J⟩:=hc i x L
  exact⟨P,fun j u hu=>(hb.cell (p:=⟨b,off+i*7+j,none⟩) r).trans (I j u hu),J.below hb⟩⟩
theorem bO.none_ (w:World) (G:Nat->Prop):bO w G none 0 0 []:=⟨rfl,Gs.zero G _,fun _=>⟨rfl,rfl⟩,fun h=>absurd h (by decide)⟩
theorem bO.get {w:World} {G:Nat->Prop} {A:Option Addr} {n c i:Nat} {l:List Nd} (h:bO w G A n c l) (hi:i<n):
  ∃ b off x P,A=some ⟨b,off,none⟩/\l[i]?=some x/\b<w.heap.size/\dk w G P x/\∀ W,Below w.heap.size w W->
   W.cell? ⟨b,off+i*7,none⟩=some (.int .i64 x.op)/\W.cell? ⟨b,off+i*7+1,none⟩=some (.int .i64 x.sort)/\W.cell? ⟨b,off+i*7+2,none⟩=some (.slice P.A P.n P.c)/\W.cell? ⟨b,off+i*7+3,none⟩=some (.string x.name)/\
   W.cell? ⟨b,off+i*7+4,none⟩=some (.bool P.g)/\W.cell? ⟨b,off+i*7+5,none⟩=some (.slice P.B P.m P.d)/\W.cell? ⟨b,off+i*7+6,none⟩=some (.slice P.C P.p P.f):=by
 obtain⟨b,off,e,r,hc⟩:=h.at_ (by omega)
 obtain⟨x,I⟩:∃ x,l[i]?=some x:=⟨_,Ge (by rw[h.len];exact hi)⟩
 obtain⟨P,J,L⟩:=hc i x I
 refine⟨b,off,x,P,e,I,r,L,fun W O=>?_⟩
 have g:∀ j u,(P.cells x)[j]?=some u->W.cell? ⟨b,off+i*7+j,none⟩=some u:=fun j u hu=>(O.cell (p:=⟨b,_,none⟩) r).trans (J j u hu)
 exact⟨g 0 _ rfl,g 1 _ rfl,g 2 _ rfl,g 3 _ rfl,g 4 _ rfl,g 5 _ rfl,g 6 _ rfl⟩
abbrev sX (q:bJ×Nd):List Value:=(q.1.cells q.2).toList
abbrev bq (L:List (bJ×Nd)):List Value:=L.flatMap sX
theorem sq (L:List (bJ×Nd)):∀ u∈bq L,u.oneCell'=true:=by
 intro u hu
 obtain⟨q,_,hu⟩:=GJ.1 hu
 simp[sX] at hu
 rcases hu with rfl|rfl|rfl|rfl|rfl|rfl|rfl <;> rfl
theorem sG:(Tryz.prog.info? 50).map (fun i=>(i.zero,i.size,i.bytes))=some (some (.agg #[.int .i64 0,.int .i64 0,.slice none 0 0,.string ByteArray.empty,.bool false,.slice none 0 0,.slice none 0 0]),7,112):=by kernel_rfl
def gL (w:World) (B:Nat) (A:Option Addr) (c:Nat) (L:List (bJ×Nd)):Prop:=w.ownsRow B 50 7 (.slice A L.length c) L.length (bq L)
theorem gL.cell {w:World} {B g c:Nat} {L:List (bJ×Nd)} (h:gL w B (some ⟨g,0,none⟩) c L) {i j:Nat} {q:bJ×Nd} {u:Value} (J:L[i]?=some q) (I:(q.1.cells q.2)[j]?=some u):w.cell? ⟨g,i*7+j,none⟩=some u:=by
 have r:=(Fl.1 I).1
 have:=Gi (g:=g) h rfl (i*7+j) u (by rw[fg (k:=7) (fun _=>rfl) L i j q J r];simpa using I)
 rwa [addr_add,FA] at this
theorem gL.Et {w w':World} {G:Nat->Prop} {B:Nat} {A:Option Addr} {c n:Nat} {L:List (bJ×Nd)} {l:List Nd} (h:gL w B A c L) (hl:L.map (·.2)=l) (hn:l.length=n) (ha:∀ q∈L,dk w G q.1 q.2) (Z:∀ k,B<=k->G k) (hb:Below w.heap.size w w'):bO w' G A n c l:=by
 have hL:L.length=n:=by rw[<-hn,<-hl,Fi]
 subst hL
 refine bO.below ⟨by rw[<-hl,Fi],fun a e V=>?_,fun e=>?_,fun V=>?_⟩ hb
 ·rcases h.2 with⟨q,_⟩|⟨g,cap,cur,r,Q,_⟩
  ·injection q with q _ _
   rw[e] at q
   cases q
  ·injection r with r _ _
   rw[e] at r
   injection r with r
   subst r
   exact Z _ Q
 ·rcases h.2 with⟨q,Q⟩|⟨g,cap,cur,r,_⟩
  ·injection q with _ I X
   exact⟨I,X⟩
  ·rw[e] at r
   cases r
 ·rcases h.2 with⟨_,I⟩|⟨g,cap,cur,e,_,hg,_⟩
  ·omega
  ·injection e with U _ _
   subst U
   refine⟨g,0,rfl,(Fl.1 hg).1,fun i x O=>?_⟩
   rw[<-hl,Fj] at O
   obtain⟨q,J,rfl⟩:=FT.1 O
   exact⟨q.1,fun j u hu=>by rw[FA];exact h.cell J hu,ha q (FP J)⟩
theorem bO.rows {w:World} {G:Nat->Prop} {A:Option Addr} {n c:Nat} {l:List Nd} (h:bO w G A n c l):∃ L:List (bJ×Nd),L.map (·.2)=l/\L.length=n/\(∀ q∈L,dk w G q.1 q.2)/\
  (0<n->∃ b off,A=some ⟨b,off,none⟩/\b<w.heap.size/\∀ j u,(bq L)[j]?=some u->w.cell? ⟨b,off+j,none⟩=some u):=by
 rcases Hn n with e|e
 ·subst e
  exact⟨[],(FV h.len).symm,rfl,fun q r=>(FD r).elim,fun h=>absurd h (by decide)⟩
 obtain⟨b,off,V,Q,hc⟩:=h.at_ e
 have hex:∀ k,k<=n->∃ L:List (bJ×Nd),L.map (·.2)=l.take k/\L.length=k/\∀ (i:Nat) q,L[i]?=some q->(∀ j u,(q.1.cells q.2)[j]?=some u->w.cell? ⟨b,off+i*7+j,none⟩=some u)/\dk w G q.1 q.2:=by
  intro k
  induction k with
  |zero=>exact fun _=>⟨[],by simp,rfl,fun i q r=>by simp at r⟩
  |succ k Z=>
   intro hk
   obtain⟨L,O,I,J⟩:=Z (by omega)
   obtain⟨x,U⟩:∃ x,l[k]?=some x:=⟨_,Ge (by rw[h.len];omega)⟩
   obtain⟨P,p1,p2⟩:=hc k x U
   refine⟨L++[(P,x)],by rw[Hf,O,take_one U];rfl,by simp[I],fun i q r=>?_⟩
   rcases GX i k with e|e
   ·rw[FO (by omega)] at r
    exact J i q r
   ·have hi:=(Fg.1 r).1
    simp at hi
    obtain rfl:i=k:=by omega
    rw[Ga (by omega),I,Nat.sub_self] at r
    obtain rfl:(P,x)=q:=by simpa using r
    exact⟨p1,p2⟩
 obtain⟨L,O,I,J⟩:=hex n (Fm _)
 refine⟨L,by rw[O,<-h.len,Ib],I,fun q r=>?_,fun _=>⟨b,off,V,Q,fun j u hu=>?_⟩⟩
 ·obtain⟨i,hi⟩:=Ic r
  exact(J i q hi).2
 ·obtain⟨q,r,X⟩:=tC (k:=7) (fun _=>rfl) (by decide) hu
  have:=(J _ q r).1 (j % 7) u (by simpa using X)
  rw[Ie,show j/7*7+j % 7=j by omega] at this
  exact this
theorem Ea (w:World) {G:Nat->Prop} {ops:Array Oper} {rest:List Oper} {o:Oper} {a:Act} {Q:Exit->Act->World->Prop} (r:o.guard=none) (x:Operand)
  (ho:o.op=.call { callee:=.builtin .append,args:=#[.const (.slice none 0 0),x],argTypes:=#[35,35] }) (A:Option Addr) (n c:Nat) (l:List Nd)
  (hx:a.eval x=.slice A n c) (hr:bO w G A n c l) (hn:n<=1000000)
  (h:∀ A' J w' L,gL w' w.heap.size A' J L->L.map (·.2)=l->L.length=n->(∀ q∈L,dk w G q.1 q.2)->Below w.heap.size w w'->wpList Tryz.prog ops Q rest (a.put o.dst (.slice A' n J)) w'):
  wpList Tryz.prog ops Q (o::rest) a w:=by
 obtain⟨i0,hi,U,V,X⟩:=Gj sG
 obtain⟨L,h1,O,h3,h4⟩:=hr.rows
 cases A with
 |none=>
  obtain⟨rfl,rfl⟩:=hr.nil rfl
  obtain rfl:=FV O
  exact Hv r _ x 35 ho w.heap.size 50 i0 7 Tryz.underlying35 hi (.slice none 0 0) 0 [] rfl (Gg _ _ _ _) hx (h none 0 w [] (Gg _ _ _ _) h1 rfl h3 (Gp _ _))
 |some ad=>
  refine Fw w r _ x 35 ho w.heap.size 50 i0 (.agg #[.int .i64 0,.int .i64 0,.slice none 0 0,.string ByteArray.empty,.bool false,.slice none 0 0,.slice none 0 0]) 7 112 Tryz.underlying35 hi U V X rfl (by decide) (.slice none 0 0) 0 [] rfl (Gg _ _ _ _)
   ad n c (bq L) hx (by rw[bX (k:=7) (fun _=>rfl),O]) (fun j u hu=>?_) (sq L) (by unfold maxLen;omega) (by omega) (Fm _) fun v' w' Z I _ _=>?_
  ·have hj:=(Fg.1 hu).1
   rw[bX (k:=7) (fun _=>rfl)] at hj
   obtain⟨b,off,e,_,hc⟩:=h4 (by omega)
   obtain rfl:=Fk e
   rw[addr_add]
   exact hc j u hu
  ·simp only[FA,FY] at Z
   obtain⟨A',J,rfl⟩:=aI Z
   have hb:Below w.heap.size w w':=⟨I.os,I.tape,I.output,I.size,fun k hk=>I.block k hk (by simp[Value.ownBlock])⟩
   subst O
   exact h A' J w' L Z h1 rfl h3 hb
theorem zn (w:World) {ops:Array Oper} {rest:List Oper} {o:Oper} {a:Act} {Q:Exit->Act->World->Prop} (O:o.guard=none) (s x:Operand)
  (ho:o.op=.call { callee:=.builtin .append,args:=#[s,x],argTypes:=#[35,35] }) (B:Nat) (A:Option Addr) (c:Nat) (L:List (bJ×Nd)) (n:Nat) (hn:L.length=n) (q:bJ×Nd)
  (hs:a.eval s=.slice A n c) (r:gL w B A c L) (hx:a.eval x=.slice (some ⟨w.heap.size,0,none⟩) 1 1) (hl:n<=1000000) (hB:B<=w.heap.size)
  (h:∀ A' J w',gL w' B A' J (L++[q])->w.grownBy w' (Value.slice A n c).ownBlock->wpList Tryz.prog ops Q rest (a.put o.dst (.slice A' (n+1) J)) w'):
  wpList Tryz.prog ops Q (o::rest) a (w.alloc (.cells (q.1.cells q.2) 50)):=by
 subst hn
 obtain⟨i0,hi,V,X,Z⟩:=Gj sG
 refine Fw _ O s x 35 ho B 50 i0 (.agg #[.int .i64 0,.int .i64 0,.slice none 0 0,.string ByteArray.empty,.bool false,.slice none 0 0,.slice none 0 0]) 7 112 Tryz.underlying35 hi V X Z rfl (by decide) _ L.length (bq L) hs (Gk r _)
  ⟨w.heap.size,0,none⟩ 1 1 (bq [q]) hx (by simp) (fun j u hu=>?_) (sq [q]) (by unfold maxLen;omega) (by omega) (by simp;omega) fun v' w' q1 I _ _=>?_
 ·rw[addr_add,FA,(aa.new w 50 (q.1.cells q.2)).cell]
  simpa [bq,sX] using hu
 ·obtain⟨A',J,rfl⟩:=aI q1
  refine h A' J w' ?_ ?_
  ·unfold gL
   have e:bq L++bq [q]=bq (L++[q]):=by simp[bq]
   rw[e] at q1
   rw[Gb]
   exact q1
  ·refine⟨I.os,I.tape,I.output,Fo (by simp) I.size,fun k hk U=>(I.block k (by simp;omega) U).trans (Fq w _ k hk)⟩
def cO (w:World) (G:Nat->Prop) (r:List Nd×Int×Int) (e:Ending) (w':World):Prop:=(∃ A c,e=.returned (.tuple #[.slice A r.1.length c,.int .i64 r.2.1,.int .i64 r.2.2])/\bO w' (fun k=>G k\/w.heap.size<=k) A r.1.length c r.1)/\Below w.heap.size w w'
theorem cO.up {w W w':World} {G G':Nat->Prop} {r:List Nd×Int×Int} {e:Ending} (h:cO W G' r e w') (hb:Below w.heap.size w W) (O:∀ k,G' k->G k\/w.heap.size<=k):cO w G r e w':=by
 obtain⟨⟨A,c,I,J⟩,L⟩:=h
 exact⟨⟨A,c,I,J.mono fun k Q=>Q.elim (O k) fun h=> .inr (Fo hb.size h)⟩,hb.trans (L.mono hb.size)⟩
abbrev rZ (W:World) (b o:Nat) (P:bJ) (x:Nd):Prop:=W.cell? ⟨b,o,none⟩=some (.int .i64 x.op)/\W.cell? ⟨b,o+1,none⟩=some (.int .i64 x.sort)/\W.cell? ⟨b,o+2,none⟩=some (.slice P.A P.n P.c)/\W.cell? ⟨b,o+3,none⟩=some (.string x.name)/\
 W.cell? ⟨b,o+4,none⟩=some (.bool P.g)/\W.cell? ⟨b,o+5,none⟩=some (.slice P.B P.m P.d)/\W.cell? ⟨b,o+6,none⟩=some (.slice P.C P.p P.f)
abbrev tN (W:World) (b:Nat) (P:bJ) (x:Nd):Prop:=W.cell? ⟨b,0,none⟩=some (.int .i64 x.op)/\W.cell? ⟨b,1,none⟩=some (.int .i64 x.sort)/\W.cell? ⟨b,2,none⟩=some (.slice P.A P.n P.c)/\W.cell? ⟨b,3,none⟩=some (.string x.name)/\
 W.cell? ⟨b,4,none⟩=some (.bool P.g)/\W.cell? ⟨b,5,none⟩=some (.slice P.B P.m P.d)/\W.cell? ⟨b,6,none⟩=some (.slice P.C P.p P.f)
theorem aa.Bv {W:World} {b:Nat} {P:bJ} {x:Nd} (h:aa W b 50 (P.cells x)):tN W b P x:=
 ⟨by rw[h.cell];rfl,by rw[h.cell];rfl,by rw[h.cell];rfl,by rw[h.cell];rfl,by rw[h.cell];rfl,by rw[h.cell];rfl,by rw[h.cell];rfl⟩
theorem ke (w:World) (A:Option Addr) (n c:Nat) (l:List Nd) (P:bJ) (x:Nd) {G:Nat->Prop} (h:bO w G A n c l) (hx:dk w G P x) (hn:n<=30000):
  Calls Tryz.prog 105 #[.slice A n c,.agg (P.cells x)] w fun e w'=>cO w G (Tm.add l x) e w':=by
 obtain⟨Z,bC⟩:∃ Z,w.alloc (.cells (P.cells x) 50)=Z:=⟨_,rfl⟩
 have B0:Below w.heap.size w Z:=by rw[<-bC];exact(Gp _ w).alloc (Fm _) _
 have L0:aa Z w.heap.size 50 (P.cells x):=by rw[<-bC];exact aa.new w _ _
 have a7:=Gn B0
 have J:Hid (∀ W,Below Z.heap.size Z W->tN W w.heap.size P x/\dk W G P x):=fun W hW=>⟨aa.Bv ((hW.block _ L0.lt).trans L0),(hx.below B0).below hW⟩
 have h0:=h.below B0
 have V:Hid (∀ i,i<n->∃ b off y R,A=some ⟨b,off,none⟩/\l[i]?=some y/\∀ W,Below Z.heap.size Z W->rZ W b (off+i*7) R y/\dk W G R y):=fun i hi=>by
  obtain⟨b,off,y,R,e,hy,_,hR,hc⟩:=h0.get hi
  exact⟨b,off,y,R,e,hy,fun W hW=>⟨hc W hW,hR.below hW⟩⟩
 have HS:Hid (∀ W (R:bJ) y,dk W G R y->dk W G P x->Calls Tryz.prog 17 #[.agg (R.cells y),.agg (P.cells x)] W fun e w'=>e=.returned (.bool (Nd.same y x))/\Below W.heap.size W w'):=fun W R y h1 h2=>xH W R P y x h1 h2
 have r:Hid (∀ (i:Nat) W,l[i]?=some x->(∀ j,j<i->l[j]?≠some x)->Below Z.heap.size Z W->cO w G (Tm.add l x) (.returned (.tuple #[.slice A n c,.int .i64 (i:Int),.int .i64 0])) W):=fun i W h1 h2 hW=>by
  rw[Tm.tR h1 h2]
  exact⟨⟨A,c,by rw[h.len],by rw[h.len];exact(h0.below hW).mono fun _=> .inl⟩,B0.trans (hW.mono B0.size)⟩
 have O:Hid (∀ W,(∀ j,j<n->l[j]?≠some x)->20000<=n->Below Z.heap.size Z W->cO w G (Tm.add l x) (.returned (.tuple #[.slice A n c,.int .i64 0,.int .i64 2])) W):=fun W h1 h2 hW=>by
  rw[Tm.p9 (Tm.ur fun j hj=>h1 j (by rw[<-h.len];exact hj)) (by rw[h.len];exact h2)]
  exact⟨⟨A,c,by rw[h.len],by rw[h.len];exact(h0.below hW).mono fun _=> .inl⟩,B0.trans (hW.mono B0.size)⟩
 have ah:Hid (∀ A' c' W,(∀ j,j<n->l[j]?≠some x)->n<20000->bO W (fun k=>G k\/w.heap.size<=k) A' (n+1) c' (l++[x])->Below w.heap.size w W->cO w G (Tm.add l x) (.returned (.tuple #[.slice A' (n+1) c',.int .i64 (n:Int),.int .i64 0])) W):=fun A' c' W h1 h2 h3 hW=>by
  rw[Tm.fD (Tm.ur fun j hj=>h1 j (by rw[<-h.len];exact hj)) (by rw[h.len];exact h2)]
  have e:(l++[x]).length=n+1:=by simp[h.len]
  exact⟨⟨A',c',by rw[e,h.len],by rw[e];exact h3⟩,hW⟩
 have L:=Gn h0
 have hl:=h.len
 have a1:=Gn h.nil
 obtain⟨av,ad⟩:∃ av:Ending->World->Prop,av=fun e w'=>cO w G (Tm.add l x) e w':=⟨_,rfl⟩
 have ao:Hid (∀ e W,cO w G (Tm.add l x) e W->av e W):=fun e W h=>by rw[ad];exact h
 rw[<-ad]
 clear ad B0 L0 h hx h0
 go_enter Tryz.func105,Tryz.ntmps105
 go_wp2
 go_loopw [7] (fun kv wr=>∃ k:Nat,k<=n/\kv=.int .i64 (k:Nat)/\Hid (Below Z.heap.size Z wr/\∀ j,j<k->l[j]?≠some x)) (fun kv _=>n-(intOf kv).toNat)
 case atStart=>exact⟨0,Fz _,rfl,Gp _ _,fun j hj=>absurd hj (Gv _)⟩
 case round=>
  obtain⟨k,hk,rfl,X⟩:=hrel
  by_cases bD:k<n
  ·have cx:(k:Int)<(n:Int):=by omega
   have cy:(0:Int)<=(k:Int):=by omega
   obtain⟨b,off,y,R,rfl,hy,hc⟩:=V.out k bD
   have HL:Hid (∀ s:cu wr,Below Z.heap.size Z s.at_):=fun s=>X.out.1.trans (s.ok.mono X.out.1.size)
   have Q:Hid (∀ s:cu wr,rZ s.at_ b (off+k*7) R y):=fun s=>(hc _ (HL.out s)).1
   have U:Hid (∀ s:cu wr,tN s.at_ w.heap.size P x):=fun s=>(J.out _ (HL.out s)).1
   have bb:Hid (∀ s:cu wr,Calls Tryz.prog 17 #[.agg (R.cells y),.agg (P.cells x)] s.at_ fun e w'=>e=.returned (.bool (Nd.same y x))/\Below s.at_.heap.size s.at_ w'):=fun s=>HS.out _ R y (hc _ (HL.out s)).2 (J.out _ (HL.out s)).2
   obtain⟨g,hg⟩:∃ g,Nd.same y x=g:=⟨_,rfl⟩
   rw[hg] at bb
   clear hc
   go_wp2_with fail
   refine cB (C:=qG wr) (by kernel_rfl) (by kernel_rfl) (dt (Gp _ wr)) ?_
   have cc:∀ s:cu wr,s.at_.cell? ⟨b,off+k*7,none⟩=some (.int .i64 y.op):=fun s=>(Q.out s).1
   have cf:∀ s:cu wr,s.at_.cell? ⟨b,off+k*7+1,none⟩=some (.int .i64 y.sort):=fun s=>(Q.out s).2.1
   have ch:∀ s:cu wr,s.at_.cell? ⟨b,off+k*7+2,none⟩=some (.slice R.A R.n R.c):=fun s=>(Q.out s).2.2.1
   have cj:∀ s:cu wr,s.at_.cell? ⟨b,off+k*7+3,none⟩=some (.string y.name):=fun s=>(Q.out s).2.2.2.1
   have cl:∀ s:cu wr,s.at_.cell? ⟨b,off+k*7+4,none⟩=some (.bool R.g):=fun s=>(Q.out s).2.2.2.2.1
   have cq:∀ s:cu wr,s.at_.cell? ⟨b,off+k*7+5,none⟩=some (.slice R.B R.m R.d):=fun s=>(Q.out s).2.2.2.2.2.1
   have cv:∀ s:cu wr,s.at_.cell? ⟨b,off+k*7+6,none⟩=some (.slice R.C R.p R.f):=fun s=>(Q.out s).2.2.2.2.2.2
   have bL:∀ s:cu wr,s.at_.cell? ⟨w.heap.size,0,none⟩=some (.int .i64 x.op):=fun s=>(U.out s).1
   have bP:∀ s:cu wr,s.at_.cell? ⟨w.heap.size,1,none⟩=some (.int .i64 x.sort):=fun s=>(U.out s).2.1
   have bT:∀ s:cu wr,s.at_.cell? ⟨w.heap.size,2,none⟩=some (.slice P.A P.n P.c):=fun s=>(U.out s).2.2.1
   have b1:∀ s:cu wr,s.at_.cell? ⟨w.heap.size,3,none⟩=some (.string x.name):=fun s=>(U.out s).2.2.2.1
   have b2:∀ s:cu wr,s.at_.cell? ⟨w.heap.size,4,none⟩=some (.bool P.g):=fun s=>(U.out s).2.2.2.2.1
   have b4:∀ s:cu wr,s.at_.cell? ⟨w.heap.size,5,none⟩=some (.slice P.B P.m P.d):=fun s=>(U.out s).2.2.2.2.2.1
   have b5:∀ s:cu wr,s.at_.cell? ⟨w.heap.size,6,none⟩=some (.slice P.C P.p P.f):=fun s=>(U.out s).2.2.2.2.2.2
   repeat(go_big_quiet_step ((go_at_call 17;with_reducible exact dw (bb.out _))))
   refine wpQuiet_nil ?_
   rintro _ ⟨s,rfl⟩
   have bp:=Gn (X.out.1.trans (s.ok.mono X.out.1.size))
   clear cc cf ch cj cl cq cv bL bP bT b1 b2 b4 b5 Q U bb HL J HS L a1 O ah
   generalize s.at_=W8 at*
   clear s
   cases g with
   |true=>
    obtain rfl:=Nd.jj.1 hg
    have HE:=Gn (ao.out _ _ (r.out k W8 hy X.out.2 bp.out))
    clear r ao X V hy hg
    go_wp2
    first|exact HE.out|exact GD (by simp[results,Tryz.results105,go_sem]) rfl HE.out
   |false=>
    have bE:y≠x:=fun e=>by rw[Nd.jj.2 e] at hg;cases hg
    have HN:Hid (∀ j,j<k+1->l[j]?≠some x):=fun j hj=>by
     by_cases cb:j<k
     ·exact X.out.2 j cb
     ·obtain rfl:j=k:=by omega
      rw[hy]
      exact fun e=>bE (Fk e)
    have cz:IntKind.i64.wrap ((k:Int)+1)=(k:Int)+1:=GR _ (by omega)
    clear r ao X V hy bE hg
    go_wp2
    go_roundw
    case rel=>exact⟨k+1,by omega,by go_num,bp.out,HN.out⟩
    case measure=>simp[intOf];omega
  ·obtain rfl:k=n:=by omega
   by_cases I:20000<=k
   ·have d1:decide ((20000:Int)<=(k:Int))=true:=FW (by omega)
    have d2:decide (20000<=k)=true:=FW I
    have HE:=Gn (ao.out _ _ (O.out wr X.out.2 I X.out.1))
    clear r ao X V J HS L a1 O ah I
    go_wp2
    first|exact HE.out|exact GD (by simp[results,Tryz.results105,go_sem]) rfl HE.out
   ·have d1:decide ((20000:Int)<=(k:Int))=false:=Gq (by omega)
    have d2:decide (20000<=k)=false:=Gq I
    have HR:=Gn (L.out.below X.out.1)
    have HE:=Gn fun A' c' W=>ah.out A' c' W X.out.2 (by omega)
    have ba:=Gn (a7.out.trans (X.out.1.mono a7.out.size))
    have bx:=Gn X.out.1
    clear r V HS L a1 O ah I a7
    have HL:=Gn hl
    have ca:=Gn ((J.out wr X.out.1).2)
    clear hk bD hl X
    go_wp2_with (first
     |(at_builtin;refine Ea _ rfl (.tmp 29) rfl A k c l rfl HR.out (by omega) ?_;intro A3 c3 w3 L3 o3 m3 n3 a3 b3;obtain⟨⟨bL,bP,bT,b1,b2,b4,b5⟩,_⟩:=J.out w3 (bx.out.trans (b3.mono bx.out.size));have bB:=Gn o3;have bz:=Gn n3;have bn:=Gn (Ig m3 a3);have b8:=Gn b3.size;have bo:=Gn b3;clear o3 m3 n3 a3 b3)
     |(at_builtin;refine zn _ rfl (.tmp 31) (.tmp 33) rfl wr.heap.size A3 c3 L3 k bz.out (P,x) rfl bB.out rfl (by omega) b8.out ?_;intro A5 c5 w5 o5 g5;have b7:=Gn o5;have b6:=Gn g5;clear o5 g5))
    have bl:Below wr.heap.size wr w5:=bo.out.grown b6.out bo.out.size (fun q hq=>by have:=bB.out;have e:=bz.out;subst e;exact(Gh this q hq).1)
    have b9:bO w5 (fun k=>G k\/w.heap.size<=k) A5 (k+1) c5 (l++[x]):=by
     refine b7.out.Et (by rw[Hf,bn.out.1];rfl) (by rw[Gb,HL.out];rfl) (fun q hq=>?_) (fun k hk=> .inr (Fo ba.out.size hk)) (Gp _ _)
     rcases F7.1 hq with hq|hq
     ·exact((bn.out.2 q hq).below bl).mono fun _=> .inl
     ·rw[F0.1 hq]
      exact(ca.out.below bl).mono fun _=> .inl
    have HF:=ao.out _ _ (HE.out A5 c5 w5 b9 (ba.out.trans (bl.mono ba.out.size)))
    first|exact HF|exact GD (by simp[results,Tryz.results105,go_sem]) rfl HF
def Tm.ju (op:Int):ByteArray:=match Tm.asks op with
 |none=>⟨#[]⟩
 |some (w,more,_)=>⟨((w++if more=true then[43] else[]).map UInt8.ofNat).toArray⟩
def Tm.rp (op:Int):ByteArray:=match Tm.asks op with
 |none=>⟨#[]⟩
 |some (_,_,o)=>⟨#[UInt8.ofNat o]⟩
theorem Tm.ei {op:Int} (h:¬(6<=op/\op<=30)):Tm.asks op=none:=by
 unfold Tm.asks
 repeat(rw[FQ (by omega)])
theorem ax {w:World} (op:Int) (x y:ByteArray) (r:Tm.ju op=x) (I:Tm.rp op=y) (h:Calls Tryz.prog 182 #[.int .i64 op] w fun e w'=>e=.returned (.tuple #[.string x,.string y])/\w'=w):
  Calls Tryz.prog 182 #[.int .i64 op] w fun e w'=>e=.returned (.tuple #[.string (Tm.ju op),.string (Tm.rp op)])/\w'=w:=by
 rw[r,I]
 exact h
theorem Cv (op:Int) (w:World):Calls Tryz.prog 182 #[.int .i64 op] w fun e w'=>e=.returned (.tuple #[.string (Tm.ju op),.string (Tm.rp op)])/\w'=w:=by
 by_cases h:6<=op/\op<=30
 ·have:op=6\/op=7\/op=8\/op=9\/op=10\/op=11\/op=12\/op=13\/op=14\/op=15\/op=16\/op=17\/op=18\/op=19\/op=20\/op=21\/op=22\/op=23\/op=24\/op=25\/op=26\/op=27\/op=28\/op=29\/op=30:=by omega
  rcases this with rfl|rfl|rfl|rfl|rfl|rfl|rfl|rfl|rfl|rfl|rfl|rfl|rfl|rfl|rfl|rfl|rfl|rfl|rfl|rfl|rfl|rfl|rfl|rfl|rfl
  ·exact ax 6 ⟨#[66]⟩ ⟨#[66]⟩ (by kernel_rfl) (by kernel_rfl) (by
    go_enter Tryz.func182,Tryz.ntmps182
    go_wp2
    first|exact⟨rfl,rfl⟩|exact GD (by simp[results,Tryz.results182,go_sem]) rfl ⟨rfl,rfl⟩)
  ·exact ax 7 ⟨#[66,66,43]⟩ ⟨#[66]⟩ (by kernel_rfl) (by kernel_rfl) (by
    go_enter Tryz.func182,Tryz.ntmps182
    go_wp2
    first|exact⟨rfl,rfl⟩|exact GD (by simp[results,Tryz.results182,go_sem]) rfl ⟨rfl,rfl⟩)
  ·exact ax 8 ⟨#[66,66,43]⟩ ⟨#[66]⟩ (by kernel_rfl) (by kernel_rfl) (by
    go_enter Tryz.func182,Tryz.ntmps182
    go_wp2
    first|exact⟨rfl,rfl⟩|exact GD (by simp[results,Tryz.results182,go_sem]) rfl ⟨rfl,rfl⟩)
  ·exact ax 9 ⟨#[66,66,43]⟩ ⟨#[66]⟩ (by kernel_rfl) (by kernel_rfl) (by
    go_enter Tryz.func182,Tryz.ntmps182
    go_wp2
    first|exact⟨rfl,rfl⟩|exact GD (by simp[results,Tryz.results182,go_sem]) rfl ⟨rfl,rfl⟩)
  ·exact ax 10 ⟨#[66,66,43]⟩ ⟨#[66]⟩ (by kernel_rfl) (by kernel_rfl) (by
    go_enter Tryz.func182,Tryz.ntmps182
    go_wp2
    first|exact⟨rfl,rfl⟩|exact GD (by simp[results,Tryz.results182,go_sem]) rfl ⟨rfl,rfl⟩)
  ·exact ax 11 ⟨#[97,61,43]⟩ ⟨#[66]⟩ (by kernel_rfl) (by kernel_rfl) (by
    go_enter Tryz.func182,Tryz.ntmps182
    go_wp2
    first|exact⟨rfl,rfl⟩|exact GD (by simp[results,Tryz.results182,go_sem]) rfl ⟨rfl,rfl⟩)
  ·exact ax 12 ⟨#[97,61,43]⟩ ⟨#[66]⟩ (by kernel_rfl) (by kernel_rfl) (by
    go_enter Tryz.func182,Tryz.ntmps182
    go_wp2
    first|exact⟨rfl,rfl⟩|exact GD (by simp[results,Tryz.results182,go_sem]) rfl ⟨rfl,rfl⟩)
  ·exact ax 13 ⟨#[66,97,61]⟩ ⟨#[61]⟩ (by kernel_rfl) (by kernel_rfl) (by
    go_enter Tryz.func182,Tryz.ntmps182
    go_wp2
    first|exact⟨rfl,rfl⟩|exact GD (by simp[results,Tryz.results182,go_sem]) rfl ⟨rfl,rfl⟩)
  ·exact ax 14 ⟨#[73]⟩ ⟨#[73]⟩ (by kernel_rfl) (by kernel_rfl) (by
    go_enter Tryz.func182,Tryz.ntmps182
    go_wp2
    first|exact⟨rfl,rfl⟩|exact GD (by simp[results,Tryz.results182,go_sem]) rfl ⟨rfl,rfl⟩)
  ·exact ax 15 ⟨#[73,73,43]⟩ ⟨#[73]⟩ (by kernel_rfl) (by kernel_rfl) (by
    go_enter Tryz.func182,Tryz.ntmps182
    go_wp2
    first|exact⟨rfl,rfl⟩|exact GD (by simp[results,Tryz.results182,go_sem]) rfl ⟨rfl,rfl⟩)
  ·exact ax 16 ⟨#[73,73,43]⟩ ⟨#[73]⟩ (by kernel_rfl) (by kernel_rfl) (by
    go_enter Tryz.func182,Tryz.ntmps182
    go_wp2
    first|exact⟨rfl,rfl⟩|exact GD (by simp[results,Tryz.results182,go_sem]) rfl ⟨rfl,rfl⟩)
  ·exact ax 17 ⟨#[73,73,43]⟩ ⟨#[73]⟩ (by kernel_rfl) (by kernel_rfl) (by
    go_enter Tryz.func182,Tryz.ntmps182
    go_wp2
    first|exact⟨rfl,rfl⟩|exact GD (by simp[results,Tryz.results182,go_sem]) rfl ⟨rfl,rfl⟩)
  ·exact ax 18 ⟨#[73,73,43]⟩ ⟨#[66]⟩ (by kernel_rfl) (by kernel_rfl) (by
    go_enter Tryz.func182,Tryz.ntmps182
    go_wp2
    first|exact⟨rfl,rfl⟩|exact GD (by simp[results,Tryz.results182,go_sem]) rfl ⟨rfl,rfl⟩)
  ·exact ax 19 ⟨#[73,73,43]⟩ ⟨#[66]⟩ (by kernel_rfl) (by kernel_rfl) (by
    go_enter Tryz.func182,Tryz.ntmps182
    go_wp2
    first|exact⟨rfl,rfl⟩|exact GD (by simp[results,Tryz.results182,go_sem]) rfl ⟨rfl,rfl⟩)
  ·exact ax 20 ⟨#[73,73,43]⟩ ⟨#[66]⟩ (by kernel_rfl) (by kernel_rfl) (by
    go_enter Tryz.func182,Tryz.ntmps182
    go_wp2
    first|exact⟨rfl,rfl⟩|exact GD (by simp[results,Tryz.results182,go_sem]) rfl ⟨rfl,rfl⟩)
  ·exact ax 21 ⟨#[73,73,43]⟩ ⟨#[66]⟩ (by kernel_rfl) (by kernel_rfl) (by
    go_enter Tryz.func182,Tryz.ntmps182
    go_wp2
    first|exact⟨rfl,rfl⟩|exact GD (by simp[results,Tryz.results182,go_sem]) rfl ⟨rfl,rfl⟩)
  ·exact ax 22 ⟨#[83,83,43]⟩ ⟨#[83]⟩ (by kernel_rfl) (by kernel_rfl) (by
    go_enter Tryz.func182,Tryz.ntmps182
    go_wp2
    first|exact⟨rfl,rfl⟩|exact GD (by simp[results,Tryz.results182,go_sem]) rfl ⟨rfl,rfl⟩)
  ·exact ax 23 ⟨#[83]⟩ ⟨#[73]⟩ (by kernel_rfl) (by kernel_rfl) (by
    go_enter Tryz.func182,Tryz.ntmps182
    go_wp2
    first|exact⟨rfl,rfl⟩|exact GD (by simp[results,Tryz.results182,go_sem]) rfl ⟨rfl,rfl⟩)
  ·exact ax 24 ⟨#[83,73]⟩ ⟨#[83]⟩ (by kernel_rfl) (by kernel_rfl) (by
    go_enter Tryz.func182,Tryz.ntmps182
    go_wp2
    first|exact⟨rfl,rfl⟩|exact GD (by simp[results,Tryz.results182,go_sem]) rfl ⟨rfl,rfl⟩)
  ·exact ax 25 ⟨#[83,73,73]⟩ ⟨#[83]⟩ (by kernel_rfl) (by kernel_rfl) (by
    go_enter Tryz.func182,Tryz.ntmps182
    go_wp2
    first|exact⟨rfl,rfl⟩|exact GD (by simp[results,Tryz.results182,go_sem]) rfl ⟨rfl,rfl⟩)
  ·exact ax 26 ⟨#[83,83]⟩ ⟨#[66]⟩ (by kernel_rfl) (by kernel_rfl) (by
    go_enter Tryz.func182,Tryz.ntmps182
    go_wp2
    first|exact⟨rfl,rfl⟩|exact GD (by simp[results,Tryz.results182,go_sem]) rfl ⟨rfl,rfl⟩)
  ·exact ax 27 ⟨#[83,83]⟩ ⟨#[66]⟩ (by kernel_rfl) (by kernel_rfl) (by
    go_enter Tryz.func182,Tryz.ntmps182
    go_wp2
    first|exact⟨rfl,rfl⟩|exact GD (by simp[results,Tryz.results182,go_sem]) rfl ⟨rfl,rfl⟩)
  ·exact ax 28 ⟨#[83,83]⟩ ⟨#[66]⟩ (by kernel_rfl) (by kernel_rfl) (by
    go_enter Tryz.func182,Tryz.ntmps182
    go_wp2
    first|exact⟨rfl,rfl⟩|exact GD (by simp[results,Tryz.results182,go_sem]) rfl ⟨rfl,rfl⟩)
  ·exact ax 29 ⟨#[83,83,73]⟩ ⟨#[73]⟩ (by kernel_rfl) (by kernel_rfl) (by
    go_enter Tryz.func182,Tryz.ntmps182
    go_wp2
    first|exact⟨rfl,rfl⟩|exact GD (by simp[results,Tryz.results182,go_sem]) rfl ⟨rfl,rfl⟩)
  ·exact ax 30 ⟨#[83,83,83]⟩ ⟨#[83]⟩ (by kernel_rfl) (by kernel_rfl) (by
    go_enter Tryz.func182,Tryz.ntmps182
    go_wp2
    first|exact⟨rfl,rfl⟩|exact GD (by simp[results,Tryz.results182,go_sem]) rfl ⟨rfl,rfl⟩)
 ·have r:Tm.ju op=⟨#[]⟩:=by unfold Tm.ju;rw[Tm.ei h]
  have I:Tm.rp op=⟨#[]⟩:=by unfold Tm.rp;rw[Tm.ei h]
  rw[r,I]
  have d6:(op == 6)=false:=Gx.2 (by omega)
  have d7:(op == 7)=false:=Gx.2 (by omega)
  have d8:(op == 8)=false:=Gx.2 (by omega)
  have d9:(op == 9)=false:=Gx.2 (by omega)
  have d10:(op == 10)=false:=Gx.2 (by omega)
  have d11:(op == 11)=false:=Gx.2 (by omega)
  have d12:(op == 12)=false:=Gx.2 (by omega)
  have d13:(op == 13)=false:=Gx.2 (by omega)
  have d14:(op == 14)=false:=Gx.2 (by omega)
  have d15:(op == 15)=false:=Gx.2 (by omega)
  have d16:(op == 16)=false:=Gx.2 (by omega)
  have d17:(op == 17)=false:=Gx.2 (by omega)
  have d18:(op == 18)=false:=Gx.2 (by omega)
  have d19:(op == 19)=false:=Gx.2 (by omega)
  have d20:(op == 20)=false:=Gx.2 (by omega)
  have d21:(op == 21)=false:=Gx.2 (by omega)
  have d22:(op == 22)=false:=Gx.2 (by omega)
  have d23:(op == 23)=false:=Gx.2 (by omega)
  have d24:(op == 24)=false:=Gx.2 (by omega)
  have d25:(op == 25)=false:=Gx.2 (by omega)
  have d26:(op == 26)=false:=Gx.2 (by omega)
  have d27:(op == 27)=false:=Gx.2 (by omega)
  have d28:(op == 28)=false:=Gx.2 (by omega)
  have d29:(op == 29)=false:=Gx.2 (by omega)
  have d30:(op == 30)=false:=Gx.2 (by omega)
  clear h
  go_enter Tryz.func182,Tryz.ntmps182
  go_wp2
  first|exact⟨rfl,rfl⟩|exact GD (by simp[results,Tryz.results182,go_sem]) rfl ⟨rfl,rfl⟩
theorem xY (s:Int) (h:1<=s) (r:s<=3) (w:World):Calls Tryz.prog 183 #[.int .i64 s] w fun e w'=>e=.returned (.int .u8 (Tm.letter s:Nat))/\w'=w:=by
 have:s=1\/s=2\/s=3:=by omega
 rcases this with rfl|rfl|rfl
 all_goals
  go_enter Tryz.func183,Tryz.ntmps183
  go_wp2
  go_ret
  exact⟨rfl,rfl⟩
theorem jc (c:Nat) (w:World):Calls Tryz.prog 185 #[.int .u8 (c:Int)] w fun e w'=>e=.returned (.int .i64 (Tm.dj c))/\w'=w:=by
 unfold Tm.dj
 by_cases h:c=66
 ·subst h
  go_enter Tryz.func185,Tryz.ntmps185
  go_wp2
  go_ret
  exact⟨rfl,rfl⟩
 have d1:((c:Int) == 66)=false:=Gx.2 (by omega)
 rw[FQ h]
 by_cases r:c=73
 ·subst r
  go_enter Tryz.func185,Tryz.ntmps185
  go_wp2
  go_ret
  exact⟨rfl,rfl⟩
 have d2:((c:Int) == 73)=false:=Gx.2 (by omega)
 rw[FQ r]
 clear h r
 go_enter Tryz.func185,Tryz.ntmps185
 go_wp2
 go_ret
 exact⟨rfl,rfl⟩
theorem yZ (w:World) (A:Option Addr) (n c:Nat) (l:List Nd) {G:Nat->Prop} (h:bO w G A n c l) (hl:Tm.Inv l) (p:Nat) (hp:p<n):
  Calls Tryz.prog 184 #[.slice A n c,.int .i64 (p:Int)] w fun e w'=>e=.returned (.bool (Tm.isNum l p))/\Below w.heap.size w w':=by
 obtain⟨b,off,x,P,rfl,Q,hb,U,hc⟩:=h.get hp
 have J:Tm.opAt l (p:Int)=x.op:=by unfold Tm.opAt;rw[Ih,Q];rfl
 have hq:((l[(p:Int).toNat]?.map (·.a)).getD [])=x.a:=by rw[Ih,Q];rfl
 obtain⟨g0,g1,g2,g3,g4,g5,g6⟩:=hc w (Gp _ _)
 have bn:(p:Int)<(n:Int):=by omega
 have bb:(0:Int)<=(p:Int):=by omega
 have bl:Below w.heap.size w (w.alloc (.cells (P.cells x) 50)):=(Gp _ w).alloc (Fm _) _
 by_cases L:x.op=4
 ·have d4:(x.op == 4)=true:=Gw.2 L
  have O:Tm.isNum l (p:Int)=true:=by unfold Tm.isNum;rw[J,FW L];rfl
  rw[O]
  clear O L J hq h hl U hc Q
  go_enter Tryz.func184,Tryz.ntmps184
  go_wp2
  go_ret
  exact⟨rfl,bl⟩
 have d4:(x.op == 4)=false:=Gx.2 L
 by_cases I:x.op=14
 ·have d14:(x.op == 14)=true:=Gw.2 I
  obtain⟨q,a,ha⟩:∃ q a,x.a=q::a:=by
   cases e:x.a with
   |nil=>exact absurd e (hl.neg x (FP Q) I)
   |cons q a=>exact⟨q,a,rfl⟩
  have ao:=hl.part _ x Q q (by rw[ha];simp)
  obtain⟨r,rfl⟩:∃ r:Nat,q=(r:Int):=⟨q.toNat,by omega⟩
  obtain⟨bA,oA,eA,a7,X⟩:=U.a.at_ (by have:=U.a.len;rw[ha] at this;simp at this;omega)
  have ba:(0:Int)<(P.n:Int):=by have:=U.a.len;rw[ha] at this;simp at this;omega
  have gA:=X 0 (r:Int) (by rw[ha];rfl)
  rw[Ho] at gA
  obtain⟨b',Z,y,R,e',hy,ah,_,V⟩:=h.get (i:=r) (by omega)
  obtain⟨rfl,rfl⟩:b=b'/\off=Z:=by
   injection e' with e'
   injection e' with e1 e2
   exact⟨e1,e2⟩
  have k0:=(V w (Gp _ _)).1
  have bp:(r:Int)<(n:Int):=by omega
  have bo:(0:Int)<=(r:Int):=by omega
  have O:Tm.isNum l (p:Int)=(y.op == 4):=by
   unfold Tm.isNum
   rw[J,hq,ha,List.headD_cons,Gq L,FW I,Ii,Bool.true_and]
   have:Tm.opAt l (r:Int)=y.op:=by unfold Tm.opAt;rw[Ih,hy];rfl
   rw[this]
   rfl
  rw[O]
  rw[eA] at g2
  have ad:Below w.heap.size w (w.alloc (.cells #[.int .i64 x.op,.int .i64 x.sort,.slice (some ⟨bA,oA,none⟩) P.n P.c,.string x.name,.bool P.g,.slice P.B P.m P.d,.slice P.C P.p P.f] 50)):=(Gp _ w).alloc (Fm _) _
  clear bl eA
  have a1:¬bA=w.heap.size:=by omega
  have av:¬b=w.heap.size:=by omega
  obtain⟨s,hs⟩:∃ s,(y.op == 4)=s:=⟨_,rfl⟩
  rw[hs]
  clear O L I J hq h hl U hc Q ha ao X V hy e' ah
  go_enter Tryz.func184,Tryz.ntmps184
  go_wp2
  go_ret
  exact⟨rfl,ad⟩
 ·have d14:(x.op == 14)=false:=Gx.2 I
  have O:Tm.isNum l (p:Int)=false:=by unfold Tm.isNum;rw[J,Gq L,Gq I];rfl
  rw[O]
  clear O L I J hq h hl U hc Q
  go_enter Tryz.func184,Tryz.ntmps184
  go_wp2
  go_ret
  exact⟨rfl,bl⟩
end Go.Proofs.YtdbgiijdgedggaaGreatDoor
