import Derived.Test.YtdbgiijdgedggaaGreatDoorQM18
import Derived.Test.YtdbgiijdgedggaaGreatDoorQM19
import Derived.Maps.OwnRows
import Derived.WalkSmall
import Derived.Laws.OwnMore
set_option linter.unusedSimpArgs false
set_option linter.unusedVariables false
set_option maxRecDepth 100000
set_option maxHeartbeats 25600000
namespace Go.Proofs.YtdbgiijdgedggaaGreatDoor
open Go.RowKit
theorem gC:Maps.Keyed Tryz.prog 9:=Maps.string_keyed Tryz.underlying9
abbrev dF (s:ByteArray):Lit:=.string s.data.toList
theorem kF {s t:ByteArray} (h:dF s=dF t):s=t:=by
 injection h with h
 exact ByteArray.ext (Array.toList_inj.1 h)
def cw (D:DataW Unit) (g:ByteArray->Option Int):Prop:=
 ∀ s:ByteArray,s.size<=maxLen->(g s=none->Maps.has D (dF s)=false)/\∀ i,g s=some i->Maps.has D (dF s)=true/\D.atKey (dF s) (.lit (.int .i64 0))=.lit (.int .i64 i)
theorem cw.none_:cw (.map []) (fun _=>none):=fun _ _=>⟨fun _=>rfl,fun _ e=>by cases e⟩
theorem cw.put {D:DataW Unit} {g:ByteArray->Option Int} (h:cw D g) (ht:Maps.Tidy D) (s:ByteArray) (v:Int):cw (D.put (dF s) (.lit (.int .i64 v))) (fun t=>if t=s then some v else g t):=fun t L=>by
 have I:WideAt.IsKeyLit (dF s):=by trivial
 by_cases e:t=s
 ·subst e
  refine⟨fun J=>by simp at J,fun i hi=>?_⟩
  obtain rfl:v=i:=by simpa using hi
  exact⟨by rw[Maps.has_put_same ht.isMap I],by rw[Maps.atKey_put_same ht.isMap I]⟩
 ·have r:dF t≠dF s:=fun O=>e (kF O)
  obtain⟨Q,U⟩:=h t L
  refine⟨fun J=>?_,fun i hi=>?_⟩
  ·rw[Iv r];exact Q (by simpa [e] using J)
  ·obtain⟨V,X⟩:=U i (by simpa [e] using hi)
   exact⟨by rw[Iv r];exact V,by rw[Maps.atKey_put_other r];exact X⟩
theorem cw.congr {D:DataW Unit} {g r:ByteArray->Option Int} (h:cw D g) (e:∀ s,g s=r s):cw D r:=by
 have:g=r:=funext e
 rw[<-this]
 exact h
theorem DA {w:World} {b q:Nat} {D:DataW Unit} {g:ByteArray->Option Int} (Q:w.ownsMap Tryz.prog 9 (plainElem Tryz.prog 3) b q D) (ht:cw D g) (s:ByteArray) (hs:s.size<=maxLen):
  (Instr.lookup 115 (.map (some b)) (.string s) true).run Tryz.prog w=.ok (.tuple #[.int .i64 ((g s).getD 0),.bool (g s).isSome]) w:=by
 obtain⟨v,ps,h,hv⟩:=Q.look_ok gC Tryz.underlying115 (ik w) (Iu Tryz.underlying3 (by decide)) (IG (P:=Tryz.prog) Tryz.underlying9 hs)
 obtain⟨c,rfl,O,_⟩:=plainElem_int_inv Tryz.underlying3 hv
 have r:=G1 Prod.fst O
 simp only at r
 obtain⟨t1,t2⟩:=ht s hs
 cases I:g s with
 |none=>
  have e:=t1 I
  rw[Maps.atKey_of_not_has e] at r
  rw[h,e,<-eM r]
  rfl
 |some i=>
  obtain⟨J,L⟩:=t2 i I
  rw[L] at r
  rw[h,J,<-eM r]
  rfl
theorem uV (w:World) (s:ByteArray) (hs:s.size<=maxLen):
  (Instr.lookup 115 (.map none) (.string s) true).run Tryz.prog w=.ok (.tuple #[.int .i64 0,.bool false]) w:=by
 have:=Maps.look_nil (w:=w) (P:=Tryz.prog) true gC Tryz.underlying115 (ik w) (IG (P:=Tryz.prog) Tryz.underlying9 hs)
 simpa using this
structure iZ where
 A:Option Addr
 c:Nat
 B:Option Addr
 d:Nat
abbrev fN (P:iZ) (d:Dc):List Value:=[.string d.name,.int .i64 d.sort,.bool d.cL,.slice P.A d.par.length P.c,.bool d.body.list,.int .i64 d.body.k,.string d.body.T,.int .i64 d.body.ta,.int .i64 d.body.at_,.slice P.B d.body.L.length P.d]
theorem au.bR {F G G':Nat->Prop} {w w':World} {A:Option Addr} {l:List Sx} (h:au w (fun b _=>G b) A l) (ht:ae F w w') (J:∀ k,k<w.heap.size->G k->¬F k/\G' k):au w' (fun b _=>G' b) A l:=
 h.imp ht.size (fun b off r I j _=>ht.cell (p:=⟨b,off+j,none⟩) r (J b r I).1) fun _ _ r I=>(J _ r I).2
structure nU (w:World) (G:Nat->Prop) (A:Option Addr) (l:List (ByteArray×Int)):Prop where
 at_:0<l.length->∃ b off,A=some ⟨b,off,none⟩/\G b/\b<w.heap.size/\∀ (i:Nat) p,l[i]?=some p->w.cell? ⟨b,off+i*2,none⟩=some (.string p.1)/\w.cell? ⟨b,off+i*2+1,none⟩=some (.int .i64 p.2)
theorem nU.turn {F G G':Nat->Prop} {w w':World} {A:Option Addr} {l:List (ByteArray×Int)} (h:nU w G A l) (ht:ae F w w') (J:∀ k,k<w.heap.size->G k->¬F k/\G' k):nU w' G' A l:=
 ⟨fun hn=>by
  obtain⟨b,off,e,L,r,hc⟩:=h.at_ hn
  obtain⟨hF,I⟩:=J b r L
  exact⟨b,off,e,I,Fp r ht.size,fun i p hp=>⟨(ht.cell (p:=⟨b,off+i*2,none⟩) r hF).trans (hc i p hp).1,(ht.cell (p:=⟨b,off+i*2+1,none⟩) r hF).trans (hc i p hp).2⟩⟩⟩
structure sj (w:World) (G:Nat->Prop) (P:iZ) (d:Dc):Prop where
 par:nU w G P.A d.par
 body:aJ w (fun b _=>G b) d.body P.B P.d
theorem sj.turn {F G G':Nat->Prop} {w w':World} {P:iZ} {d:Dc} (h:sj w G P d) (ht:ae F w w') (r:∀ k,k<w.heap.size->G k->¬F k/\G' k):sj w' G' P d:=⟨h.par.turn ht r,h.body.le,h.body.tree.bR ht r⟩
structure rX (w:World) (G:Nat->Prop) (A:Option Addr) (n c:Nat) (L:List (iZ×Dc)):Prop where
 len:L.length=n
 nil:A=none->n=0/\c=0
 at_:0<n->∃ b off,A=some ⟨b,off,none⟩/\G b/\b<w.heap.size/\∀ (i:Nat) q,L[i]?=some q->(∀ j u,(fN q.1 q.2)[j]?=some u->w.cell? ⟨b,off+i*10+j,none⟩=some u)/\sj w G q.1 q.2
theorem rX.turn {F G G':Nat->Prop} {w w':World} {A:Option Addr} {n c:Nat} {L:List (iZ×Dc)} (h:rX w G A n c L) (ht:ae F w w') (J:∀ k,k<w.heap.size->G k->¬F k/\G' k):rX w' G' A n c L:=
 ⟨h.len,h.nil,fun hn=>by
  obtain⟨b,off,e,Q,r,hc⟩:=h.at_ hn
  obtain⟨hF,I⟩:=J b r Q
  exact⟨b,off,e,I,Fp r ht.size,fun i q O=>⟨fun j u hu=>(ht.cell (p:=⟨b,off+i*10+j,none⟩) r hF).trans ((hc i q O).1 j u hu),(hc i q O).2.turn ht J⟩⟩⟩
theorem rX.get {w:World} {G:Nat->Prop} {A:Option Addr} {n c i:Nat} {L:List (iZ×Dc)} (h:rX w G A n c L) (hi:i<n):
  ∃ b off P d,A=some ⟨b,off,none⟩/\b<w.heap.size/\L[i]?=some (P,d)/\(L.map (·.2))[i]?=some d/\sj w G P d/\∀ w',ae (fun k=>¬G k) w w'->b<w'.heap.size/\∀ j u,(fN P d)[j]?=some u->w'.cell? ⟨b,off+i*10+j,none⟩=some u:=by
 obtain⟨b,off,e,J,r,hc⟩:=h.at_ (by omega)
 obtain⟨q,I⟩:∃ q,L[i]?=some q:=⟨_,Ge (by rw[h.len];exact hi)⟩
 exact⟨b,off,q.1,q.2,e,r,I,by rw[Fj,I];rfl,(hc i q I).2,fun w' hw=>⟨Fp r hw.size,fun j u hu=>(hw.cell (p:=⟨b,off+i*10+j,none⟩) r fun e=>e J).trans ((hc i q I).1 j u hu)⟩⟩
def Mk.spell (j:Nat) (A:List Int):List UInt8:=Lib.itoa (j:Int)++A.flatMap fun z=>32::Lib.itoa z
abbrev Mk.key (j:Nat) (A:List Int):ByteArray:=⟨(Mk.spell j A).toArray⟩
theorem fC (z:Int):(32:UInt8)∉Lib.itoa z:=by
 intro h
 unfold Lib.itoa at h
 split at h
 ·rcases FE.1 h with h|h
  ·exact absurd h (by decide)
  ·exact absurd (fi _ _ h).1 (by decide)
 ·exact absurd (fi _ _ h).1 (by decide)
theorem gh:∀ {a b c d:List UInt8},(32:UInt8)∉a->(32:UInt8)∉c->(b=[]\/b.head?=some 32)->(d=[]\/d.head?=some 32)->a++b=c++d->a=c/\b=d
 |[],b,[],d,_,_,_,_,h=>⟨rfl,h⟩
 |[],b,y::c,d,_,hc,hb,_,h=>by
  exfalso
  rw[FY] at h
  rcases hb with rfl|hb
  ·cases h
  ·rw[h] at hb
   have:y=32:=by simpa using hb
   exact hc (by rw[this];exact Gc)
 |x::a,b,[],d,ha,_,_,hd,h=>by
  exfalso
  rw[FY] at h
  rcases hd with rfl|hd
  ·cases h
  ·rw[<-h] at hd
   have:x=32:=by simpa using hd
   exact ha (by rw[this];exact Gc)
 |x::a,b,y::c,d,ha,hc,hb,hd,h=>by
  injection h with J L
  obtain⟨r,I⟩:=gh (fun m=>ha (Gd _ m)) (fun m=>hc (Gd _ m)) hb hd L
  exact⟨by rw[J,r],I⟩
theorem fO (A:List Int):(A.flatMap fun z=>(32:UInt8)::Lib.itoa z)=[]\/(A.flatMap fun z=>(32:UInt8)::Lib.itoa z).head?=some 32:=by
 cases A with
 |nil=>exact .inl rfl
 |cons z A=>exact .inr rfl
theorem my:∀ {A B:List Int},(A.flatMap fun z=>(32:UInt8)::Lib.itoa z)=(B.flatMap fun z=>(32:UInt8)::Lib.itoa z)->A=B
 |[],[],_=>rfl
 |[],z::B,h=>by cases h
 |z::A,[],h=>by cases h
 |z::A,y::B,h=>by
  rw[GI,GI,FZ,FZ] at h
  injection h with _ h
  obtain⟨r,I⟩:=gh (fC z) (fC y) (fO A) (fO B) h
  rw[lg r,my I]
theorem Mk.ij {j k:Nat} {A B:List Int} (h:Mk.spell j A=Mk.spell k B):j=k/\A=B:=by
 obtain⟨r,I⟩:=gh (fC _) (fC _) (fO A) (fO B) h
 exact⟨by have:=lg r;omega,my I⟩
theorem Mk.key_inj {j k:Nat} {A B:List Int} (h:Mk.key j A=Mk.key k B):j=k/\A=B:=Mk.ij (by
 have:=G1 (fun s:ByteArray=>s.data.toList) h
 simpa using this)
def kb (D:DataW Unit) (m:List (Nat×List Int×Int)):Prop:=
 ∀ (j:Nat) (A:List Int),(Mk.hit m j A=none->Maps.has D (dF (Mk.key j A))=false)/\∀ i,Mk.hit m j A=some i->Maps.has D (dF (Mk.key j A))=true/\D.atKey (dF (Mk.key j A)) (.lit (.int .i64 0))=.lit (.int .i64 i)
theorem kb.none_:kb (.map []) []:=fun _ _=>⟨fun _=>rfl,fun _ e=>by cases e⟩
theorem Mk.jD (j k:Nat) (A B:List Int) (id:Int) (m:List (Nat×List Int×Int)):Mk.hit ((j,A,id)::m) k B=if j=k/\A=B then some id else Mk.hit m k B:=by
 unfold Mk.hit
 rw[List.find?_cons]
 by_cases e:j=k/\A=B
 ·rw[Fx e,FW (show(j,A,id).1=k/\(j,A,id).2.1=B from e)];rfl
 ·rw[FQ e,Gq (show ¬((j,A,id).1=k/\(j,A,id).2.1=B) from e)]
theorem Mk.sh {j k:Nat} {A B:List Int} (m:List (Nat×List Int×Int)) (h:¬(j=k/\A=B)):Mk.hit (m.filter fun q=> !decide (q.1=j/\q.2.1=A)) k B=Mk.hit m k B:=by
 induction m with
 |nil=>rfl
 |cons q m r=>
  obtain⟨a,b,c⟩:=q
  rw[Mk.jD]
  by_cases e:a=j/\b=A
  ·obtain⟨rfl,rfl⟩:=e
   rw[IC (by simp),r,FQ h]
  ·rw[ID (by rw[Bool.not_eq_true',Hr];exact e),Mk.jD,r]
theorem Mk.zT (j k:Nat) (A B:List Int) (id:Int) (m:List (Nat×List Int×Int)):Mk.hit (Mk.put m j A id) k B=if j=k/\A=B then some id else Mk.hit m k B:=by
 unfold Mk.put
 rw[Mk.jD]
 by_cases e:j=k/\A=B
 ·rw[Fx e,Fx e]
 ·rw[FQ e,FQ e,Mk.sh m e]
theorem kb.put {D:DataW Unit} {m:List (Nat×List Int×Int)} (h:kb D m) (ht:Maps.Tidy D) (j:Nat) (A:List Int) (id:Int):kb (D.put (dF (Mk.key j A)) (.lit (.int .i64 id))) (Mk.put m j A id):=fun k B=>by
 have I:WideAt.IsKeyLit (dF (Mk.key j A)):=by trivial
 rw[Mk.zT]
 by_cases e:j=k/\A=B
 ·obtain⟨rfl,rfl⟩:=e
  rw[Fx ⟨rfl,rfl⟩]
  refine⟨fun J=>(by cases J),fun i hi=>?_⟩
  obtain rfl:=Fk hi
  exact⟨by rw[Maps.has_put_same ht.isMap I],by rw[Maps.atKey_put_same ht.isMap I]⟩
 ·have r:dF (Mk.key k B)≠dF (Mk.key j A):=fun O=>e (by have:=Mk.key_inj (kF O);exact⟨this.1.symm,this.2.symm⟩)
  rw[FQ e]
  obtain⟨Q,L⟩:=h k B
  exact⟨fun J=>by rw[Iv r];exact Q J,fun i hi=>⟨by rw[Iv r];exact(L i hi).1,by rw[Maps.atKey_put_other r];exact(L i hi).2⟩⟩
def Mk.Keys (m:List (Nat×List Int×Int)):Prop:=(m.map fun q=>(q.1,q.2.1)).Nodup
theorem Mk.Keys.put {m:List (Nat×List Int×Int)} (h:Mk.Keys m) (j:Nat) (A:List Int) (id:Int):Mk.Keys (Mk.put m j A id):=by
 unfold Mk.Keys Mk.put
 rw[GK,List.nodup_cons]
 refine⟨fun hm=>?_,?_⟩
 ·obtain⟨q,J,e⟩:=Hh.1 hm
  have:=(Io.1 J).2
  injection e with r I
  simp at this
  exact this.elim (fun f=>f r) fun f=>f I
 ·exact List.Nodup.sublist (List.Sublist.map _ List.filter_sublist) h
theorem Mk.Bb {m:List (Nat×List Int×Int)} (h:Mk.Keys m) (j:Nat) (A:List Int) (id:Int):(Mk.put m j A id).length=if(Mk.hit m j A).isSome=true then m.length else m.length+1:=by
 unfold Mk.put
 rw[FG]
 induction m with
 |nil=>rfl
 |cons q m r=>
  obtain⟨a,b,c⟩:=q
  unfold Mk.Keys at h
  rw[GK,List.nodup_cons] at h
  have r:=r h.2
  rw[Mk.jD]
  by_cases e:a=j/\b=A
  ·obtain⟨rfl,rfl⟩:=e
   rw[IC (by simp),Fx (show a=a/\b=b from⟨rfl,rfl⟩)]
   have I:Mk.hit m a b=none:=by
    cases J:Mk.hit m a b with
    |none=>rfl
    |some i=>exact absurd (Hh.2 ⟨_,Mk.nR J,rfl⟩) h.1
   rw[I] at r
   simp at r ⊢
   omega
  ·rw[ID (by rw[Bool.not_eq_true',Hr];exact e),FQ e,FG,r]
   split <;> simp
structure iw (w:World) (b:Nat) (m:List (Nat×List Int×Int)):Prop where
 own:∃ D,w.ownsMap Tryz.prog 9 (plainElem (H:=Unit) Tryz.prog 3) b m.length D/\kb D m/\Maps.size D=m.length
 keys:Mk.Keys m
theorem iw.turn {F:Nat->Prop} {w w':World} {b:Nat} {m:List (Nat×List Int×Int)} (h:iw w b m) (ht:ae F w w') (hb:¬F b):iw w' b m:=by
 obtain⟨⟨D,r,I⟩,J⟩:=h
 exact⟨⟨D,ht.map r hb,I⟩,J⟩
theorem Mk.lX {j:Nat} {A:List Int} (Q:j<=1000) (hA:∀ z∈A,(Lit.int .i64 z).wf=true) (hl:A.length<=1000):(Mk.key j A).size<=30000:=by
 show(Mk.spell j A).toArray.size<=_
 rw[List.size_toArray]
 unfold Mk.spell
 rw[Gb]
 have J:=Iq (j:Int) (by omega) (by omega)
 have r:∀ B:List Int,(∀ z∈B,(Lit.int .i64 z).wf=true)->(B.flatMap fun z=>(32:UInt8)::Lib.itoa z).length<=B.length*22:=fun B=>by
  induction B with
  |nil=>intro _;simp
  |cons z B I=>
   intro h
   have L:=I fun y hy=>h y (Gd _ hy)
   have hw:=bounds_i64 (h z Gc)
   have O:=Iq z hw.1 hw.2
   rw[GI,Gb,FG,FG]
   omega
 have:=r A hA
 omega
theorem iw.look {w:World} {b:Nat} {m:List (Nat×List Int×Int)} (h:iw w b m) {j:Nat} {A:List Int} (hs:(Mk.key j A).size<=maxLen):
  (Instr.lookup 115 (.map (some b)) (.string (Mk.key j A)) true).run Tryz.prog w=.ok (.tuple #[.int .i64 ((Mk.hit m j A).getD 0),.bool (Mk.hit m j A).isSome]) w:=by
 obtain⟨⟨D,U,ht,_⟩,_⟩:=h
 obtain⟨v,ps,r,hv⟩:=U.look_ok gC Tryz.underlying115 (ik w) (Iu Tryz.underlying3 (by decide)) (IG (P:=Tryz.prog) Tryz.underlying9 hs)
 obtain⟨c,rfl,Q,_⟩:=plainElem_int_inv Tryz.underlying3 hv
 have I:=G1 Prod.fst Q
 simp only at I
 obtain⟨t1,t2⟩:=ht j A
 cases J:Mk.hit m j A with
 |none=>
  have e:=t1 J
  rw[Maps.atKey_of_not_has e] at I
  rw[r,e,<-eM I]
  rfl
 |some i=>
  obtain⟨L,O⟩:=t2 i J
  rw[O] at I
  rw[r,L,<-eM I]
  rfl
def jB (w:World) (G:Nat->Prop) (v:Value) (x:iH):Prop:=
 (v=.map none/\x.bh=[])\/∃ b q D,v=.map (some b)/\G b/\w.ownsMap Tryz.prog 9 (plainElem (H:=Unit) Tryz.prog 3) b q D/\cw D (Bd.bound x.bh)
theorem jB.turn {F G G':Nat->Prop} {w w':World} {v:Value} {x:iH} (h:jB w G v x) (ht:ae F w w') (J:∀ k,k<w.heap.size->G k->¬F k/\G' k):jB w' G' v x:=by
 rcases h with h|⟨b,q,D,L,I,r,O⟩
 ·exact .inl h
 ·exact .inr ⟨b,q,D,L,(J b r.lt I).2,ht.map r (J b r.lt I).1,O⟩
theorem jB.look {w:World} {G:Nat->Prop} {v:Value} {x:iH} (h:jB w G v x) (s:ByteArray) (hs:s.size<=maxLen):
  (Instr.lookup 115 v (.string s) true).run Tryz.prog w=.ok (.tuple #[.int .i64 ((Bd.bound x.bh s).getD 0),.bool (Bd.bound x.bh s).isSome]) w:=by
 rcases h with⟨rfl,h⟩|⟨b,q,D,rfl,_,r,I⟩
 ·rw[h]
  exact uV w s hs
 ·exact DA r I s hs
def jK (w:World) (G:Nat->Prop) (M:Nat) (v:Value):Kt->Prop
 | .none=>v=.nilFunc
 | .op o=>∃ h r,v=.func (.func 236) #[] #[.pointer (some ⟨h,0,none⟩),.pointer (some ⟨r,0,none⟩)]/\G h/\G r/\aa w h 95 #[.pointer (some ⟨M,0,none⟩)]/\aa w r 3 #[.int .i64 o]
 | .fn j=>∃ h r,v=.func (.func 239) #[] #[.pointer (some ⟨h,0,none⟩),.pointer (some ⟨r,0,none⟩)]/\G h/\G r/\aa w h 95 #[.pointer (some ⟨M,0,none⟩)]/\aa w r 285 #[.int .i64 2,.int .i64 (j:Int)]
 | .bind names t=>∃ h r I J L pA pc O,v=.func (.func 268) #[] #[.pointer (some ⟨h,0,none⟩),.pointer (some ⟨r,0,none⟩),.pointer (some ⟨I,0,none⟩)]/\G h/\G r/\G I/\
  aa w h 95 #[.pointer (some ⟨M,0,none⟩)]/\aa w r 79 #[.slice J names.length L]/\Rd w G J names.length L (names.map .string)/\aa w I 25 #[.slice pA 2 pc]/\au w (fun b _=>G b) pA [O,t]/\2<=pc/\pc<=maxLen
 | .first=>v=.func (.func 269) #[.pointer (some ⟨M,0,none⟩)] #[]
 | .cD j A=>∃ h r,v=.func (.func 273) #[] #[.pointer (some ⟨h,0,none⟩),.pointer (some ⟨r,0,none⟩)]/\G h/\G r/\aa w h 95 #[.pointer (some ⟨M,0,none⟩)]/\aa w r 9 #[.string (Mk.key j A)]
theorem Rd.bR {F G G':Nat->Prop} {w w':World} {A:Option Addr} {n c:Nat} {xs:List Value} (h:Rd w G A n c xs) (ht:ae F w w') (I:∀ k,k<w.heap.size->G k->¬F k/\G' k):Rd w' G' A n c xs:=
 (h.mono (G':=fun k=>G k/\k<w.heap.size) fun _ hb r=>⟨r,hb⟩).turn ht (fun b hb r=>(I b hb r.1).1) |>.mono fun b _ r=>(I b r.2 r.1).2
theorem jK.turn {F G G':Nat->Prop} {w w':World} {M:Nat} {v:Value} {th:Kt} (h:jK w G M v th) (ht:ae F w w') (V:∀ k,k<w.heap.size->G k->¬F k/\G' k):jK w' G' M v th:=by
 have hl:∀ {b:Nat} {t:TypeId} {cs:Array Value},G b->aa w b t cs->G' b/\aa w' b t cs:=fun hg hb=>⟨(V _ hb.lt hg).2,ht.lies hb (V _ hb.lt hg).1⟩
 cases th with
 |none=>exact h
 |first=>exact h
 |op o=>
  obtain⟨O,Q,U,r,I,J,L⟩:=h
  exact⟨O,Q,U,(hl r J).1,(hl I L).1,(hl r J).2,(hl I L).2⟩
 |fn j=>
  obtain⟨O,Q,U,r,I,J,L⟩:=h
  exact⟨O,Q,U,(hl r J).1,(hl I L).1,(hl r J).2,(hl I L).2⟩
 |cD j A=>
  obtain⟨O,Q,U,r,I,J,L⟩:=h
  exact⟨O,Q,U,(hl r J).1,(hl I L).1,(hl r J).2,(hl I L).2⟩
 |bind names t=>
  obtain⟨O,Q,b3,nA,nc,pA,pc,bx,U,r,I,J,L,Z,h7,h8,h9,X⟩:=h
  exact⟨O,Q,b3,nA,nc,pA,pc,bx,U,(hl r L).1,(hl I Z).1,(hl J h8).1,(hl r L).2,(hl I Z).2,h7.bR ht V,(hl J h8).2,h9.bR ht V,X⟩
structure qU where
 pA:Option Addr
 pc:Nat
 iA:Option Addr
 ic:Nat
 v:Value
abbrev dn (q:qU×Fr):List Value:=[.slice q.1.pA q.2.parts.length q.1.pc,.slice q.1.iA q.2.ids.length q.1.ic,q.1.v,.int .i64 (q.2.sc:Int),.int .i64 (q.2.dp:Int)]
abbrev bw (q:Value×iH):List Value:=[q.1,.bool q.2.body,.int .i64 (q.2.ahead:Int)]
structure rE (w:World) (G:Nat->Prop) (M:Nat) (P:qU) (f:Fr):Prop where
 le:f.parts.length<=P.pc/\P.pc<=maxLen
 tree:au w (fun b _=>G b) P.pA f.parts
 th:jK w G M P.v f.th
theorem rE.turn {F G G':Nat->Prop} {w w':World} {M:Nat} {P:qU} {f:Fr} (h:rE w G M P f) (ht:ae F w w') (r:∀ k,k<w.heap.size->G k->¬F k/\G' k):rE w' G' M P f:=⟨h.le,h.tree.bR ht r,h.th.turn ht r⟩
structure Mk.Env where
 w0:World
 A:Option Addr
 n:Nat
 c:Nat
 L:List (iZ×Dc)
 v:World
 P:Nat->Prop
 pb:Nat
 bk:Nat
abbrev Mk.Env.D (E:Mk.Env):List Dc:=E.L.map (·.2)
structure Mk.Lay where
 mb:Nat
 sA:Option Addr
 sc:Nat
 fA:Option Addr
 fc:Nat
 Fb:Nat->Prop
 SL:List (Value×iH)
 FL:List (qU×Fr)
abbrev ak (A:Option Addr):Option Nat:=(Value.slice A 0 0).ownBlock
theorem aj (A:Option Addr) (n c:Nat):(Value.slice A n c).ownBlock=ak A:=by cases A <;> rfl
def Mk.ag (M:Nat) (Y:Mk.Lay) (k:Nat):Prop:=k=M\/Y.Fb k\/k=Y.mb\/ak Y.sA=some k\/ak Y.fA=some k\/∃ q∈Y.FL,ak q.1.iA=some k
structure Mk.aF (E:Mk.Env) (w:World) (M:Nat) (Y:Mk.Lay) (s:Ms):Prop where
 base:Below E.w0.heap.size E.w0 w
 low:∀ k,Mk.ag M Y k->E.w0.heap.size<=k
 own:aa w M 172 #[.pointer (some ⟨E.bk,0,none⟩),.slice E.A E.n E.c,.map (some E.pb),.map (some Y.mb),.slice Y.sA s.sc.length Y.sc,.slice Y.fA s.fr.length Y.fc]
 aO:Bk w E.bk Y.Fb s.N
 made:iw w Y.mb s.made
 fY:w.ownsRow 0 175 3 (.slice Y.sA s.sc.length Y.sc) s.sc.length (Y.SL.flatMap bw)
 sl:Y.SL.map (·.2)=s.sc
 zj:∀ q∈Y.SL,jB w (fun k=>¬Mk.ag M Y k) q.1 q.2
 fZ:w.ownsRow 0 177 5 (.slice Y.fA s.fr.length Y.fc) s.fr.length (Y.FL.flatMap dn)
 fl:Y.FL.map (·.2)=s.fr
 vX:∀ q∈Y.FL,rE w (fun k=>¬Mk.ag M Y k) M q.1 q.2
 ids:∀ q∈Y.FL,w.ownsRow 0 3 1 (.slice q.1.iA q.2.ids.length q.1.ic) q.2.ids.length (cH q.2.ids)
 apart:Y.FL.Pairwise fun p q=>∀ g,ak p.1.iA=some g->ak q.1.iA≠some g
 xM:¬Y.Fb M
 xm:¬Y.Fb Y.mb
 xs:∀ g,ak Y.sA=some g->¬Y.Fb g
 xf:∀ g,ak Y.fA=some g->¬Y.Fb g
 xi:∀ q∈Y.FL,∀ g,ak q.1.iA=some g->¬Y.Fb g
 pl:ae (fun k=>¬E.P k) E.v w
 Eo:∀ k,E.P k->k<E.v.heap.size->¬Mk.ag M Y k
section
variable {E : Mk.Env} {w w' : World} {M : Nat} {Y : Mk.Lay} {s : Ms}
theorem Mk.aF.lt (h:Mk.aF E w M Y s):∀ k,Mk.ag M Y k->k<w.heap.size:=by
 intro k r
 rcases r with rfl|r|rfl|r|r|⟨q,J,r⟩
 ·exact h.own.lt
 ·exact h.aO.lt k r
 ·obtain⟨⟨D,I,_⟩,_⟩:=h.made
  exact I.lt
 ·exact(h.fY.lt k (by rw[aj];exact r)).2
 ·exact(h.fZ.lt k (by rw[aj];exact r)).2
 ·exact((h.ids q J).lt k (by rw[aj];exact r)).2
theorem Mk.aF.BX (h:Mk.aF E w M Y s):ak Y.sA≠some M:=fun e=>aT h.fY h.own (by decide) (by rw[aj];exact e)
theorem Mk.aF.BM (h:Mk.aF E w M Y s):ak Y.fA≠some M:=fun e=>aT h.fZ h.own (by decide) (by rw[aj];exact e)
theorem Mk.aF.BC (h:Mk.aF E w M Y s) {q:qU×Fr} (r:q∈Y.FL):ak q.1.iA≠some M:=fun e=>aT (h.ids q r) h.own (by decide) (by rw[aj];exact e)
theorem Mk.aF.Dk (h:Mk.aF E w M Y s):M≠Y.mb:=by
 obtain⟨⟨D,r,_⟩,_⟩:=h.made
 exact ed h.own r
theorem Mk.aF.ER (h:Mk.aF E w M Y s):ak Y.sA≠some Y.mb:=by
 obtain⟨⟨D,r,_⟩,_⟩:=h.made
 exact fun e=>dW h.fY r (by rw[aj];exact e)
theorem Mk.aF.EG (h:Mk.aF E w M Y s):ak Y.fA≠some Y.mb:=by
 obtain⟨⟨D,r,_⟩,_⟩:=h.made
 exact fun e=>dW h.fZ r (by rw[aj];exact e)
theorem Mk.aF.EC (h:Mk.aF E w M Y s) {q:qU×Fr} (I:q∈Y.FL):ak q.1.iA≠some Y.mb:=by
 obtain⟨⟨D,r,_⟩,_⟩:=h.made
 exact fun e=>dW (h.ids q I) r (by rw[aj];exact e)
theorem Mk.aF.Eu (h:Mk.aF E w M Y s) {g:Nat} (r:ak Y.sA=some g):ak Y.fA≠some g:=fun e=>eh h.fY h.fZ (by decide) g (by rw[aj];exact r) (by rw[aj];exact e)
theorem Mk.aF.Ey (h:Mk.aF E w M Y s) {q:qU×Fr} (I:q∈Y.FL) {g:Nat} (r:ak Y.sA=some g):ak q.1.iA≠some g:=fun e=>eh h.fY (h.ids q I) (by decide) g (by rw[aj];exact r) (by rw[aj];exact e)
theorem Mk.aF.Ct (h:Mk.aF E w M Y s) {q:qU×Fr} (I:q∈Y.FL) {g:Nat} (r:ak Y.fA=some g):ak q.1.iA≠some g:=fun e=>eh h.fZ (h.ids q I) (by decide) g (by rw[aj];exact r) (by rw[aj];exact e)
theorem Mk.aF.below (h:Mk.aF E w M Y s) (hb:Below w.heap.size w w'):Mk.aF E w' M Y s:=by
 have ht:ae (fun _=>False) w w':=ae.af hb
 have I:∀ k,k<w.heap.size->¬Mk.ag M Y k->¬False/\¬Mk.ag M Y k:=fun k _ h=>⟨id,h⟩
 exact⟨h.base.trans (hb.mono h.base.size),h.low,ht.lies h.own id,h.aO.below hb,h.made.turn ht id,ht.own h.fY (fun _ _=>id),h.sl,fun q r=>(h.zj q r).turn ht I,ht.own h.fZ (fun _ _=>id),h.fl,
  fun q r=>(h.vX q r).turn ht I,fun q r=>ht.own (h.ids q r) (fun _ _=>id),h.apart,h.xM,h.xm,h.xs,h.xf,h.xi,h.pl.trans ht (fun _ e=>e.elim),h.Eo⟩
theorem Mk.aF.drew (h:Mk.aF E w M Y s):Mk.aF E w.drew M Y s:=h.below ⟨rfl,rfl,rfl,Fm _,fun _ _=>rfl⟩
theorem Mk.aF.alloc (h:Mk.aF E w M Y s) (o:Obj):Mk.aF E (w.alloc o) M Y s:=h.below ((Gp _ w).alloc (Fm _) o)
end
def Mk.Left (E:Mk.Env) (w:World) (M:Nat) (Y:Mk.Lay) (s':Ms) (w':World):Prop:=∃ Y',Mk.aF E w' M Y' s'/\ae (Mk.ag M Y) w w'/\∀ k,Mk.ag M Y' k->Mk.ag M Y k\/w.heap.size<=k
def Mk.aY (E:Mk.Env) (w:World) (M:Nat) (Y:Mk.Lay) (r:Ms×Int) (e:Ending) (w':World):Prop:=e=.returned (.int .i64 r.2)/\Mk.Left E w M Y r.1 w'
theorem Mk.Left.after {E:Mk.Env} {w J L:World} {M:Nat} {Y r:Mk.Lay} {s':Ms} (h:Mk.Left E J M r s' L) (ht:ae (Mk.ag M Y) w J) (I:∀ k,Mk.ag M r k->Mk.ag M Y k\/w.heap.size<=k):Mk.Left E w M Y s' L:=by
 obtain⟨O,Q,U,V⟩:=h
 exact⟨O,Q,ht.trans U I,fun k X=>(V k X).elim (I k) fun e=> .inr (Fo ht.size e)⟩
theorem Mk.Left.up {E:Mk.Env} {w W w':World} {M:Nat} {Y:Mk.Lay} {s':Ms} (h:Mk.Left E W M Y s' w') (hb:Below w.heap.size w W):Mk.Left E w M Y s' w':=h.after (ae.af hb) fun _=> .inl
theorem Mk.Left.same {E:Mk.Env} {w r:World} {M:Nat} {Y:Mk.Lay} {s:Ms} (h:Mk.aF E w M Y s) (hb:Below w.heap.size w r):Mk.Left E w M Y s r:=⟨Y,h.below hb,ae.af hb,fun _=> .inl⟩
theorem Mk.aY.up {E:Mk.Env} {w W w':World} {M:Nat} {Y:Mk.Lay} {r:Ms×Int} {e:Ending} (h:Mk.aY E W M Y r e w') (hb:Below w.heap.size w W):Mk.aY E w M Y r e w':=⟨h.1,h.2.up hb⟩
theorem wO {α β:Type} {f:α->β} {l:List α} {bs:List β} {b:β} (h:l.map f=bs++[b]):∃ l' a,l=l'++[a]/\l'.map f=bs/\f a=b:=by
 obtain⟨L,O,rfl,r,I⟩:=List.map_eq_append_iff.1 h
 obtain⟨a,rfl,J⟩:=List.map_eq_singleton_iff.1 I
 exact⟨L,a,rfl,r,J⟩
theorem iK (L:List (qU×Fr)):(L.flatMap dn).length=L.length*5:=bX (k:=5) (fun _=>rfl) L
theorem wJ (L:List (Value×iH)):(L.flatMap bw).length=L.length*3:=bX (k:=3) (fun _=>rfl) L
theorem gw {w:World} {base:Nat} {e:TypeId} {size n k:Nat} {A:Option Addr} {c:Nat} {xs:List Value} (h:w.ownsRow base e size (.slice A n c) n xs) (Q:k<=n):w.ownsRow base e size (.slice A k c) k (xs.take (k*size)):=by
 obtain⟨V,X⟩:=h
 have hl:(xs.take (k*size)).length=k*size:=by rw[FK,V];exact G6 (FF _ Q)
 rcases X with⟨U,rfl⟩|⟨g,cap,cur,hv,Z,hh,hn,I,O,r⟩
 ·obtain rfl:k=0:=by omega
  injection U with J _ L
  subst J
  subst L
  exact⟨hl,.inl ⟨rfl,rfl⟩⟩
 ·injection hv with J _ L
  subst J
  subst L
  refine⟨hl,.inr ⟨g,c,cur,rfl,Z,hh,by omega,I,O,?_⟩⟩
  rw[<-r,List.take_take,G6 (FF _ Q)]
section
variable {E : Mk.Env} {w w' : World} {M : Nat} {Y Y' : Mk.Lay} {s : Ms}
theorem Mk.aF.outer (h:Mk.aF E w M Y s) (hT:ae (Mk.ag M Y) w w') (I:∀ k,Mk.ag M Y' k->Mk.ag M Y k\/w.heap.size<=k):
  Below E.w0.heap.size E.w0 w'/\(∀ k,Mk.ag M Y' k->E.w0.heap.size<=k)/\ae (fun k=>¬E.P k) E.v w'/\(∀ k,E.P k->k<E.v.heap.size->¬Mk.ag M Y' k)/\
  ∀ k,k<w.heap.size->¬Mk.ag M Y k->¬Mk.ag M Y k/\¬Mk.ag M Y' k:=by
 refine⟨h.base.trans (hT.below h.base.size h.low),fun k r=>?_,h.pl.trans hT (fun i hi=>(GX i E.v.heap.size).elim (fun hl=> .inl fun e=>h.Eo i e hl hi) .inr),fun k J L r=>?_,fun k O r=>⟨r,fun e=>(I k e).elim r fun Q=>by omega⟩⟩
 ·exact(I k r).elim (h.low k) fun e=>Fo h.base.size e
 ·rcases I k r with e|e
  ·exact h.Eo k J L e
  ·have:=h.pl.size
   omega
theorem Mk.aF.Dq (h:Mk.aF E w M Y s) {N':List Nd} {I:Nat->Prop} (hT:ae Y.Fb w w') (Z:Bk w' E.bk I N') (hF:∀ k,I k->Y.Fb k\/w.heap.size<=k):Mk.Left E w M Y { s with N:=N' } w':=by
 have O:ae (Mk.ag M Y) w w':=hT.mono fun i _ hi=> .inr (.inl hi)
 have X:∀ k,Mk.ag M { Y with Fb:=I } k->Mk.ag M Y k\/w.heap.size<=k:=fun k L=>by
  rcases L with e|e|e
  ·exact .inl (.inl e)
  ·exact(hF k e).imp (fun e=> .inr (.inl e)) id
  ·exact .inl (.inr (.inr e))
 obtain⟨o1,o2,o3,o4,o5⟩:=h.outer O X
 have V:∀ k,k<w.heap.size->¬Mk.ag M Y k->¬Y.Fb k/\¬Mk.ag M { Y with Fb:=I } k:=fun k Q L=>⟨fun e=>L (.inr (.inl e)),(o5 k Q L).2⟩
 have U:∀ k,k<w.heap.size->¬Y.Fb k->¬I k:=fun k Q L e=>(hF k e).elim L fun e=>by omega
 have hm:=h.made.own
 exact⟨{ Y with Fb:=I },⟨o1,o2,hT.lies h.own h.xM,Z,h.made.turn hT h.xm,hT.own h.fY (fun g r=>h.xs g (by rw[aj] at r;exact r)),h.sl,fun q J=>(h.zj q J).turn hT V,
  hT.own h.fZ (fun g r=>h.xf g (by rw[aj] at r;exact r)),h.fl,fun q J=>(h.vX q J).turn hT V,fun q J=>hT.own (h.ids q J) (fun g r=>h.xi q J g (by rw[aj] at r;exact r)),h.apart,
  U M (h.lt M (.inl rfl)) h.xM,U Y.mb (h.lt Y.mb (.inr (.inr (.inl rfl)))) h.xm,fun g r=>U g (h.lt g (.inr (.inr (.inr (.inl r))))) (h.xs g r),fun g r=>U g (h.lt g (.inr (.inr (.inr (.inr (.inl r)))))) (h.xf g r),
  fun q J g r=>U g (h.lt g (.inr (.inr (.inr (.inr (.inr ⟨q,J,r⟩)))))) (h.xi q J g r),o3,o4⟩,O,X⟩
theorem Mk.aF.push (h:Mk.aF E w M Y s) {Q:World} {J:Option Addr} {c2:Nat} {P:qU} {f:Fr} (I:w.grownBy Q (ak Y.fA))
  (ho:Q.ownsRow 0 177 5 (.slice J (s.fr.length+1) c2) (s.fr.length+1) (Y.FL.flatMap dn++dn (P,f))) (hl:ak J=ak Y.fA\/ak J=some w.heap.size)
  (hP:rE w (fun k=>¬Mk.ag M Y k) M P f) (hi:P.iA=none/\P.ic=0/\f.ids=[]):Mk.Left E w M Y { s with fr:=s.fr++[f] } (Q.setCell ⟨M,5,none⟩ (.slice J (s.fr.length+1) c2)):=by
 obtain⟨i1,i2,i3⟩:=hi
 have t1:ae (fun k=>ak Y.fA=some k) w Q:=ae.aB I fun _ e _=>e
 have Z:ak J≠some M:=fun e=>by
  rcases hl with L|L
  ·exact h.BM (L▸e)
  ·rw[L] at e
   have:=h.lt M (.inl rfl)
   have:=Fk e
   omega
 have t2:ae (fun k=>k=M\/ak Y.fA=some k) w (Q.setCell ⟨M,5,none⟩ (.slice J (s.fr.length+1) c2)):=(t1.mono fun i _ hi=> .inr hi).put (p:=⟨M,5,none⟩) (.inl (.inl rfl)) _
 have U:ae (Mk.ag M Y) w (Q.setCell ⟨M,5,none⟩ (.slice J (s.fr.length+1) c2)):=t2.mono fun i _ hi=>hi.elim .inl fun e=> .inr (.inr (.inr (.inr (.inl e))))
 have hY:∀ k,Mk.ag M { Y with fA:=J,fc:=c2,FL:=Y.FL++[(P,f)] } k->Mk.ag M Y k\/w.heap.size<=k:=fun k O=>by
  rcases O with e|e|e|e|e|⟨q,r,e⟩
  ·exact .inl (.inl e)
  ·exact .inl (.inr (.inl e))
  ·exact .inl (.inr (.inr (.inl e)))
  ·exact .inl (.inr (.inr (.inr (.inl e))))
  ·rcases hl with L|L
   ·exact .inl (.inr (.inr (.inr (.inr (.inl (L▸e))))))
   ·have e:ak J=some k:=e
    rw[L] at e
    have:=Fk e
    exact .inr (by omega)
  ·rcases F7.1 r with r|r
   ·exact .inl (.inr (.inr (.inr (.inr (.inr ⟨q,r,e⟩)))))
   ·rw[F0.1 r] at e
    simp only[i1] at e
    cases e
 obtain⟨o1,o2,o3,o4,o5⟩:=h.outer U hY
 have V:∀ k,k<w.heap.size->¬Mk.ag M Y k->¬(k=M\/ak Y.fA=some k)/\¬Mk.ag M { Y with fA:=J,fc:=c2,FL:=Y.FL++[(P,f)] } k:=fun k ad O=>⟨fun e=>O (e.elim .inl fun e=> .inr (.inr (.inr (.inr (.inl e))))),(o5 k ad O).2⟩
 have av:∀ g,(Value.slice Y.sA s.sc.length Y.sc).ownBlock=some g->¬(g=M\/ak Y.fA=some g):=fun g I e=>by
  rw[aj] at I
  exact e.elim (fun e=>h.BX (e▸I)) (h.Eu I)
 have X:∀ q∈Y.FL,∀ g,(Value.slice q.1.iA q.2.ids.length q.1.ic).ownBlock=some g->¬(g=M\/ak Y.fA=some g):=fun q r g I e=>by
  rw[aj] at I
  exact e.elim (fun e=>h.BC r (e▸I)) fun e=>h.Ct r e I
 have ao:=(ae.refl (fun k=>k=M) Q).put (p:=⟨M,5,none⟩) (.inl rfl) (.slice J (s.fr.length+1) c2) |>.own ho (fun g I e=>Z (by rw[aj] at I;exact e▸I))
 have ah:=(t1.lies h.own h.BM).put 5 (.slice J (s.fr.length+1) c2)
 have hle:(s.fr++[f]).length=s.fr.length+1:=by simp
 refine⟨{ Y with fA:=J,fc:=c2,FL:=Y.FL++[(P,f)] },⟨o1,o2,by rw[hle];exact ah,h.aO.turn t2 (fun k O e=>e.elim (fun e=>h.xM (e▸O)) fun e=>h.xf k e O),h.made.turn t2 (fun e=>e.elim (fun e=>h.Dk e.symm) h.EG),
  t2.own h.fY av,h.sl,fun q r=>(h.zj q r).turn t2 V,?_,by rw[Hf,h.fl];rfl,fun q r=>?_,fun q r=>?_,?_,h.xM,h.xm,h.xs,fun g I=>?_,fun q r g I=>?_,o3,o4⟩,U,hY⟩
 ·rw[hle]
  show World.ownsRow _ 0 _ 5 _ _ ((Y.FL++[(P,f)]).flatMap dn)
  rw[IH]
  exact ao
 ·rcases F7.1 r with r|r
  ·exact(h.vX q r).turn t2 V
  ·rw[F0.1 r]
   exact hP.turn t2 V
 ·rcases F7.1 r with r|r
  ·exact t2.own (h.ids q r) (X q r)
  ·rw[F0.1 r]
   show World.ownsRow _ 0 _ 1 (.slice P.iA f.ids.length P.ic) _ _
   rw[i1,i2,i3]
   exact Gg _ _ _ _
 ·rw[List.pairwise_append]
  refine⟨h.apart,List.pairwise_singleton _ _,fun p _ q r g _ e=>?_⟩
  rw[F0.1 r] at e
  simp only[i1] at e
  cases e
 ·rcases hl with e|e
  ·exact h.xf g (e▸I)
  ·have I:ak J=some g:=I
   rw[e] at I
   intro hb
   have:=h.aO.lt g hb
   have:=Fk I
   omega
 ·rcases F7.1 r with r|r
  ·exact h.xi q r g I
  ·rw[F0.1 r] at I
   simp only[i1] at I
   cases I
theorem Mk.aF.scope (h:Mk.aF E w M Y s) {Q:World} {I:Option Addr} {c2:Nat} {v:Value} {x:iH} (r:w.grownBy Q (ak Y.sA))
  (ho:Q.ownsRow 0 175 3 (.slice I (s.sc.length+1) c2) (s.sc.length+1) (Y.SL.flatMap bw++bw (v,x))) (hl:ak I=ak Y.sA\/ak I=some w.heap.size)
  (hP:jB w (fun k=>¬Mk.ag M Y k) v x):Mk.Left E w M Y { s with sc:=s.sc++[x] } (Q.setCell ⟨M,4,none⟩ (.slice I (s.sc.length+1) c2)):=by
 have t1:ae (fun k=>ak Y.sA=some k) w Q:=ae.aB r fun _ e _=>e
 have ad:ak I≠some M:=fun e=>by
  rcases hl with L|L
  ·exact h.BX (L▸e)
  ·rw[L] at e
   have:=h.lt M (.inl rfl)
   have:=Fk e
   omega
 have t2:ae (fun k=>k=M\/ak Y.sA=some k) w (Q.setCell ⟨M,4,none⟩ (.slice I (s.sc.length+1) c2)):=(t1.mono fun i _ hi=> .inr hi).put (p:=⟨M,4,none⟩) (.inl (.inl rfl)) _
 have U:ae (Mk.ag M Y) w (Q.setCell ⟨M,4,none⟩ (.slice I (s.sc.length+1) c2)):=t2.mono fun i _ hi=>hi.elim .inl fun e=> .inr (.inr (.inr (.inl e)))
 have hY:∀ k,Mk.ag M { Y with sA:=I,sc:=c2,SL:=Y.SL++[(v,x)] } k->Mk.ag M Y k\/w.heap.size<=k:=fun k O=>by
  rcases O with e|e|e|e|e
  ·exact .inl (.inl e)
  ·exact .inl (.inr (.inl e))
  ·exact .inl (.inr (.inr (.inl e)))
  ·rcases hl with L|L
   ·exact .inl (.inr (.inr (.inr (.inl (L▸e)))))
   ·have e:ak I=some k:=e
    rw[L] at e
    have:=Fk e
    exact .inr (by omega)
  ·exact .inl (.inr (.inr (.inr (.inr e))))
 obtain⟨o1,o2,o3,o4,o5⟩:=h.outer U hY
 have V:∀ k,k<w.heap.size->¬Mk.ag M Y k->¬(k=M\/ak Y.sA=some k)/\¬Mk.ag M { Y with sA:=I,sc:=c2,SL:=Y.SL++[(v,x)] } k:=fun k ah O=>⟨fun e=>O (e.elim .inl fun e=> .inr (.inr (.inr (.inl e)))),(o5 k ah O).2⟩
 have X:∀ g,(Value.slice Y.fA s.fr.length Y.fc).ownBlock=some g->¬(g=M\/ak Y.sA=some g):=fun g r e=>by
  rw[aj] at r
  exact e.elim (fun e=>h.BM (e▸r)) fun e=>h.Eu e r
 have Z:∀ q∈Y.FL,∀ g,(Value.slice q.1.iA q.2.ids.length q.1.ic).ownBlock=some g->¬(g=M\/ak Y.sA=some g):=fun q J g r e=>by
  rw[aj] at r
  exact e.elim (fun e=>h.BC J (e▸r)) fun e=>h.Ey J e r
 have av:=(ae.refl (fun k=>k=M) Q).put (p:=⟨M,4,none⟩) (.inl rfl) (.slice I (s.sc.length+1) c2) |>.own ho (fun g r e=>ad (by rw[aj] at r;exact e▸r))
 have ao:=(t1.lies h.own h.BX).put 4 (.slice I (s.sc.length+1) c2)
 have hle:(s.sc++[x]).length=s.sc.length+1:=by simp
 refine⟨{ Y with sA:=I,sc:=c2,SL:=Y.SL++[(v,x)] },⟨o1,o2,by rw[hle];exact ao,h.aO.turn t2 (fun k O e=>e.elim (fun e=>h.xM (e▸O)) fun e=>h.xs k e O),h.made.turn t2 (fun e=>e.elim (fun e=>h.Dk e.symm) h.ER),
  ?_,by rw[Hf,h.sl];rfl,fun q J=>?_,t2.own h.fZ X,h.fl,fun q J=>(h.vX q J).turn t2 V,fun q J=>t2.own (h.ids q J) (Z q J),h.apart,h.xM,h.xm,fun g r=>?_,h.xf,h.xi,o3,o4⟩,U,hY⟩
 ·rw[hle]
  show World.ownsRow _ 0 _ 3 _ _ ((Y.SL++[(v,x)]).flatMap bw)
  rw[IH]
  exact av
 ·rcases F7.1 J with J|J
  ·exact(h.zj q J).turn t2 V
  ·rw[F0.1 J]
   exact hP.turn t2 V
 ·rcases hl with e|e
  ·exact h.xs g (e▸r)
  ·have r:ak I=some g:=r
   rw[e] at r
   intro hb
   have:=h.aO.lt g hb
   have:=Fk r
   omega
theorem Mk.aF.cut (h:Mk.aF E w M Y s) {k:Nat} (O:k<=s.sc.length):Mk.Left E w M Y { s with sc:=s.sc.take k } (w.setCell ⟨M,4,none⟩ (.slice Y.sA k Y.sc)):=by
 have Q:Y.SL.length=s.sc.length:=by rw[<-h.sl,Fi]
 have hlen:(s.sc.take k).length=k:=by rw[FK];exact G6 O
 have t2:ae (fun k=>k=M) w (w.setCell ⟨M,4,none⟩ (.slice Y.sA k Y.sc)):=(ae.refl (fun k=>k=M) w).put (p:=⟨M,4,none⟩) (.inl rfl) _
 have L:ae (Mk.ag M Y) w (w.setCell ⟨M,4,none⟩ (.slice Y.sA k Y.sc)):=t2.mono fun i _ hi=> .inl hi
 have X:∀ i,Mk.ag M { Y with SL:=Y.SL.take k } i->Mk.ag M Y i\/w.heap.size<=i:=fun i hi=> .inl hi
 obtain⟨Z,o2,o3,o4,o5⟩:=h.outer L X
 have V:∀ i,i<w.heap.size->¬Mk.ag M Y i->¬(i=M)/\¬Mk.ag M { Y with SL:=Y.SL.take k } i:=fun i U hi=>⟨fun e=>hi (.inl e),(o5 i U hi).2⟩
 have I:=gw h.fY O
 have hcut:(Y.SL.flatMap bw).take (k*3)=(Y.SL.take k).flatMap bw:=by
  conv=>lhs;rw[<-FM k Y.SL]
  rw[IH,List.take_left' (by rw[wJ,FK,Q,G6 O])]
 rw[hcut] at I
 refine⟨{ Y with SL:=Y.SL.take k },⟨Z,o2,by rw[hlen];exact h.own.put 4 _,h.aO.turn t2 (fun k O e=>h.xM (e▸O)),h.made.turn t2 (fun e=>h.Dk e.symm),
  by rw[hlen];exact t2.own I (fun g r e=>h.BX (by rw[aj] at r;exact e▸r)),by rw[List.map_take,h.sl],fun q J=>(h.zj q (GN J)).turn t2 V,t2.own h.fZ (fun g r e=>h.BM (by rw[aj] at r;exact e▸r)),h.fl,fun q J=>(h.vX q J).turn t2 V,
  fun q J=>t2.own (h.ids q J) (fun g r e=>h.BC J (by rw[aj] at r;exact e▸r)),h.apart,h.xM,h.xm,h.xs,h.xf,h.xi,o3,o4⟩,L,X⟩
theorem Mk.aF.note (h:Mk.aF E w M Y s) {m':List (Nat×List Int×Int)} (r:w.grownBy w' (some Y.mb)) (hm:iw w' Y.mb m'):Mk.Left E w M Y { s with made:=m' } w':=by
 have t2:ae (fun k=>k=Y.mb) w w':=ae.aB r fun g e _=>(Fk e).symm
 have J:ae (Mk.ag M Y) w w':=t2.mono fun i _ hi=> .inr (.inr (.inl hi))
 obtain⟨U,V,X,Z,o5⟩:=h.outer (Y':=Y) J fun _=> .inl
 have L:∀ i,i<w.heap.size->¬Mk.ag M Y i->¬(i=Y.mb)/\¬Mk.ag M Y i:=fun i Q hi=>⟨fun e=>hi (.inr (.inr (.inl e))),hi⟩
 exact⟨Y,⟨U,V,t2.lies h.own h.Dk,h.aO.turn t2 (fun k O e=>h.xm (e▸O)),hm,t2.own h.fY (fun g r e=>h.ER (by rw[aj] at r;exact e▸r)),h.sl,fun q I=>(h.zj q I).turn t2 L,
  t2.own h.fZ (fun g r e=>h.EG (by rw[aj] at r;exact e▸r)),h.fl,fun q I=>(h.vX q I).turn t2 L,fun q I=>t2.own (h.ids q I) (fun g r e=>h.EC I (by rw[aj] at r;exact e▸r)),h.apart,h.xM,h.xm,h.xs,h.xf,h.xi,X,Z⟩,J,fun _=> .inl⟩
end
end Go.Proofs.YtdbgiijdgedggaaGreatDoor
