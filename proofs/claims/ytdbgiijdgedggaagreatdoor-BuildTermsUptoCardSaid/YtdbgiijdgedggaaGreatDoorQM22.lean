import Derived.Test.YtdbgiijdgedggaaGreatDoorQM21
import Derived.Lib.MinMax
set_option linter.unusedSimpArgs false
set_option linter.unusedVariables false
set_option maxRecDepth 100000
set_option maxHeartbeats 25600000
namespace Go.Proofs.YtdbgiijdgedggaaGreatDoor
open Go.RowKit
structure eQ (w:World) (G:Nat->Prop) (A:Option Addr) (n c:Nat) (l:Sc):Prop where
 len:l.length=n
 nil:A=none->n=0/\c=0
 par:nU w G A l
theorem eQ.turn {F G G':Nat->Prop} {w w':World} {A:Option Addr} {n c:Nat} {l:Sc} (h:eQ w G A n c l) (ht:ae F w w') (r:∀ k,k<w.heap.size->G k->¬F k/\G' k):eQ w' G' A n c l:=⟨h.len,h.nil,h.par.turn ht r⟩
theorem eQ.none_ (w:World) (G:Nat->Prop):eQ w G none 0 0 []:=⟨rfl,fun _=>⟨rfl,rfl⟩,⟨fun h=>absurd h (by decide)⟩⟩
abbrev El:=Option Addr×Nat
abbrev Md:=Nat×List Int×Int
abbrev BS (q:El×Md):List Value:=[.int .i64 (q.2.1:Int),.slice q.1.1 q.2.2.1.length q.1.2,.int .i64 q.2.2.2]
theorem Cz:(Tryz.prog.info? 259).map (fun i=>(i.zero,i.size,i.bytes))=some (some (.agg #[.int .i64 0,.slice none 0 0,.int .i64 0]),3,40):=by kernel_rfl
theorem gQ:(Tryz.prog.info? 120).map (fun i=>(i.zero,i.size,i.bytes))=some (some (.agg #[.string ByteArray.empty,.int .i64 0]),2,24):=by kernel_rfl
structure Rf.Env where
 w0:World
 A:Option Addr
 n:Nat
 c:Nat
 L:List (iZ×Dc)
 mb:Nat
abbrev Rf.Env.D (E:Rf.Env):List Dc:=E.L.map (·.2)
structure Rf.Lay where
 bA:Option Addr
 bc:Nat
 iA:Option Addr
 ic:Nat
 dA:Option Addr
 dc:Nat
 M:List (El×Md)
 X:Nat->Prop
structure Rf.St where
 N:List Nd
 k:Nat
 sc:Sc
 made:List Md
def Rf.ag (E:Rf.Env) (Y:Rf.Lay) (k:Nat):Prop:=k=E.mb\/ak Y.dA=some k
def Rf.free (E:Rf.Env) (Y:Rf.Lay) (k:Nat):Prop:=¬Rf.ag E Y k/\¬Y.X k
abbrev Rf.cells (E:Rf.Env) (Y:Rf.Lay) (s:Rf.St):Array Value:=#[.slice Y.bA s.N.length Y.bc,.slice E.A s.k E.c,.slice Y.iA s.sc.length Y.ic,.slice Y.dA s.made.length Y.dc]
structure Rf.aF (E:Rf.Env) (w:World) (Y:Rf.Lay) (s:Rf.St):Prop where
 base:Below E.w0.heap.size E.w0 w
 low:∀ k,Rf.ag E Y k->E.w0.heap.size<=k
 own:aa w E.mb 102 (Rf.cells E Y s)
 kn:s.k<=E.n
 aO:bO w (Rf.free E Y) Y.bA s.N.length Y.bc s.N
 decl:rX w (Rf.free E Y) E.A E.n E.c E.L
 scope:eQ w (Rf.free E Y) Y.iA s.sc.length Y.ic s.sc
 row:w.ownsRow E.w0.heap.size 259 3 (.slice Y.dA s.made.length Y.dc) s.made.length (Y.M.flatMap BS)
 ml:Y.M.map (·.2)=s.made
 each:∀ q∈Y.M,aH w q.1.1 q.2.2.1.length q.2.2.1/\Gs (Rf.free E Y) q.1.1 q.2.2.1.length
 vY:∀ k,Y.X k->k<w.heap.size
 BH:∀ k,Y.X k->¬Rf.ag E Y k
 xD:∀ k,Y.X k->E.w0.heap.size<=k
section
variable {E : Rf.Env} {w w' : World} {Y Y' : Rf.Lay} {s s' : Rf.St}
theorem Rf.aF.lt (h:Rf.aF E w Y s):∀ k,Rf.ag E Y k->k<w.heap.size:=by
 intro k r
 rcases r with rfl|r
 ·exact h.own.lt
 ·exact(h.row.lt k (by rw[aj];exact r)).2
theorem Rf.aF.apart (h:Rf.aF E w Y s):ak Y.dA≠some E.mb:=fun e=>aT h.row h.own (by decide) (by rw[aj];exact e)
theorem Rf.aF.out (h:Rf.aF E w Y s):∀ k,w.heap.size<=k->¬Rf.ag E Y k:=fun k r e=>by have:=h.lt k e;omega
theorem Rf.aF.below (h:Rf.aF E w Y s) (hb:Below w.heap.size w w'):Rf.aF E w' Y s:=by
 have ht:ae (fun _=>False) w w':=ae.af hb
 exact⟨h.base.trans (hb.mono h.base.size),h.low,ht.lies h.own id,h.kn,h.aO.below hb,h.decl.turn ht fun k _ r=>⟨id,r⟩,h.scope.turn ht fun k _ r=>⟨id,r⟩,ht.own h.row (fun _ _=>id),h.ml,fun q I=>⟨(h.each q I).1.below hb,(h.each q I).2⟩,fun k r=>Fp (h.vY k r) hb.size,h.BH,h.xD⟩
theorem Rf.aF.alloc (h:Rf.aF E w Y s) (o:Obj):Rf.aF E (w.alloc o) Y s:=h.below ((Gp _ w).alloc (Fm _) o)
theorem Rf.aF.set (h:Rf.aF E w Y s) (i:Nat) (v:Value) (hd:Y'.dA=Y.dA) (hc:Y'.dc=Y.dc) (Q:Y'.M=Y.M) (O:Y'.X=Y.X) (hm:s'.made=s.made) (L:(Rf.cells E Y s).setIfInBounds i v=Rf.cells E Y' s') (r:s'.k<=E.n)
  (hb:bO w (Rf.free E Y) Y'.bA s'.N.length Y'.bc s'.N) (hs:eQ w (Rf.free E Y) Y'.iA s'.sc.length Y'.ic s'.sc):Rf.aF E (w.setCell ⟨E.mb,i,none⟩ v) Y' s':=by
 have I:Rf.ag E Y'=Rf.ag E Y:=by funext k;unfold Rf.ag;rw[hd]
 have hf:Rf.free E Y'=Rf.free E Y:=by funext k;unfold Rf.free;rw[I,O]
 have ht:ae (fun k=>k=E.mb) w (w.setCell ⟨E.mb,i,none⟩ v):=(ae.refl (fun k=>k=E.mb) w).put (p:=⟨E.mb,i,none⟩) (.inl rfl) v
 have U:=h.low E.mb (.inl rfl)
 have J:∀ k,Rf.free E Y k->¬k=E.mb:=fun k r e=>r.1 (.inl e)
 have Z:∀ k,k<w.heap.size->Rf.free E Y k->¬k=E.mb/\Rf.free E Y k:=fun k _ r=>⟨J k r,r⟩
 refine⟨h.base.trans (ht.below h.base.size fun k e=>e▸U),by rw[I];exact h.low,?_,r,?_,?_,?_,?_,by rw[Q,hm];exact h.ml,?_,fun k r=>Fp (h.vY k (by rw[<-O];exact r)) ht.size,fun k r=>by rw[I];exact h.BH k (by rw[<-O];exact r),fun k r=>h.xD k (by rw[<-O];exact r)⟩
 ·rw[<-L];exact h.own.put i v
 ·rw[hf];exact hb.turn ht J
 ·rw[hf];exact h.decl.turn ht Z
 ·rw[hf];exact hs.turn ht Z
 ·rw[hd,hc,Q,hm];exact ht.own h.row fun g hg e=>h.apart (by rw[aj] at hg;rw[hg,e])
 ·rw[hf,Q];exact fun q V=>⟨(h.each q V).1.turn ht (h.each q V).2 J,(h.each q V).2⟩
theorem Rf.aF.Ex (h:Rf.aF E w Y s) {A:Option Addr} {n c:Nat} {N:List Nd} (hb:bO w (Rf.free E Y) A n c N):Rf.aF E (w.setCell ⟨E.mb,0,none⟩ (.slice A n c)) { Y with bA:=A,bc:=c } { s with N:=N }:=by
 have hn:=hb.len
 subst hn
 exact h.set 0 _ rfl rfl rfl rfl rfl rfl h.kn hb h.scope
theorem Rf.aF.D0 (h:Rf.aF E w Y s) {k:Nat} (r:k<=E.n):Rf.aF E (w.setCell ⟨E.mb,1,none⟩ (.slice E.A k E.c)) Y { s with k:=k }:=h.set 1 _ rfl rfl rfl rfl rfl rfl r h.aO h.scope
theorem Rf.aF.Bm (h:Rf.aF E w Y s) {A:Option Addr} {n c:Nat} {sc:Sc} (hs:eQ w (Rf.free E Y) A n c sc):Rf.aF E (w.setCell ⟨E.mb,2,none⟩ (.slice A n c)) { Y with iA:=A,ic:=c } { s with sc:=sc }:=by
 have hn:=hs.len
 subst hn
 exact h.set 2 _ rfl rfl rfl rfl rfl rfl h.kn h.aO hs
theorem Rf.aF.note (h:Rf.aF E w Y s) {U:World} {J:Option Addr} {c2:Nat} {p:El} {q:Md} (V:w.grownBy U (ak Y.dA))
  (ho:U.ownsRow E.w0.heap.size 259 3 (.slice J (s.made.length+1) c2) (s.made.length+1) (Y.M.flatMap BS++BS (p,q))) (hl:ak J=ak Y.dA\/ak J=some w.heap.size)
  (hq:aH w p.1 q.2.1.length q.2.1/\Gs (fun k=>Rf.free E Y k/\k<w.heap.size) p.1 q.2.1.length):
  Rf.aF E (U.setCell ⟨E.mb,3,none⟩ (.slice J (s.made.length+1) c2)) { Y with dA:=J,dc:=c2,M:=Y.M++[(p,q)] } { s with made:=s.made++[q] }/\
  ae (Rf.ag E Y) w (U.setCell ⟨E.mb,3,none⟩ (.slice J (s.made.length+1) c2))/\∀ k,Rf.ag E { Y with dA:=J,dc:=c2,M:=Y.M++[(p,q)] } k->Rf.ag E Y k\/w.heap.size<=k:=by
 have t1:ae (fun k=>ak Y.dA=some k) w U:=ae.aB V fun _ e _=>e
 have ad:ak J≠some E.mb:=fun e=>by
  rcases hl with L|L
  ·exact h.apart (L▸e)
  ·rw[L] at e
   have:=h.lt E.mb (.inl rfl)
   have:=Fk e
   omega
 have t2:ae (Rf.ag E Y) w (U.setCell ⟨E.mb,3,none⟩ (.slice J (s.made.length+1) c2)):=(t1.mono (G:=Rf.ag E Y) fun i _ hi=> .inr hi).put (p:=⟨E.mb,3,none⟩) (.inl (.inl rfl)) _
 have hY:∀ k,Rf.ag E { Y with dA:=J,dc:=c2,M:=Y.M++[(p,q)] } k->Rf.ag E Y k\/w.heap.size<=k:=fun k I=>by
  rcases I with e|e
  ·exact .inl (.inl e)
  ·rcases hl with L|L
   ·exact .inl (.inr (L▸e))
   ·have e:ak J=some k:=e
    rw[L] at e
    have:=Fk e
    exact .inr (by omega)
 have O:∀ k,k<w.heap.size->Rf.free E Y k->Rf.free E { Y with dA:=J,dc:=c2,M:=Y.M++[(p,q)] } k:=fun k Z I=>⟨fun e=>(hY k e).elim I.1 fun L=>by omega,I.2⟩
 have hG:∀ k,k<w.heap.size->Rf.free E Y k->¬Rf.ag E Y k/\Rf.free E { Y with dA:=J,dc:=c2,M:=Y.M++[(p,q)] } k:=fun k Z I=>⟨I.1,O k Z I⟩
 have ao:=(ae.refl (fun k=>k=E.mb) U).put (p:=⟨E.mb,3,none⟩) (.inl rfl) (.slice J (s.made.length+1) c2) |>.own ho (fun g V e=>ad (by rw[aj] at V;exact e▸V))
 have ah:=(t1.lies h.own h.apart).put 3 (.slice J (s.made.length+1) c2)
 have hle:(s.made++[q]).length=s.made.length+1:=by simp
 have X:∀ {A:Option Addr} {n:Nat},Gs (fun k=>Rf.free E Y k/\k<w.heap.size) A n->Gs (Rf.free E { Y with dA:=J,dc:=c2,M:=Y.M++[(p,q)] }) A n:=fun V=>V.mono fun k I=>O k I.2 I.1
 refine⟨⟨h.base.trans (t2.below h.base.size h.low),fun k I=>(hY k I).elim (h.low k) fun e=>Fo h.base.size e,by unfold Rf.cells;rw[hle];exact ah,h.kn,?_,h.decl.turn t2 hG,h.scope.turn t2 hG,?_,?_,fun r Q=>?_,fun k I=>Fp (h.vY k I) t2.size,fun k I e=>(hY k e).elim (h.BH k I) fun L=>by have:=h.vY k I;omega,h.xD⟩,t2,hY⟩
 ·exact(h.aO.inside.turn t2 fun k I=>I.1.1).mono fun k I=>O k I.2 I.1
 ·show World.ownsRow _ _ _ 3 _ _ ((Y.M++[(p,q)]).flatMap BS)
  rw[IH,hle]
  exact ao
 ·show(Y.M++[(p,q)]).map (·.2)=_
  rw[Hf,h.ml]
  rfl
 ·rcases F7.1 Q with Q|Q
  ·have hx:=(h.each r Q).1.inside (h.each r Q).2
   exact⟨(h.each r Q).1.turn t2 hx fun k I=>I.1.1,X hx⟩
  ·rw[F0.1 Q]
   exact⟨hq.1.turn t2 hq.2 fun k I=>I.1.1,X hq.2⟩
end
def Rf.Left (E:Rf.Env) (w:World) (Y:Rf.Lay) (s':Rf.St) (w':World):Prop:=∃ Y',Rf.aF E w' Y' s'/\Y'.X=Y.X/\ae (Rf.ag E Y) w w'/\∀ k,Rf.ag E Y' k->Rf.ag E Y k\/w.heap.size<=k
theorem Rf.Left.after {E:Rf.Env} {w J L:World} {Y r:Rf.Lay} {s':Rf.St} (h:Rf.Left E J r s' L) (hX:r.X=Y.X) (ht:ae (Rf.ag E Y) w J) (I:∀ k,Rf.ag E r k->Rf.ag E Y k\/w.heap.size<=k):Rf.Left E w Y s' L:=by
 obtain⟨O,U,Q,V,Z⟩:=h
 exact⟨O,U,Q.trans hX,ht.trans V I,fun k hk=>(Z k hk).elim (I k) fun e=> .inr (Fo ht.size e)⟩
theorem Rf.Left.up {E:Rf.Env} {w W w':World} {Y:Rf.Lay} {s':Rf.St} (h:Rf.Left E W Y s' w') (hb:Below w.heap.size w W):Rf.Left E w Y s' w':=h.after rfl (ae.af hb) fun _=> .inl
theorem Rf.Left.same {E:Rf.Env} {w r:World} {Y:Rf.Lay} {s:Rf.St} (h:Rf.aF E w Y s) (hb:Below w.heap.size w r):Rf.Left E w Y s r:=⟨Y,h.below hb,rfl,ae.af hb,fun _=> .inl⟩
theorem Rf.aF.sb {E:Rf.Env} {w w':World} {Y:Rf.Lay} {s:Rf.St} {J:Nat->Prop} (h:Rf.aF E w Y s) (hT:ae Y.X w w') (L:∀ k,J k->(Y.X k\/w.heap.size<=k)/\k<w'.heap.size):Rf.aF E w' { Y with X:=J } s:=by
 have hn:∀ k,k<w.heap.size->Rf.free E Y k->Rf.free E { Y with X:=J } k:=fun k I r=>⟨r.1,fun e=>(L k e).1.elim r.2 fun e=>by omega⟩
 have Q:∀ k,k<w.heap.size->Rf.free E Y k->¬Y.X k/\Rf.free E { Y with X:=J } k:=fun k I r=>⟨r.2,hn k I r⟩
 have hs:=h.base.size
 refine⟨h.base.trans (hT.below h.base.size h.xD),h.low,hT.lies h.own fun e=>h.BH _ e (.inl rfl),h.kn,(h.aO.inside.turn hT fun k r=>r.1.2).mono fun k r=>hn k r.2 r.1,h.decl.turn hT Q,h.scope.turn hT Q,
  hT.own h.row (fun g U e=>h.BH g e (.inr (by rw[aj] at U;exact U))),h.ml,fun q O=>?_,fun k r=>(L k r).2,fun k r=>(L k r).1.elim (h.BH k) fun e f=>?_,fun k r=>(L k r).1.elim (h.xD k) fun e=>by omega⟩
 ·have V:=(h.each q O).1.inside (h.each q O).2
  exact⟨(h.each q O).1.turn hT V fun k r=>r.1.2,V.mono fun k r=>hn k r.2 r.1⟩
 ·have:=h.lt k f
  omega
end Go.Proofs.YtdbgiijdgedggaaGreatDoor
namespace Go.Proofs.YtdbgiijdgedggaaGreatDoor
open Go.RowKit Go.Shelf
theorem az {s:ByteArray} {l:List UInt8} (h:¬s.data.toList=l):(s.toList == l)=false:=by rw[GA];exact Gx.2 h
theorem aq {s:ByteArray} {l:List UInt8} (h:s.data.toList=l):(s.toList == l)=true:=by rw[GA];exact Gw.2 h
theorem Bd.ud {s:List UInt8} {n:Nat} (h:s∉Bd.bg):Bd.op s n=0:=by
 have r:s≠[45]:=fun e=>h (by rw[e];decide)
 unfold Bd.op
 rw[FQ fun e=>r e.1]
 split
 ·rfl
 ·have:List.findIdx? (fun t=>t == s) Bd.bg=none:=by
   rw[List.findIdx?_eq_none_iff]
   intro x I
   rw[Gx]
   exact fun e=>h (e▸I)
  rw[this]
theorem Bd.Az (s:List UInt8):Bd.op s 0=Bd.op s 2:=by unfold Bd.op;simp
theorem zA (s:ByteArray) (w:World) (ad:s.data.toList≠[110,111,116]/\s.data.toList≠[97,110,100]/\s.data.toList≠[111,114]/\s.data.toList≠[61,62]/\s.data.toList≠[120,111,114]/\s.data.toList≠[61]/\s.data.toList≠[100,105,115,116,105,110,99,116]/\s.data.toList≠[105,116,101]/\s.data.toList≠[43]/\s.data.toList≠[45]/\s.data.toList≠[42]/\s.data.toList≠[60,61]/\s.data.toList≠[60]/\s.data.toList≠[62,61]/\s.data.toList≠[62]):
  Calls Tryz.prog 129 #[.string s] w fun e w'=>e=.returned (.int .i64 (Bd.op s.data.toList 0))/\w'=w:=by
 obtain⟨O,Q,U,V,X,Z,n6,n7,n8,n9,h,r,I,J,L⟩:=ad
 by_cases h0:s.data.toList=[115,116,114,46,43,43]
 ·rw[h0]
  have e:Bd.op [115,116,114,46,43,43] 0=22:=by decide
  rw[e]
  have b0:=aq h0
  clear O Q U V X Z n6 n7 n8 n9 h r I J L h0
  go_enter Tryz.func129,Tryz.ntmps129
  go_wp2
  go_ret
  exact⟨rfl,rfl⟩
 have b0:=az h0
 by_cases h1:s.data.toList=[115,116,114,46,108,101,110]
 ·rw[h1]
  have e:Bd.op [115,116,114,46,108,101,110] 0=23:=by decide
  rw[e]
  have b1:=aq h1
  clear O Q U V X Z n6 n7 n8 n9 h r I J L h1
  go_enter Tryz.func129,Tryz.ntmps129
  go_wp2
  go_ret
  exact⟨rfl,rfl⟩
 have b1:=az h1
 by_cases h2:s.data.toList=[115,116,114,46,97,116]
 ·rw[h2]
  have e:Bd.op [115,116,114,46,97,116] 0=24:=by decide
  rw[e]
  have b2:=aq h2
  clear O Q U V X Z n6 n7 n8 n9 h r I J L h2
  go_enter Tryz.func129,Tryz.ntmps129
  go_wp2
  go_ret
  exact⟨rfl,rfl⟩
 have b2:=az h2
 by_cases h3:s.data.toList=[115,116,114,46,115,117,98,115,116,114]
 ·rw[h3]
  have e:Bd.op [115,116,114,46,115,117,98,115,116,114] 0=25:=by decide
  rw[e]
  have b3:=aq h3
  clear O Q U V X Z n6 n7 n8 n9 h r I J L h3
  go_enter Tryz.func129,Tryz.ntmps129
  go_wp2
  go_ret
  exact⟨rfl,rfl⟩
 have b3:=az h3
 by_cases h4:s.data.toList=[115,116,114,46,112,114,101,102,105,120,111,102]
 ·rw[h4]
  have e:Bd.op [115,116,114,46,112,114,101,102,105,120,111,102] 0=26:=by decide
  rw[e]
  have b4:=aq h4
  clear O Q U V X Z n6 n7 n8 n9 h r I J L h4
  go_enter Tryz.func129,Tryz.ntmps129
  go_wp2
  go_ret
  exact⟨rfl,rfl⟩
 have b4:=az h4
 by_cases h5:s.data.toList=[115,116,114,46,115,117,102,102,105,120,111,102]
 ·rw[h5]
  have e:Bd.op [115,116,114,46,115,117,102,102,105,120,111,102] 0=27:=by decide
  rw[e]
  have b5:=aq h5
  clear O Q U V X Z n6 n7 n8 n9 h r I J L h5
  go_enter Tryz.func129,Tryz.ntmps129
  go_wp2
  go_ret
  exact⟨rfl,rfl⟩
 have b5:=az h5
 by_cases h6:s.data.toList=[115,116,114,46,99,111,110,116,97,105,110,115]
 ·rw[h6]
  have e:Bd.op [115,116,114,46,99,111,110,116,97,105,110,115] 0=28:=by decide
  rw[e]
  have b6:=aq h6
  clear O Q U V X Z n6 n7 n8 n9 h r I J L h6
  go_enter Tryz.func129,Tryz.ntmps129
  go_wp2
  go_ret
  exact⟨rfl,rfl⟩
 have b6:=az h6
 by_cases h7:s.data.toList=[115,116,114,46,105,110,100,101,120,111,102]
 ·rw[h7]
  have e:Bd.op [115,116,114,46,105,110,100,101,120,111,102] 0=29:=by decide
  rw[e]
  have b7:=aq h7
  clear O Q U V X Z n6 n7 n8 n9 h r I J L h7
  go_enter Tryz.func129,Tryz.ntmps129
  go_wp2
  go_ret
  exact⟨rfl,rfl⟩
 have b7:=az h7
 by_cases h8:s.data.toList=[115,116,114,46,114,101,112,108,97,99,101]
 ·rw[h8]
  have e:Bd.op [115,116,114,46,114,101,112,108,97,99,101] 0=30:=by decide
  rw[e]
  have b8:=aq h8
  clear O Q U V X Z n6 n7 n8 n9 h r I J L h8
  go_enter Tryz.func129,Tryz.ntmps129
  go_wp2
  go_ret
  exact⟨rfl,rfl⟩
 have b8:=az h8
 by_cases h9:s.data.toList=[]
 ·have e:Bd.op s.data.toList 0=0:=by rw[h9];decide
  rw[e]
  clear O Q U V X Z n6 n7 n8 n9 h r I J L h0 h1 h2 h3 h4 h5 h6 h7 h8 h9
  go_enter Tryz.func129,Tryz.ntmps129
  go_wp2
  go_ret
  exact⟨rfl,rfl⟩
 have e:Bd.op s.data.toList 0=0:=Bd.ud (by simp[Bd.bg,O,Q,U,V,X,Z,n6,n7,n8,n9,h,r,I,J,L,h0,h1,h2,h3,h4,h5,h6,h7,h8,h9])
 rw[e]
 clear O Q U V X Z n6 n7 n8 n9 h r I J L h0 h1 h2 h3 h4 h5 h6 h7 h8 h9
 go_enter Tryz.func129,Tryz.ntmps129
 go_wp2
 go_ret
 exact⟨rfl,rfl⟩
theorem Bd.db {s:List UInt8} (h:s≠[45]) (n:Nat):Bd.op s n=Bd.op s 0:=by unfold Bd.op;simp[h]
theorem kQ (s:ByteArray) (n:Nat) (w:World):
  Calls Tryz.prog 86 #[.string s,.int .i64 (n:Int)] w fun e w'=>e=.returned (.int .i64 (Bd.op s.data.toList n))/\w'=w:=by
 by_cases I:s.data.toList=[110,111,116]
 ·rw[Bd.db (by rw[I];decide) n,I]
  have e:Bd.op [110,111,116] 0=6:=by decide
  rw[e]
  have b0:=aq I
  clear I
  go_enter Tryz.func86,Tryz.ntmps86
  go_wp2
  go_ret
  exact⟨rfl,rfl⟩
 have b0:=az I
 by_cases J:s.data.toList=[97,110,100]
 ·rw[Bd.db (by rw[J];decide) n,J]
  have e:Bd.op [97,110,100] 0=7:=by decide
  rw[e]
  have b1:=aq J
  clear I J
  go_enter Tryz.func86,Tryz.ntmps86
  go_wp2
  go_ret
  exact⟨rfl,rfl⟩
 have b1:=az J
 by_cases O:s.data.toList=[111,114]
 ·rw[Bd.db (by rw[O];decide) n,O]
  have e:Bd.op [111,114] 0=8:=by decide
  rw[e]
  have b2:=aq O
  clear I J O
  go_enter Tryz.func86,Tryz.ntmps86
  go_wp2
  go_ret
  exact⟨rfl,rfl⟩
 have b2:=az O
 by_cases U:s.data.toList=[61,62]
 ·rw[Bd.db (by rw[U];decide) n,U]
  have e:Bd.op [61,62] 0=9:=by decide
  rw[e]
  have b3:=aq U
  clear I J O U
  go_enter Tryz.func86,Tryz.ntmps86
  go_wp2
  go_ret
  exact⟨rfl,rfl⟩
 have b3:=az U
 by_cases V:s.data.toList=[120,111,114]
 ·rw[Bd.db (by rw[V];decide) n,V]
  have e:Bd.op [120,111,114] 0=10:=by decide
  rw[e]
  have b4:=aq V
  clear I J O U V
  go_enter Tryz.func86,Tryz.ntmps86
  go_wp2
  go_ret
  exact⟨rfl,rfl⟩
 have b4:=az V
 by_cases Z:s.data.toList=[61]
 ·rw[Bd.db (by rw[Z];decide) n,Z]
  have e:Bd.op [61] 0=11:=by decide
  rw[e]
  have b5:=aq Z
  clear I J O U V Z
  go_enter Tryz.func86,Tryz.ntmps86
  go_wp2
  go_ret
  exact⟨rfl,rfl⟩
 have b5:=az Z
 by_cases h6:s.data.toList=[100,105,115,116,105,110,99,116]
 ·rw[Bd.db (by rw[h6];decide) n,h6]
  have e:Bd.op [100,105,115,116,105,110,99,116] 0=12:=by decide
  rw[e]
  have b6:=aq h6
  clear I J O U V Z h6
  go_enter Tryz.func86,Tryz.ntmps86
  go_wp2
  go_ret
  exact⟨rfl,rfl⟩
 have b6:=az h6
 by_cases h7:s.data.toList=[105,116,101]
 ·rw[Bd.db (by rw[h7];decide) n,h7]
  have e:Bd.op [105,116,101] 0=13:=by decide
  rw[e]
  have b7:=aq h7
  clear I J O U V Z h6 h7
  go_enter Tryz.func86,Tryz.ntmps86
  go_wp2
  go_ret
  exact⟨rfl,rfl⟩
 have b7:=az h7
 by_cases h8:s.data.toList=[43]
 ·rw[Bd.db (by rw[h8];decide) n,h8]
  have e:Bd.op [43] 0=15:=by decide
  rw[e]
  have b8:=aq h8
  clear I J O U V Z h6 h7 h8
  go_enter Tryz.func86,Tryz.ntmps86
  go_wp2
  go_ret
  exact⟨rfl,rfl⟩
 have b8:=az h8
 by_cases h9:s.data.toList=[45]
 ·by_cases hn:n=1
  ·subst hn
   rw[h9]
   have e:Bd.op [45] 1=14:=by decide
   rw[e]
   have b9:=aq h9
   clear I J O U V Z h6 h7 h8 h9
   go_enter Tryz.func86,Tryz.ntmps86
   go_wp2
   go_ret
   exact⟨rfl,rfl⟩
  ·have e:Bd.op [45] n=16:=by unfold Bd.op;rw[FQ fun e=>hn e.2];decide
   rw[h9,e]
   have b9:=aq h9
   have ba:((n:Int) == 1)=false:=Gx.2 (by omega)
   clear I J O U V Z h6 h7 h8 h9
   go_enter Tryz.func86,Tryz.ntmps86
   go_wp2
   go_ret
   exact⟨rfl,rfl⟩
 have b9:=az h9
 by_cases h:s.data.toList=[42]
 ·rw[Bd.db (by rw[h];decide) n,h]
  have e:Bd.op [42] 0=17:=by decide
  rw[e]
  have ah:=aq h
  clear I J O U V Z h6 h7 h8 h9 h
  go_enter Tryz.func86,Tryz.ntmps86
  go_wp2
  go_ret
  exact⟨rfl,rfl⟩
 have ah:=az h
 by_cases L:s.data.toList=[60,61]
 ·rw[Bd.db (by rw[L];decide) n,L]
  have e:Bd.op [60,61] 0=18:=by decide
  rw[e]
  have ao:=aq L
  clear I J O U V Z h6 h7 h8 h9 h L
  go_enter Tryz.func86,Tryz.ntmps86
  go_wp2
  go_ret
  exact⟨rfl,rfl⟩
 have ao:=az L
 by_cases Q:s.data.toList=[60]
 ·rw[Bd.db (by rw[Q];decide) n,Q]
  have e:Bd.op [60] 0=19:=by decide
  rw[e]
  have av:=aq Q
  clear I J O U V Z h6 h7 h8 h9 h L Q
  go_enter Tryz.func86,Tryz.ntmps86
  go_wp2
  go_ret
  exact⟨rfl,rfl⟩
 have av:=az Q
 by_cases X:s.data.toList=[62,61]
 ·rw[Bd.db (by rw[X];decide) n,X]
  have e:Bd.op [62,61] 0=20:=by decide
  rw[e]
  have a1:=aq X
  clear I J O U V Z h6 h7 h8 h9 h L Q X
  go_enter Tryz.func86,Tryz.ntmps86
  go_wp2
  go_ret
  exact⟨rfl,rfl⟩
 have a1:=az X
 by_cases ad:s.data.toList=[62]
 ·rw[Bd.db (by rw[ad];decide) n,ad]
  have e:Bd.op [62] 0=21:=by decide
  rw[e]
  have a7:=aq ad
  clear I J O U V Z h6 h7 h8 h9 h L Q X ad
  go_enter Tryz.func86,Tryz.ntmps86
  go_wp2
  go_ret
  exact⟨rfl,rfl⟩
 have a7:=az ad
 rw[Bd.db h9 n]
 have HT:=Gn fun w=>zA s w ⟨I,J,O,U,V,Z,h6,h7,h8,h9,h,L,Q,X,ad⟩
 clear I J O U V Z h6 h7 h8 h9 h L Q X ad
 generalize Bd.op s.data.toList 0=r at HT ⊢
 go_enter Tryz.func86,Tryz.ntmps86
 go_wp2_with fail
 refine(HT.out _).mono ?_
 rintro e w1 ⟨rfl,rfl⟩
 clear HT
 go_wp2
 go_ret
 exact⟨rfl,rfl⟩
theorem cA (l p:List UInt8):Lib.hasPrefix l p=decide (l.take p.length=p):=by
 unfold Lib.hasPrefix
 rw[Ia,Hu,List.isPrefixOf_iff_prefix,List.prefix_iff_eq_take]
 exact⟨Eq.symm,Eq.symm⟩
theorem fu (s:ByteArray) (w:World):
  Calls Tryz.prog 39 #[.string s] w fun e w'=>e=.returned (.bool (Bd.reserved s.data.toList))/\w'=w:=by
 by_cases h:s.data.toList=[116,114,117,101]
 ·rw[h]
  have e:Bd.reserved [116,114,117,101]=true:=by decide
  rw[e]
  have b0:=aq h
  clear h
  go_enter Tryz.func39,Tryz.ntmps39
  go_wp2
  go_ret
  exact⟨rfl,rfl⟩
 have b0:=az h
 by_cases r:s.data.toList=[102,97,108,115,101]
 ·rw[r]
  have e:Bd.reserved [102,97,108,115,101]=true:=by decide
  rw[e]
  have b1:=aq r
  clear h r
  go_enter Tryz.func39,Tryz.ntmps39
  go_wp2
  go_ret
  exact⟨rfl,rfl⟩
 have b1:=az r
 by_cases J:s.data.toList=[108,101,116]
 ·rw[J]
  have e:Bd.reserved [108,101,116]=true:=by decide
  rw[e]
  have b2:=aq J
  clear h r J
  go_enter Tryz.func39,Tryz.ntmps39
  go_wp2
  go_ret
  exact⟨rfl,rfl⟩
 have b2:=az J
 by_cases O:s.data.toList=[102,111,114,97,108,108]
 ·rw[O]
  have e:Bd.reserved [102,111,114,97,108,108]=true:=by decide
  rw[e]
  have b3:=aq O
  clear h r J O
  go_enter Tryz.func39,Tryz.ntmps39
  go_wp2
  go_ret
  exact⟨rfl,rfl⟩
 have b3:=az O
 by_cases Q:s.data.toList=[101,120,105,115,116,115]
 ·rw[Q]
  have e:Bd.reserved [101,120,105,115,116,115]=true:=by decide
  rw[e]
  have b4:=aq Q
  clear h r J O Q
  go_enter Tryz.func39,Tryz.ntmps39
  go_wp2
  go_ret
  exact⟨rfl,rfl⟩
 have b4:=az Q
 by_cases V:s.data.toList=[109,97,116,99,104]
 ·rw[V]
  have e:Bd.reserved [109,97,116,99,104]=true:=by decide
  rw[e]
  have b5:=aq V
  clear h r J O Q V
  go_enter Tryz.func39,Tryz.ntmps39
  go_wp2
  go_ret
  exact⟨rfl,rfl⟩
 have b5:=az V
 by_cases X:s.data.toList=[112,97,114]
 ·rw[X]
  have e:Bd.reserved [112,97,114]=true:=by decide
  rw[e]
  have b6:=aq X
  clear h r J O Q V X
  go_enter Tryz.func39,Tryz.ntmps39
  go_wp2
  go_ret
  exact⟨rfl,rfl⟩
 have b6:=az X
 by_cases Z:s.data.toList=[33]
 ·rw[Z]
  have e:Bd.reserved [33]=true:=by decide
  rw[e]
  have b7:=aq Z
  clear h r J O Q V X Z
  go_enter Tryz.func39,Tryz.ntmps39
  go_wp2
  go_ret
  exact⟨rfl,rfl⟩
 have b7:=az Z
 by_cases h8:s.data.toList=[95]
 ·rw[h8]
  have e:Bd.reserved [95]=true:=by decide
  rw[e]
  have b8:=aq h8
  clear h r J O Q V X Z h8
  go_enter Tryz.func39,Tryz.ntmps39
  go_wp2
  go_ret
  exact⟨rfl,rfl⟩
 have b8:=az h8
 by_cases h9:s.data.toList=[97,115]
 ·rw[h9]
  have e:Bd.reserved [97,115]=true:=by decide
  rw[e]
  have b9:=aq h9
  clear h r J O Q V X Z h8 h9
  go_enter Tryz.func39,Tryz.ntmps39
  go_wp2
  go_ret
  exact⟨rfl,rfl⟩
 have b9:=az h9
 by_cases I:s.data.toList=[100,105,118]
 ·rw[I]
  have e:Bd.reserved [100,105,118]=true:=by decide
  rw[e]
  have ad:=aq I
  clear h r J O Q V X Z h8 h9 I
  go_enter Tryz.func39,Tryz.ntmps39
  go_wp2
  go_ret
  exact⟨rfl,rfl⟩
 have ad:=az I
 by_cases L:s.data.toList=[109,111,100]
 ·rw[L]
  have e:Bd.reserved [109,111,100]=true:=by decide
  rw[e]
  have ah:=aq L
  clear h r J O Q V X Z h8 h9 I L
  go_enter Tryz.func39,Tryz.ntmps39
  go_wp2
  go_ret
  exact⟨rfl,rfl⟩
 have ah:=az L
 by_cases U:s.data.toList=[97,98,115]
 ·rw[U]
  have e:Bd.reserved [97,98,115]=true:=by decide
  rw[e]
  have ao:=aq U
  clear h r J O Q V X Z h8 h9 I L U
  go_enter Tryz.func39,Tryz.ntmps39
  go_wp2
  go_ret
  exact⟨rfl,rfl⟩
 have ao:=az U
 have e:Bd.reserved s.data.toList=(decide (Bd.op s.data.toList 0≠0)||Lib.hasPrefix s.data.toList [115,116,114,46]||Lib.hasPrefix s.data.toList [114,101,46]):=by
  rw[cA,cA]
  unfold Bd.reserved
  rw[show Bd.cg.contains s.data.toList=false by simp[Bd.cg,h,r,J,O,Q,V,X,Z,h8,h9,I,L,U],Bd.Az,Ii]
  generalize decide (Bd.op s.data.toList 2≠0)=x
  show(decide (List.take 4 s.data.toList=[115,116,114,46])||decide (List.take 3 s.data.toList=[114,101,46])||x)=(x||decide (List.take 4 s.data.toList=[115,116,114,46])||decide (List.take 3 s.data.toList=[114,101,46]))
  generalize decide (List.take 4 s.data.toList=[115,116,114,46])=y
  generalize decide (List.take 3 s.data.toList=[114,101,46])=z
  cases x <;> cases y <;> cases z <;> rfl
 rw[e]
 have HO:=Gn fun w=>kQ s 0 w
 have H1:=Gn fun w=>Tryz.strings_HasPrefix s ⟨#[115,116,114,46]⟩ w
 have H2:=Gn fun w=>Tryz.strings_HasPrefix s ⟨#[114,101,46]⟩ w
 clear e h r J O Q V X Z h8 h9 I L U
 obtain⟨o,ho⟩:∃ o,Bd.op s.data.toList 0=o:=⟨_,rfl⟩
 obtain⟨p,hp⟩:∃ p,Lib.hasPrefix s.data.toList [115,116,114,46]=p:=⟨_,rfl⟩
 obtain⟨q,hq⟩:∃ q,Lib.hasPrefix s.data.toList [114,101,46]=q:=⟨_,rfl⟩
 rw[show((⟨#[115,116,114,46]⟩:ByteArray).data.toList)=[115,116,114,46] from rfl,hp] at H1
 rw[show((⟨#[114,101,46]⟩:ByteArray).data.toList)=[114,101,46] from rfl,hq] at H2
 rw[ho] at HO
 rw[ho,hp,hq]
 clear ho hp hq
 by_cases h:o=0
 ·subst h
  cases p with
  |true=>
   go_enter Tryz.func39,Tryz.ntmps39
   go_wp2_with (go_at_call 86;refine(HO.out _).mono ?_;rintro e w1 ⟨rfl,rfl⟩)
   refine(H1.out _).mono ?_
   rintro e w1 ⟨rfl,rfl⟩
   go_wp2
   go_ret
   exact⟨rfl,rfl⟩
  |false=>
   go_enter Tryz.func39,Tryz.ntmps39
   go_wp2_with (go_at_call 86;refine(HO.out _).mono ?_;rintro e w1 ⟨rfl,rfl⟩)
   refine(H1.out _).mono ?_
   rintro e w1 ⟨rfl,rfl⟩
   go_wp2_with fail
   refine(H2.out _).mono ?_
   rintro e w1 ⟨rfl,rfl⟩
   go_wp2
   go_ret
   exact⟨by simp,rfl⟩
 ·have hb:(o != 0)=true:=by simp[h]
  go_enter Tryz.func39,Tryz.ntmps39
  go_wp2_with (go_at_call 86;refine(HO.out _).mono ?_;rintro e w1 ⟨rfl,rfl⟩)
  go_ret
  exact⟨by simp[h],rfl⟩
end Go.Proofs.YtdbgiijdgedggaaGreatDoor
namespace Go.Proofs.YtdbgiijdgedggaaGreatDoor
open Go.RowKit
theorem pV (T:ByteArray) (w:World) (hT:T.size<=5) (I:Gl w):
  Calls Tryz.prog 290 #[.string T,.int .i64 16,.int .i64 32] w fun e w'=>(∃ (n:Nat) (v:Value),e=.returned (.tuple #[.int .u64 (n:Nat),v])/\(v=.nilIface/\Lt.parse T.data.toList=some n\/(∃ t x,v=.iface t x)/\Lt.parse T.data.toList=none/\n=0))/\Below w.heap.size w w':=by
 have r:=Gn (ux T w hT)
 have h:=Gn I
 obtain⟨X,J⟩:∃ X,Lt.parse T.data.toList=X:=⟨_,rfl⟩
 rw[J] at r ⊢
 cases X with
 |some n=>
  clear J I
  go_enter Tryz.func290,Tryz.ntmps290
  go_wp2_with (go_at_call 301;refine(r.out).mono ?_;rintro e O ⟨rfl,hb⟩;unfold Lt.rM)
  go_ret2
  exact⟨⟨n,_,rfl,.inl ⟨by first|rfl|trivial,by first|rfl|trivial⟩⟩,hb⟩
 |none=>
  clear J I
  go_enter Tryz.func290,Tryz.ntmps290
  go_wp2_with (first
   |(go_at_call 301;refine(r.out).mono ?_;rintro e O ⟨rfl,hb⟩;unfold Lt.rM)
   |(go_at_call 302;obtain⟨v,g1,g2⟩:=(h.out.below hb).EV;refine(Tryz.strconv_toError_syntax _ _ _ _ v _ (by omega) g1 g2).mono ?_;rintro e Q ⟨N,rfl,_,_,L⟩))
  go_ret2
  exact⟨⟨0,_,rfl,.inr ⟨⟨_,_,rfl⟩,by first|rfl|trivial,rfl⟩⟩,hb.trans (L.mono hb.size)⟩
def dY (c:UInt8) (r t:List UInt8) (k:Nat):Prop:=k=0/\Lt.one (c::r)=(c.toNat,r)\/0<k/\k<=r.length+1/\t.length<=5/\Lt.one (c::r)=(Lt.num t).elim (c.toNat,r) fun n=>(n,(c::r).drop k)
theorem dY.none_ {l:List UInt8} {c:UInt8} {r:List UInt8} (hl:l=c::r) (h:l.take 2≠[92,117]):dY c r [] 0:=by
 subst hl
 refine .inl ⟨rfl,Lt.fp fun e=>h ?_⟩
 obtain⟨rfl,e⟩:=e
 cases r with
 |nil=>cases e
 |cons d r=>injection e with e;subst e;rfl
theorem Lt.nr {α:Type} (o:Option Nat) (f:Nat->α) (d:α):(o.map f).getD d=o.elim d f:=by cases o <;> rfl
theorem dY.four {l:List UInt8} {c:UInt8} {r:List UInt8} (hl:l=c::r) (h:l.take 2=[92,117]) (O:l.take 3≠[92,117,123]) (I:6<=l.length):dY c r ((l.drop 2).take 4) 6:=by
 obtain⟨q,rfl⟩:∃ q,l=92::117::q:=⟨l.drop 2,by have e:=FM 2 l;rw[h] at e;exact e.symm⟩
 injection hl with J L
 subst J
 subst L
 refine .inr ⟨by decide,by simpa using I,by simp;omega,?_⟩
 rw[Lt.gN,Lt.jl fun e=>O ?_,Fx (by simpa using I),Lt.nr]
 ·rfl
 ·cases q with
  |nil=>cases e
  |cons d q=>injection e with e;subst e;rfl
theorem dY.short {l:List UInt8} {c:UInt8} {r:List UInt8} (hl:l=c::r) (h:l.take 2=[92,117]) (L:l.take 3≠[92,117,123]) (O:¬6<=l.length):dY c r [] 0:=by
 obtain⟨q,rfl⟩:∃ q,l=92::117::q:=⟨l.drop 2,by have e:=FM 2 l;rw[h] at e;exact e.symm⟩
 injection hl with I J
 subst I
 subst J
 refine .inl ⟨rfl,?_⟩
 rw[Lt.gN,Lt.jl fun e=>L ?_,FQ (by simp at O;omega)]
 ·rfl
 ·cases q with
  |nil=>cases e
  |cons d q=>injection e with e;subst e;rfl
theorem Lt.mI {α:Type} [DecidableEq α] {x:α}:∀ {a b c d:List α},a++x::b=c++x::d->x∉a->x∉c->a=c/\b=d
 |[],b,[],d,h,_,_=>⟨rfl,by injection h⟩
 |[],b,y::c,d,h,_,hc=>by injection h with h _;subst h;exact absurd Gc hc
 |y::a,b,[],d,h,ha,_=>by injection h with h _;subst h;exact absurd Gc ha
 |y::a,b,z::c,d,h,ha,hc=>by
  injection h with J L
  subst J
  obtain⟨r,I⟩:=Lt.mI L (fun m=>ha (Gd _ m)) (fun m=>hc (Gd _ m))
  exact⟨by rw[r],I⟩
theorem Lt.vP {d:List UInt8} {n:Nat} (h:Lt.num d=some n):(125:UInt8)∉d:=fun hm=>by
 have:=Lt.lM d 0 n (Lt.dR.1 h).2.1 125 hm
 rw[Lt.sL] at this
 cases this
theorem Lt.pM {q d x:List UInt8} (h:q=d++125::x) (hd:(125:UInt8)∉d) (O:d.length<=5):Lt.iu q=(Lt.num d).map fun n=>(n,q.drop (d.length+1)):=by
 have Q:q.drop (d.length+1)=x:=by
  rw[h]
  simp
 rw[Q]
 cases e:Lt.num d with
 |some n=>exact Lt.fP.2 ⟨d,h,O,e⟩
 |none=>
  cases J:Lt.iu q with
  |none=>rfl
  |some y=>
   obtain⟨n,r⟩:=y
   obtain⟨d',L,_,I⟩:=Lt.fP.1 J
   obtain⟨rfl,_⟩:=Lt.mI (h.symm.trans L) hd (Lt.vP I)
   rw[e] at I
   cases I
theorem Lt.uz {q:List UInt8} (h:(125:UInt8)∉q.take 6):Lt.iu q=none:=by
 cases e:Lt.iu q with
 |none=>rfl
 |some y=>
  obtain⟨n,r⟩:=y
  obtain⟨d,I,L,O⟩:=Lt.fP.1 e
  refine absurd ?_ h
  subst I
  rw[List.take_append]
  refine List.mem_append_right _ ?_
  obtain⟨k,J⟩:∃ k,6-d.length=k+1:=⟨5-d.length,by omega⟩
  rw[J,GG]
  exact Gc
theorem dY.far {l:List UInt8} {c:UInt8} {r:List UInt8} (hl:l=c::r) (L:l.take 3=[92,117,123]) (h:(125:UInt8)∉(l.drop 3).take 6):dY c r [] 0:=by
 obtain⟨q,rfl⟩:∃ q,l=92::117::123::q:=⟨l.drop 3,by have e:=FM 3 l;rw[L] at e;exact e.symm⟩
 injection hl with I J
 subst I
 subst J
 refine .inl ⟨rfl,?_⟩
 rw[Lt.gN,Lt.gS,Lt.uz (q:=q) h]
 rfl
theorem dY.iu {l:List UInt8} {c:UInt8} {r d x:List UInt8} (hl:l=c::r) (U:l.take 3=[92,117,123]) (h:(l.drop 3).take 6=d++125::x) (hd:(125:UInt8)∉d):dY c r d (3+d.length+1):=by
 obtain⟨q,rfl⟩:∃ q,l=92::117::123::q:=⟨l.drop 3,by have e:=FM 3 l;rw[U] at e;exact e.symm⟩
 injection hl with O Q
 subst O
 subst Q
 have L:q.take 6=d++125::x:=h
 have J:d.length<=5/\d.length+1<=q.length:=by
  have:=G1 List.length L
  rw[FK,Gb,FG] at this
  omega
 have I:q=d++125::(x++q.drop 6):=by
  conv=>lhs;rw[<-FM 6 q,L]
  simp
 refine .inr ⟨by omega,by simp;omega,J.1,?_⟩
 rw[Lt.gN,Lt.gS,Lt.pM I hd J.1,Lt.nr]
 rw[show 3+d.length+1=(d.length+1)+3 by omega]
 rfl
theorem Lt.gK (c:UInt8):∀ q:List UInt8,Lib.indexByte q c= -1/\c∉q\/∃ d x,Lib.indexByte q c=(d.length:Nat)/\q=d++c::x/\c∉d
 |[]=> .inl ⟨rfl,FD⟩
 |b::q=>by
  rw[Lib.indexByte]
  by_cases hb:b=c
  ·subst hb
   exact .inr ⟨[],q,by simp,rfl,FD⟩
  ·have J:(b == c)=false:=Gx.2 hb
   rw[J,FQ (by simp)]
   rcases Lt.gK c q with⟨r,I⟩|⟨d,x,r,I,L⟩
   ·refine .inl ⟨by rw[r];rfl,fun h=>?_⟩
    rcases FE.1 h with h|h
    ·exact hb h.symm
    ·exact I h
   ·refine .inr ⟨b::d,x,?_,by rw[I];rfl,fun h=>?_⟩
    ·rw[r,FQ (by simp)]
     rfl
    ·rcases FE.1 h with h|h
     ·exact hb h.symm
     ·exact L h
theorem Lt.yb (q:List UInt8):((Lib.cut q [125]).2.2=false/\(125:UInt8)∉q)\/((Lib.cut q [125]).2.2=true/\(∃ x,q=(Lib.cut q [125]).1++125::x)/\(125:UInt8)∉(Lib.cut q [125]).1):=by
 have hi:=Lib.index_one q 125
 rcases Lt.gK 125 q with⟨r,h⟩|⟨d,x,r,h,I⟩
 ·refine .inl ⟨?_,h⟩
  unfold Lib.cut
  rw[hi,r,FQ (by decide)]
 ·have e:Lib.cut q [125]=(d,x,true):=by
   unfold Lib.cut
   rw[hi,r,Fx (by omega)]
   rw[h]
   simp
  rw[e]
  exact .inr ⟨rfl,⟨x,h⟩,I⟩
theorem Lt.pH (s:ByteArray) (n:Nat) (hn:n<=s.size) (w:World):(Instr.slice 9 (.string s) (some (.int .i64 (n:Int))) none none).run Tryz.prog w=.ok (.string (s.extract n s.size)) w:=by
 rw[run_slice_string_from_if _ _ _ _ _ Tryz.underlying9,Fx (by omega)]
 rfl
theorem Lt.cA (l p:List UInt8):Lib.hasPrefix l p=decide (l.take p.length=p):=by
 unfold Lib.hasPrefix
 rw[Ia]
 simp only[Hu,List.isPrefixOf_iff_prefix]
 constructor
 ·rintro⟨t,rfl⟩
  simp
 ·intro h
  exact⟨l.drop p.length,by
   conv=>lhs;lhs;rw[<-h]
   exact FM _ _⟩
theorem wL (s:ByteArray) (c:UInt8) (r:List UInt8) (hl:s.data.toList=c::r) (w:World) (hs:s.size<=100000000) (hG:Gl w):
  Calls Tryz.prog 289 #[.string s] w fun e w'=>(∃ (T:ByteArray) (k:Nat),e=.returned (.tuple #[.string T,.int .i64 (k:Nat)])/\dY c r T.data.toList k)/\Below w.heap.size w w':=by
 have h:Hid (∀ W,Calls Tryz.prog 87 #[.string s,.string ⟨#[92,117,123]⟩] W fun e w'=>e=.returned (.bool (decide (s.data.toList.take 3=[92,117,123])))/\w'=W):=fun W=>by
  have:=Tryz.strings_HasPrefix s ⟨#[92,117,123]⟩ W
  rwa [Lt.cA] at this
 have J:Hid (∀ W,Calls Tryz.prog 87 #[.string s,.string ⟨#[92,117]⟩] W fun e w'=>e=.returned (.bool (decide (s.data.toList.take 2=[92,117])))/\w'=W):=fun W=>by
  have:=Tryz.strings_HasPrefix s ⟨#[92,117]⟩ W
  rwa [Lt.cA] at this
 have I:=Lt.ar s
 by_cases O:s.data.toList.take 3=[92,117,123]
 ·obtain⟨m,hm⟩:=hG.max
  have hlen:3<=s.size:=by
   have:=G1 List.length O
   rw[FK,I] at this
   simp at this
   omega
  obtain⟨e,he⟩:∃ e:Nat,min (s.size:Int) 9=(e:Int):=⟨min s.size 9,by omega⟩
  have av:3<=e:=by omega
  have a1:e<=s.size:=by omega
  have ba:=Lt.cC s 3 e a1 av
  obtain⟨c1,c2⟩:=Lt.bM s 3 e a1 av
  have hq:(s.extract 3 e).data.toList=(s.data.toList.drop 3).take 6:=by
   rw[c1]
   by_cases h9:9<=s.size
   ·rw[show e-3=6 by omega]
   ·rw[Gr (by rw[FU,I];omega),Gr (by rw[FU,I];omega)]
  have hcut:=fun W hW=>Tryz.strings_Cut (s.extract 3 e) ⟨#[125]⟩ m W (by omega) hW
  rw[hq] at hcut
  have L:=Lt.yb ((s.data.toList.drop 3).take 6)
  obtain⟨C,hC⟩:∃ C,Lib.cut ((s.data.toList.drop 3).take 6) [125]=C:=⟨_,rfl⟩
  rw[show(⟨#[125]⟩:ByteArray).data.toList=[125] from rfl,hC] at hcut
  rw[hC] at L
  obtain⟨C1,C2,C3⟩:=C
  simp only at hcut L
  rw[O] at h
  have U:Hid (∀ W,Calls Tryz.prog 87 #[.string s,.string ⟨#[92,117,123]⟩] W fun e w'=>e=.returned (.bool true)/\w'=W):=fun W=>by simpa using h.out W
  have Q:Hid (∀ W,W.cell? ⟨6,0,none⟩=some (.int .i64 m)->Calls Tryz.prog 300 #[.string (s.extract 3 e),.string ⟨#[125]⟩] W fun e w'=>e=.returned (.tuple #[.string ⟨C1.toArray⟩,.string ⟨C2.toArray⟩,.bool C3])/\∃ n,w'=W.drewN n):=hcut
  obtain⟨D,hD⟩:∃ D:ByteArray,(⟨C1.toArray⟩:ByteArray)=D:=⟨_,rfl⟩
  have Z:D.data.toList=C1:=by rw[<-hD]
  have ao:D.size=C1.length:=by rw[<-Lt.ar,Z]
  rw[hD] at Q
  have HB:Hid (∀ k,Below w.heap.size w (w.drewN k)):=fun k=>ae.none_ ((ae.refl (fun _=>False) w).drewN k) (fun _=>id)
  rcases L with⟨rfl,X⟩|⟨rfl,⟨x,hx⟩,X⟩
  ·have V:=Gn (dY.far hl O X)
   clear h J hl I hG hcut hC X hq c1 c2 O hD Z ao
   go_enter Tryz.func289,Tryz.ntmps289
   go_wp2_with (first
    |(go_at_call 87;refine(U.out _).mono ?_;rintro e w1 ⟨rfl,rfl⟩)
    |(go_at_call 300;refine(Q.out _ hm).mono ?_;rintro e w1 ⟨rfl,n,rfl⟩))
   go_ret2
   exact⟨⟨_,_,rfl,V.out⟩,HB.out _⟩
  ·have V:=Gn (dY.iu hl O hx X)
   have bb:D.size<=6:=by
    have:=G1 List.length hx
    rw[FK,Gb,FG] at this
    omega
   rw[<-Z,Lt.ar] at V
   clear h J hl I hG hcut hC X hq c1 c2 O hD hx Z ao
   go_enter Tryz.func289,Tryz.ntmps289
   go_wp2_with (first
    |(go_at_call 87;refine(U.out _).mono ?_;rintro e w1 ⟨rfl,rfl⟩)
    |(go_at_call 300;refine(Q.out _ hm).mono ?_;rintro e w1 ⟨rfl,n,rfl⟩))
   go_ret2
   exact⟨⟨_,_,by first|rfl|(congr 3;omega),V.out⟩,HB.out _⟩
 ·have ad:Hid (∀ W,Calls Tryz.prog 87 #[.string s,.string ⟨#[92,117,123]⟩] W fun e w'=>e=.returned (.bool false)/\w'=W):=fun W=>by simpa [O] using h.out W
  by_cases h2:s.data.toList.take 2=[92,117]
  ·have U:Hid (∀ W,Calls Tryz.prog 87 #[.string s,.string ⟨#[92,117]⟩] W fun e w'=>e=.returned (.bool true)/\w'=W):=fun W=>by simpa [h2] using J.out W
   by_cases h6:6<=s.size
   ·have V:=Gn (dY.four hl h2 O (by omega))
    obtain⟨c1,c2⟩:=Lt.bM s 2 6 h6 (by decide)
    rw[<-c1] at V
    have ba:=Lt.cC s 2 6 h6 (by decide)
    have a7:(6:Int)<=(s.size:Int):=by omega
    clear h J hl I hG O h2 c1 c2
    go_enter Tryz.func289,Tryz.ntmps289
    go_wp2_with (first
     |(go_at_call 87;refine(ad.out _).mono ?_;rintro e w1 ⟨rfl,rfl⟩)
     |(go_at_call 87;refine(U.out _).mono ?_;rintro e w1 ⟨rfl,rfl⟩))
    go_ret2
    exact⟨⟨_,_,rfl,V.out⟩,Gp _ _⟩
   ·have V:=Gn (dY.short hl h2 O (by omega))
    have a7:¬(6:Int)<=(s.size:Int):=by omega
    clear h J hl I hG O h2 h6
    go_enter Tryz.func289,Tryz.ntmps289
    go_wp2_with (first
     |(go_at_call 87;refine(ad.out _).mono ?_;rintro e w1 ⟨rfl,rfl⟩)
     |(go_at_call 87;refine(U.out _).mono ?_;rintro e w1 ⟨rfl,rfl⟩))
    go_ret2
    exact⟨⟨⟨#[]⟩,0,rfl,V.out⟩,Gp _ _⟩
  ·have ah:Hid (∀ W,Calls Tryz.prog 87 #[.string s,.string ⟨#[92,117]⟩] W fun e w'=>e=.returned (.bool false)/\w'=W):=fun W=>by simpa [h2] using J.out W
   have V:=Gn (dY.none_ hl h2)
   clear h J hl I hG O h2
   go_enter Tryz.func289,Tryz.ntmps289
   go_wp2_with (first
    |(go_at_call 87;refine(ad.out _).mono ?_;rintro e w1 ⟨rfl,rfl⟩)
    |(go_at_call 87;refine(ah.out _).mono ?_;rintro e w1 ⟨rfl,rfl⟩))
   go_ret2
   exact⟨⟨⟨#[]⟩,0,rfl,V.out⟩,Gp _ _⟩
end Go.Proofs.YtdbgiijdgedggaaGreatDoor
