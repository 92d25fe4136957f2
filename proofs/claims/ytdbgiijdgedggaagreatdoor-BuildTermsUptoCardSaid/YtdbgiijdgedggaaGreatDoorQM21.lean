import Derived.Test.YtdbgiijdgedggaaGreatDoorQM20
import Derived.Deep.RegionLaw
set_option linter.unusedSimpArgs false
set_option linter.unusedVariables false
set_option maxRecDepth 100000
set_option maxHeartbeats 25600000
namespace Go.Proofs.YtdbgiijdgedggaaGreatDoor
open Go.RowKit
section
variable {E : Mk.Env} {w w' : World} {M : Nat} {Y Y' : Mk.Lay} {s : Ms}
theorem Mk.aF.last (h:Mk.aF E w M Y s) {bs:List Fr} {f:Fr} (hf:s.fr=bs++[f]):∃ FB P J,Y.FL=FB++[(P,f)]/\FB.length=bs.length/\Y.fA=some ⟨J,0,none⟩/\J<w.heap.size/\Mk.ag M Y J/\
  (∀ j u,(dn (P,f))[j]?=some u->w.cell? ⟨J,bs.length*5+j,none⟩=some u)/\∀ j,w.frozen? ⟨J,j,none⟩=false:=by
 have O:=h.fl
 rw[hf] at O
 obtain⟨FB,Z,L,V,Q⟩:=wO O
 have hlen:s.fr.length=bs.length+1:=by rw[hf];simp
 have r:FB.length=bs.length:=by rw[<-V,Fi]
 obtain⟨P,f0⟩:=Z
 simp only at Q
 subst Q
 have I:=h.fZ
 rcases I.2 with⟨_,e⟩|⟨g,cap,cur,e,_,X,_⟩
 ·omega
 ·injection e with U _ e3
  refine⟨FB,P,g,L,r,U,(Fl.1 X).1,.inr (.inr (.inr (.inr (.inl (by rw[U];rfl))))),fun j u hu=>?_,fun j=>?_⟩
  ·have:=I.cells (g:=g) (by rw[U];rfl) (bs.length*5+j) u (by
    rw[L,IH,Ga (by rw[iK,r];omega),iK,r,II]
    simpa using hu)
   rw[addr_add,FA] at this
   exact this
  ·exact World.ownsRow.frozenAt (by rw[<-U];exact I) j
theorem su (FB:List (qU×Fr)) (P:qU) (f:Fr) (A:Option Addr) (c:Nat) (id:Int):((FB++[(P,f)]).flatMap dn).set (FB.length*5+1) (.slice A (f.ids.length+1) c)=(FB++[({ P with iA:=A,ic:=c },{ f with ids:=f.ids++[id] })]).flatMap dn:=by
 rw[IH,IH,List.set_append_right _ _ (by rw[iK];omega),iK,II]
 simp
theorem Mk.aF.given (h:Mk.aF E w M Y s) {FB:List (qU×Fr)} {bs:List Fr} {P:qU} {f:Fr} {U:Nat} {w2:World} {Q:Option Addr} {c2:Nat} {id:Int} (hf:s.fr=bs++[f]) (V:Y.FL=FB++[(P,f)]) (av:FB.length=bs.length) (ao:Y.fA=some ⟨U,0,none⟩)
  (J:w.grownBy w2 (ak P.iA)) (ho:w2.ownsRow 0 3 1 (.slice Q (f.ids.length+1) c2) (f.ids.length+1) (cH f.ids++[.int .i64 id])) (hl:ak Q=ak P.iA\/ak Q=some w.heap.size):
  Mk.Left E w M Y { s with fr:=bs++[{ f with ids:=f.ids++[id] }] } (w2.setCell ⟨U,bs.length*5+1,none⟩ (.slice Q (f.ids.length+1) c2)):=by
 have r:(P,f)∈Y.FL:=by rw[V];simp
 have L:∀ q∈FB,q∈Y.FL:=fun q I=>by rw[V];exact F9 _ I
 have ah:=h.apart
 rw[V,List.pairwise_append] at ah
 have Z:∀ q∈FB,∀ g,ak q.1.iA=some g->ak P.iA≠some g:=fun q I g bn=>ah.2.2 q I (P,f) (by simp) g bn
 have t1:ae (fun k=>ak P.iA=some k) w w2:=ae.aB J fun _ e _=>e
 have O:ak Y.fA=some U:=by rw[ao];rfl
 have X:∀ g,ak Q=some g->ak P.iA=some g\/g=w.heap.size:=fun g e=>by
  rcases hl with e2|e2
  ·exact .inl (e2▸e)
  ·rw[e2] at e
   exact .inr (Fk e).symm
 have a7:ak Q≠some U:=fun e=>(X U e).elim (h.Ct r O) fun e=>by
  have:=h.lt U (.inr (.inr (.inr (.inr (.inl O)))))
  omega
 have t2:ae (fun k=>k=U\/ak P.iA=some k) w (w2.setCell ⟨U,bs.length*5+1,none⟩ (.slice Q (f.ids.length+1) c2)):=(t1.mono fun i _ hi=> .inr hi).put (p:=⟨U,bs.length*5+1,none⟩) (.inl (.inl rfl)) _
 have a1:ae (Mk.ag M Y) w (w2.setCell ⟨U,bs.length*5+1,none⟩ (.slice Q (f.ids.length+1) c2)):=t2.mono fun i _ hi=>hi.elim (fun e=> .inr (.inr (.inr (.inr (.inl (e▸O)))))) fun e=> .inr (.inr (.inr (.inr (.inr ⟨_,r,e⟩))))
 have hY:∀ k,Mk.ag M { Y with FL:=FB++[({ P with iA:=Q,ic:=c2 },{ f with ids:=f.ids++[id] })] } k->Mk.ag M Y k\/w.heap.size<=k:=fun k hk=>by
  rcases hk with e|e|e|e|e|⟨q,I,e⟩
  ·exact .inl (.inl e)
  ·exact .inl (.inr (.inl e))
  ·exact .inl (.inr (.inr (.inl e)))
  ·exact .inl (.inr (.inr (.inr (.inl e))))
  ·exact .inl (.inr (.inr (.inr (.inr (.inl e)))))
  ·rcases F7.1 I with I|I
   ·exact .inl (.inr (.inr (.inr (.inr (.inr ⟨q,L q I,e⟩)))))
   ·rw[F0.1 I] at e
    rcases X k e with e|e
    ·exact .inl (.inr (.inr (.inr (.inr (.inr ⟨_,r,e⟩)))))
    ·exact .inr (by omega)
 obtain⟨o1,o2,o3,o4,o5⟩:=h.outer a1 hY
 have hG:∀ k,k<w.heap.size->¬Mk.ag M Y k->¬(k=U\/ak P.iA=some k)/\¬Mk.ag M { Y with FL:=FB++[({ P with iA:=Q,ic:=c2 },{ f with ids:=f.ids++[id] })] } k:=fun k bb hk=>
  ⟨fun e=>hk (e.elim (fun e=> .inr (.inr (.inr (.inr (.inl (e▸O)))))) fun e=> .inr (.inr (.inr (.inr (.inr ⟨_,r,e⟩))))),(o5 k bb hk).2⟩
 have bo:∀ g,(Value.slice Y.sA s.sc.length Y.sc).ownBlock=some g->¬(g=U\/ak P.iA=some g):=fun g J e=>by
  rw[aj] at J
  exact e.elim (fun e=>h.Eu J (e▸O)) (h.Ey r J)
 have hlen:s.fr.length=bs.length+1:=by rw[hf];simp
 have ad:=t1.own h.fZ (fun g J=>by rw[aj] at J;exact h.Ct r J)
 rw[ao,V] at ad
 have ba:=(ad.stored (FB.length*5+1) (.slice Q (f.ids.length+1) c2)).1
 rw[su FB P f Q c2 id,av] at ba
 have hle:(bs++[{ f with ids:=f.ids++[id] }]).length=s.fr.length:=by rw[hlen];simp
 have bl:=((ae.refl (fun k=>k=U) w2).put (p:=⟨U,bs.length*5+1,none⟩) (.inl rfl) (.slice Q (f.ids.length+1) c2)).own ho (fun g J e=>a7 (by rw[aj] at J;exact e▸J))
 refine⟨{ Y with FL:=FB++[({ P with iA:=Q,ic:=c2 },{ f with ids:=f.ids++[id] })] },⟨o1,o2,by rw[hle];exact t2.lies h.own (fun e=>e.elim (fun e=>h.BM (by rw[e];exact O)) (h.BC r)),h.aO.turn t2 (fun k hk e=>e.elim (fun e=>h.xf U O (e▸hk)) fun e=>h.xi _ r k e hk),h.made.turn t2 (fun e=>e.elim (fun e=>h.EG (by rw[e];exact O)) (h.EC r)),
  t2.own h.fY bo,h.sl,fun q I=>(h.zj q I).turn t2 hG,by rw[hle,ao];exact ba,?_,fun q I=>?_,fun q I=>?_,?_,h.xM,h.xm,h.xs,h.xf,fun q I g J=>?_,o3,o4⟩,a1,hY⟩
 ·have:=h.fl
  rw[V,hf,Hf] at this
  have h1:=(List.append_inj this (by rw[Fi,av])).1
  show List.map _ (FB++_)=_
  rw[Hf,h1]
  rfl
 ·rcases F7.1 I with I|I
  ·exact(h.vX q (L q I)).turn t2 hG
  ·rw[F0.1 I]
   have:=(h.vX _ r).turn t2 hG
   exact⟨this.le,this.tree,this.th⟩
 ·rcases F7.1 I with I|I
  ·exact t2.own (h.ids q (L q I)) (fun g J e=>by
    rw[aj] at J
    exact e.elim (fun e=>h.Ct (L q I) O (e▸J)) (Z q I g J))
  ·rw[F0.1 I]
   show World.ownsRow _ 0 _ 1 (.slice Q (f.ids++[id]).length c2) _ (cH (f.ids++[id]))
   rw[Gb,Im,show cH (f.ids++[id])=cH f.ids++[.int .i64 id] by simp]
   exact bl
 ·rw[List.pairwise_append]
  refine⟨ah.1,List.pairwise_singleton _ _,fun p hp q I g J e=>?_⟩
  rw[F0.1 I] at e
  rcases X g e with e|e
  ·exact Z p hp g J e
  ·have:=h.lt g (.inr (.inr (.inr (.inr (.inr ⟨p,L p hp,J⟩)))))
   omega
 ·rcases F7.1 I with I|I
  ·exact h.xi q (L q I) g J
  ·rw[F0.1 I] at J
   rcases X g J with e|e
   ·exact h.xi _ r g e
   ·exact fun hb=>by
     have:=h.aO.lt g hb
     omega
end
theorem oJ:(Tryz.prog.info? 3).map (fun i=>(i.zero,i.size,i.bytes))=some (some (.int .i64 0),1,8):=by kernel_rfl
theorem pk (E:Mk.Env) (w:World) (M:Nat) (Y:Mk.Lay) (s:Ms) (bs:List Fr) (f:Fr) (id e:Int) (h:Mk.aF E w M Y s) (hf:s.fr=bs++[f]) (hb:bs.length<=5000) (hn:f.ids.length<=100000):
  Calls Tryz.prog 237 #[.pointer (some ⟨M,0,none⟩),.int .i64 id,.int .i64 e] w fun x w'=>Mk.aY E w M Y (Mk.give s id e) x w':=by
 by_cases he:e=0
 ·subst he
  have J:Mk.give s id 0=({ s with fr:=bs++[{ f with ids:=f.ids++[id] }] },0):=by
   unfold Mk.give
   rw[Fx rfl,hf,Mk.jH]
  rw[J]
  obtain⟨FB,P,Z,U,Q,I,a7,a1,hc,av⟩:=h.last hf
  have r:(P,f)∈Y.FL:=by rw[U];simp
  have hlen:s.fr.length=bs.length+1:=by rw[hf];simp
  have c5:w.cell? ⟨M,5,none⟩=some (.slice (some ⟨Z,0,none⟩) (bs.length+1) Y.fc):=by rw[h.own.cell,<-hlen,<-I];rfl
  have bp:=h.own.lt
  have ci:=hc 1 _ rfl
  obtain⟨A,hA⟩:∃ A,P.iA=A:=⟨_,rfl⟩
  obtain⟨c,ah⟩:∃ c,P.ic=c:=⟨_,rfl⟩
  have O:=h.ids _ r
  simp only[hA,ah] at ci O
  have HW:Hid (∀ nq o X c2 V,(w.drewN nq |>.alloc o).grownBy V (Value.slice A f.ids.length c).ownBlock->V.ownsRow 0 3 1 (.slice X (f.ids.length+1) c2) (f.ids.length+1) (cH f.ids++[.int .i64 id])->((Value.slice X (f.ids.length+1) c2).ownBlock=(Value.slice A f.ids.length c).ownBlock\/(Value.slice X (f.ids.length+1) c2).ownBlock=some (w.drewN nq |>.alloc o).heap.size)->
    Mk.Left E w M Y { s with fr:=bs++[{ f with ids:=f.ids++[id] }] } (V.setCell ⟨Z,bs.length*5+1,none⟩ (.slice X (f.ids.length+1) c2))/\Z<V.heap.size/\V.frozen? ⟨Z,bs.length*5+1,none⟩=false/\V.cell? ⟨Z,bs.length*5+1,none⟩=some (.slice A f.ids.length c)):=fun nq o X c2 V q1 q2 q3=>by
   rw[aj,<-hA] at q1 q3
   rw[aj] at q3
   have ad:Below w.heap.size w (w.drewN nq |>.alloc o):=(below_drewN (Gp _ w) nq).alloc (Fm _) o
   have h1:=h.below ad
   have bE:ak P.iA≠some Z:=h.Ct r (by rw[I];rfl)
   have e1:=(ae.aB (F:=fun k=>ak P.iA=some k) q1 fun _ e _=>e).own h1.fZ (fun g hg=>by rw[aj] at hg;exact h.Ct r hg)
   refine⟨(h1.given hf U Q I q1 q2 q3).up ad,?_,?_,?_⟩
   ·exact Fp a7 (Fo ad.size q1.size)
   ·exact World.ownsRow.frozenAt (by rw[<-I];exact e1) _
   ·have:=e1.cells (g:=Z) (by rw[I];rfl) (bs.length*5+1) (.slice P.iA f.ids.length P.ic) (by
     rw[U,IH,Ga (by rw[iK,Q];omega),iK,Q,II]
     rfl)
    rw[addr_add,FA,hA,ah] at this
    exact this
  have HI:Hid (∀ nq o,(w.drewN nq |>.alloc o).ownsRow 0 3 1 (.slice A f.ids.length c) f.ids.length (cH f.ids)):=fun nq o=>((ae.af (F:=fun _=>False) (below_drewN (Gp _ w) nq)).alloc o).own O fun _ _ h=>h
  obtain⟨i0,hi,bl,bn,bo⟩:=Gj oJ
  obtain⟨m,hm⟩:∃ m,bs.length=m:=⟨_,rfl⟩
  obtain⟨L,hL⟩:∃ L:List Value,cH f.ids=L:=⟨_,rfl⟩
  obtain⟨n,ao⟩:∃ n,f.ids.length=n:=⟨_,rfl⟩
  rw[hL] at HW HI
  rw[ao] at HW HI ci hn
  rw[hm] at HW c5 ci hb
  have bz:((m:Int)+1)-1=(m:Int):=by omega
  have bB:((m+1:Nat):Int)=(m:Int)+1:=by omega
  have ba:n+1<=maxLen:=by unfold maxLen;omega
  have bb:(n+1)*8<=140737488355328:=by omega
  have bC:(0:Int)<=(m:Int):=by omega
  have bD:(m:Int)<(m:Int)+1:=by omega
  clear h hf J U Q I a1 hc av r hlen O hA ah hL hm ao
  go_enter Tryz.func237,Tryz.ntmps237
  go_wp2_with fail
  go_quiet (fail)
  go_wp2_with (at_builtin;refine cZ _ rfl (.tmp 25) (.tmp 27) 44 rfl 0 3 i0 (.int .i64 0) 8 Tryz.underlying44 hi bl bn bo rfl (.slice A n c) n L (by simp[Act.eval]) (HI.out _ _) ⟨w.heap.size,0,none⟩ 1 1 [.int .i64 id] (by simp[Act.eval]) rfl (Gm _ _ _) (by intro u hu;simp at hu;subst hu;rfl) ba bb (Fz _) ?_;intro X c2 V o2 g2 a2;obtain⟨l2,z2,f2,y2⟩:=HW.out _ _ X c2 V g2 o2 a2;have L2:=Gn l2;clear o2 g2 a2 l2)
  go_ret
  exact⟨rfl,L2.out⟩
 ·have J:Mk.give s id e=(s,e):=FQ he
  rw[J]
  have bx:(e == 0)=false:=Gx.2 he
  have HE:=Gn (Mk.Left.same h (Gp _ w))
  clear h hf J
  go_enter Tryz.func237,Tryz.ntmps237
  go_wp2
  go_ret
  exact⟨rfl,HE.out⟩
theorem Cp:(Tryz.prog.info? 177).map (fun i=>(i.zero,i.size,i.bytes))=some (some (.agg #[.slice none 0 0,.slice none 0 0,.nilFunc,.int .i64 0,.int .i64 0]),5,72):=by kernel_rfl
theorem xU:(Tryz.prog.info? 175).map (fun i=>(i.zero,i.size,i.bytes))=some (some (.agg #[.map none,.bool false,.int .i64 0]),3,24):=by kernel_rfl
theorem fH {w:World} {t:TypeId} {cs:Array Value} {l:List Value} (hl:cs.toList=l) (j:Nat) (u:Value) (h:l[j]?=some u):(w.alloc (.cells cs t)).cell? ((⟨w.heap.size,0,none⟩:Addr).add j)=some u:=by
 subst hl
 rw[addr_add,FA,(aa.new w t cs).cell]
 simpa using h
theorem CV (v:Value) (hv:v.oneCell'=true) (A B:Option Addr) (n c m d:Nat) (x y:Int):∀ u∈([.slice A n c,.slice B m d,v,.int .i64 x,.int .i64 y]:List Value),u.oneCell'=true:=by
 intro u hu
 simp at hu
 rcases hu with rfl|rfl|rfl|rfl|rfl <;> first|rfl|exact hv
theorem jK.one {w:World} {G:Nat->Prop} {M:Nat} {v:Value} {th:Kt} (h:jK w G M v th):v.oneCell'=true:=by
 cases th with
 |none=>have h:v=.nilFunc:=h;rw[h];rfl
 |first=>have h:v=_:=h;rw[h];rfl
 |op o=>obtain⟨r,I,rfl,_⟩:=h;rfl
 |fn j=>obtain⟨r,I,rfl,_⟩:=h;rfl
 |cD j A=>obtain⟨r,I,rfl,_⟩:=h;rfl
 |bind names t=>obtain⟨r,I,J,O,Q,pA,pc,L,rfl,_⟩:=h;rfl
theorem yE (E:Mk.Env) (w:World) (M:Nat) (Y:Mk.Lay) (s:Ms) (pA:Option Addr) (pc:Nat) (v:Value) (parts:List Sx) (th:Kt) (dp:Nat) (z:Int) (h:Mk.aF E w M Y s) (hP:rE w (fun k=>¬Mk.ag M Y k) M ⟨pA,pc,none,0,v⟩ ⟨parts,[],th,s.sc.length,dp⟩) (hn:s.fr.length<=100000) (hs:s.sc.length<=100000):
  Calls Tryz.prog 133 #[.pointer (some ⟨M,0,none⟩),.agg #[.slice pA parts.length pc,.slice none 0 0,v,.int .i64 z,.int .i64 (dp:Int)]] w fun x w'=>x=.returned (.tuple #[])/\Mk.Left E w M Y { s with fr:=s.fr++[⟨parts,[],th,s.sc.length,dp⟩] } w':=by
 obtain⟨i0,hi,bl,bn,bo⟩:=Gj Cp
 have c4:w.cell? ⟨M,4,none⟩=some (.slice Y.sA s.sc.length Y.sc):=by rw[h.own.cell];rfl
 have c5:w.cell? ⟨M,5,none⟩=some (.slice Y.fA s.fr.length Y.fc):=by rw[h.own.cell];rfl
 have av:=h.own.lt
 have V:=hP.th.one
 have J:=CV v V pA none parts.length pc 0 0 (s.sc.length:Int) (dp:Int)
 obtain⟨I,O⟩:∃ I,I=w.alloc (.cells #[.slice pA parts.length pc,.slice none 0 0,v,.int .i64 (s.sc.length:Int),.int .i64 (dp:Int)] 177):=⟨_,rfl⟩
 have r:Below w.heap.size w I:=by rw[O];exact(Gp _ w).alloc (Fm _) _
 have ao:aa I w.heap.size 177 #[.slice pA parts.length pc,.slice none 0 0,v,.int .i64 (s.sc.length:Int),.int .i64 (dp:Int)]:=by
  rw[O]
  exact aa.new w 177 _
 have h1:Mk.aF E I.drew M Y s:=(h.below r).drew
 have a1:rE I.drew (fun k=>¬Mk.ag M Y k) M ⟨pA,pc,none,0,v⟩ ⟨parts,[],th,s.sc.length,dp⟩:=hP.turn (F:=fun _=>False) ((ae.af r).drew) fun k _ hk=>⟨id,hk⟩
 have HC:Hid (M<I.heap.size/\I.cell? ⟨M,5,none⟩=some (.slice Y.fA s.fr.length Y.fc)/\aa I w.heap.size 177 #[.slice pA parts.length pc,.slice none 0 0,v,.int .i64 (s.sc.length:Int),.int .i64 (dp:Int)]):=
  ⟨Fp av r.size,(r.cell (p:=⟨M,5,none⟩) av).trans c5,ao⟩
 have HI:Hid (I.drew.ownsRow 0 177 5 (.slice Y.fA s.fr.length Y.fc) s.fr.length (Y.FL.flatMap dn)):=h1.fZ
 have HW:Hid (∀ o X c2 U,(I.drew.alloc o).grownBy U (Value.slice Y.fA s.fr.length Y.fc).ownBlock->U.ownsRow 0 177 5 (.slice X (s.fr.length+1) c2) (s.fr.length+1) (Y.FL.flatMap dn++[.slice pA parts.length pc,.slice none 0 0,v,.int .i64 (s.sc.length:Int),.int .i64 (dp:Int)])->
   ((Value.slice X (s.fr.length+1) c2).ownBlock=(Value.slice Y.fA s.fr.length Y.fc).ownBlock\/(Value.slice X (s.fr.length+1) c2).ownBlock=some (I.drew.alloc o).heap.size)->
   Mk.Left E w M Y { s with fr:=s.fr++[⟨parts,[],th,s.sc.length,dp⟩] } (U.setCell ⟨M,5,none⟩ (.slice X (s.fr.length+1) c2))/\M<U.heap.size/\U.cell? ⟨M,5,none⟩=some (.slice Y.fA s.fr.length Y.fc)/\U.frozen? ⟨M,5,none⟩=false):=fun o X c2 U q1 q2 q3=>by
  rw[aj] at q1
  rw[aj,aj] at q3
  have h2:=h1.alloc o
  have ah:=(ae.aB (F:=fun k=>ak Y.fA=some k) q1 fun _ e _=>e).lies h2.own h2.BM
  refine⟨((h2.push (P:=⟨pA,pc,none,0,v⟩) q1 q2 q3 (a1.turn (F:=fun _=>False) ((ae.refl _ _).alloc o) fun k _ hk=>⟨id,hk⟩) ⟨rfl,rfl,rfl⟩).up ((Gp _ _).alloc (Fm _) o)).up (r.trans (Below.mono ⟨rfl,rfl,rfl,Fm _,fun _ _=>rfl⟩ (Fm _))),ah.lt,by rw[ah.cell];rfl,ah.free 5⟩
 obtain⟨n,Q⟩:∃ n,s.fr.length=n:=⟨_,rfl⟩
 obtain⟨m,a7⟩:∃ m,s.sc.length=m:=⟨_,rfl⟩
 obtain⟨L,hL⟩:∃ L:List Value,Y.FL.flatMap dn=L:=⟨_,rfl⟩
 obtain⟨fA,Z⟩:∃ fA,Y.fA=fA:=⟨_,rfl⟩
 obtain⟨fc,ad⟩:∃ fc,Y.fc=fc:=⟨_,rfl⟩
 rw[hL] at HW HI
 rw[a7] at HW HC c4 hs O J ⊢
 rw[Q,Z,ad] at HW HC HI
 rw[Q,Z,ad] at c5
 rw[Q] at hn
 have ba:n+1<=maxLen:=by unfold maxLen;omega
 have bb:(n+1)*72<=140737488355328:=by omega
 subst O
 clear h hP V r ao h1 a1 Q a7 hL Z ad
 go_enter Tryz.func133,Tryz.ntmps133
 go_wp2_with fail
 obtain⟨z1,y1,l1⟩:=HC.out
 have b0:=l1.cell 0
 have b1:=l1.cell 1
 have b2:=l1.cell 2
 have b3:=l1.cell 3
 have b4:=l1.cell 4
 simp at b0 b1 b2 b3 b4
 go_region_law (refine ay rfl (.tmp 14) (.tmp 16) 170 rfl 0 177 i0 (.agg #[.slice none 0 0,.slice none 0 0,.nilFunc,.int .i64 0,.int .i64 0]) 5 72 Tryz.underlying170 hi bl bn bo rfl (by decide) (.slice fA n fc) n L (by simp[Act.eval]) (HI.out.alloc _) _ 1 1 [.slice pA parts.length pc,.slice none 0 0,v,.int .i64 (m:Int),.int .i64 (dp:Int)] (by simp[Act.eval]) rfl (fH rfl) J ba bb (Fz _) ?_;intro X c2 U o2 g2 a2;obtain⟨l2,z2,y2,f2⟩:=HW.out _ X c2 U g2 o2 a2;have L2:=Gn l2;clear o2 g2 a2 l2)
 all_goals
  clear b0 b1 b2 b3 b4 l1
  go_wp2
  go_end0
  exact⟨rfl,L2.out⟩
theorem Mk.Left.apart {E:Mk.Env} {w w':World} {M:Nat} {Y:Mk.Lay} {s':Ms} (h:Mk.Left E w M Y s' w'):∃ Y',Mk.aF E w' M Y' s'/\ae (Mk.ag M Y) w w'/\(∀ k,Mk.ag M Y' k->Mk.ag M Y k\/w.heap.size<=k)/\∀ k,k<w.heap.size->¬Mk.ag M Y k->¬Mk.ag M Y k/\¬Mk.ag M Y' k:=by
 obtain⟨Y',J,L,r⟩:=h
 exact⟨Y',J,L,r,fun k O I=>⟨I,fun e=>(r k e).elim I fun Q=>by omega⟩⟩
theorem jK.form {w:World} {G:Nat->Prop} {M:Nat} {v:Value} {th:Kt} (h:jK w G M v th):v=.nilFunc\/∃ fn a b,v=.func fn a b:=by
 cases th with
 |none=>exact .inl h
 |first=>exact .inr ⟨_,_,_,h⟩
 |op o=>obtain⟨r,I,h,_⟩:=h;exact .inr ⟨_,_,_,h⟩
 |fn j=>obtain⟨r,I,h,_⟩:=h;exact .inr ⟨_,_,_,h⟩
 |cD j A=>obtain⟨r,I,h,_⟩:=h;exact .inr ⟨_,_,_,h⟩
 |bind names t=>obtain⟨r,I,J,O,Q,pA,pc,L,h,_⟩:=h;exact .inr ⟨_,_,_,h⟩
theorem wM (E:Mk.Env) (w:World) (M:Nat) (Y:Mk.Lay) (s:Ms) (bs:List Fr) (f:Fr) (pA:Option Addr) (pc:Nat) (v:Value) (parts:List Sx) (th:Kt) (h:Mk.aF E w M Y s) (hf:s.fr=bs++[f]) (hb:bs.length<=5000) (hs:s.sc.length<=100000) (hd:f.dp<=5000)
  (hle:parts.length<=pc/\pc<=maxLen) (hP:au w (fun b _=>¬Mk.ag M Y b) pA parts) (hT:jK w (fun k=>¬Mk.ag M Y k) M v th):
  Calls Tryz.prog 235 #[.pointer (some ⟨M,0,none⟩),.slice pA parts.length pc,v] w fun x w'=>Mk.aY E w M Y (Mk.nest s parts th,0) x w':=by
 obtain⟨FB,P,gf,X,V,O,a1,ad,hc,Z⟩:=h.last hf
 have hlen:s.fr.length=bs.length+1:=by rw[hf];simp
 have c5:w.cell? ⟨M,5,none⟩=some (.slice (some ⟨gf,0,none⟩) (bs.length+1) Y.fc):=by rw[h.own.cell,<-hlen,<-O];rfl
 have ao:=h.own.lt
 have c4:=hc 4 _ rfl
 have I:Mk.nest s parts th={ s with fr:=s.fr++[⟨parts,[],th,s.sc.length,f.dp+1⟩] }:=by unfold Mk.nest;rw[hf,Mk.mH]
 have U:Hid (∀ nq,Calls Tryz.prog 133 #[.pointer (some ⟨M,0,none⟩),.agg #[.slice pA parts.length pc,.slice none 0 0,v,.int .i64 0,.int .i64 ((f.dp:Int)+1)]] (w.drewN nq) fun x w'=>x=.returned (.tuple #[])/\Mk.Left E w M Y (Mk.nest s parts th) w'):=fun nq=>by
  have J:Below w.heap.size w (w.drewN nq):=below_drewN (Gp _ w) nq
  have Q:ae (fun _=>False) w (w.drewN nq):=ae.af J
  have:=yE E (w.drewN nq) M Y s pA pc v parts th (f.dp+1) 0 (h.below J) ⟨hle,hP.bR Q fun k _ hk=>⟨id,hk⟩,hT.turn Q fun k _ hk=>⟨id,hk⟩⟩ (by rw[hlen];omega) hs
  rw[I]
  rw[show((f.dp+1:Nat):Int)=(f.dp:Int)+1 by omega] at this
  exact this.mono fun x w' ⟨q1,q2⟩=>⟨q1,q2.up J⟩
 obtain⟨m,hm⟩:∃ m,bs.length=m:=⟨_,rfl⟩
 obtain⟨d,L⟩:∃ d,f.dp=d:=⟨_,rfl⟩
 obtain⟨r,hr⟩:∃ r,Mk.nest s parts th=r:=⟨_,rfl⟩
 rw[hr] at U ⊢
 rw[L] at U c4 hd
 rw[hm] at c5 c4 hb
 have a7:((m:Int)+1)-1=(m:Int):=by omega
 have ba:(0:Int)<=(m:Int):=by omega
 have bb:(m:Int)<(m:Int)+1:=by omega
 have ah:=hT.form
 have av:decide ((262144:Int)<(d:Int)+1)=false:=Gq (by omega)
 clear h hf hle hP hT X V O ad hc Z hlen I hm L hr hs
 rcases ah with rfl|⟨fn,fa,fb,rfl⟩
 all_goals
  go_enter Tryz.func235,Tryz.ntmps235
  go_wp2_with fail
  go_quiet (fail)
  go_wp2_with fail
  refine(U.out _).mono ?_
  rintro e w1 ⟨rfl,l1⟩
  have L1:=Gn l1
  clear U l1 c4 c5
  go_wp2
  go_ret
  exact⟨rfl,L1.out⟩
theorem sB (E:Mk.Env) (w:World) (M:Nat) (Y:Mk.Lay) (s:Ms) (bs:List Fr) (f:Fr) (A:Option Addr) (n c:Nat) (l:List Int) (h:Mk.aF E w M Y s) (hf:s.fr=bs++[f]) (hb:bs.length<=5000) (hn:f.ids.length<=100000) (hl:aH w A n l) (O:0<n):
  Calls Tryz.prog 269 #[.pointer (some ⟨M,0,none⟩),.slice A n c] w fun x w'=>Mk.aY E w M Y (Mk.give s (l.headD 0) 0) x w':=by
 obtain⟨b,off,z,rfl,hz,_,J,hc⟩:=hl.get O
 obtain⟨_,c0⟩:=hc w (Gp _ w)
 have r:l.headD 0=z:=by
  cases l with
  |nil=>simp at hz
  |cons y l=>simpa using hz
 rw[r]
 have I:=Gn (pk E w M Y s bs f z 0 h hf hb hn)
 have Q:(0:Int)<(n:Int):=by omega
 clear h hf hn hl hz hc r
 rw[Ho] at c0
 go_enter Tryz.func269,Tryz.ntmps269
 go_wp2_with fail
 refine I.out.mono ?_
 rintro e U ⟨rfl,L⟩
 have L1:=Gn L
 clear I L c0
 go_wp2
 go_ret
 exact⟨rfl,L1.out⟩
theorem jB.form {w:World} {G:Nat->Prop} {v:Value} {x:iH} (h:jB w G v x):∃ o,v=.map o:=by
 rcases h with⟨h,_⟩|⟨b,q,D,h,_⟩
 ·exact⟨_,h⟩
 ·exact⟨_,h⟩
theorem au.zL {w:World} {G:Nat->Prop} {x:Sx} {A:Option Addr} {c:Nat} (h:au w (fun b _=>G b) A x.L) (hle:x.L.length<=c/\c<=maxLen) (r:G w.heap.size):au (w.alloc (dr x A c)) (fun b _=>G b) (some ⟨w.heap.size,0,none⟩) [x]:=
 .cons _ _ x [] A c (eN w x A c) r hle (h.kept ((Gp _ w).alloc (Fm _) _)) (.nil _)
theorem BK (E:Mk.Env) (w:World) (M:Nat) (Y:Mk.Lay) (s:Ms) (x:Sx) (A:Option Addr) (c:Nat) (Z:Value) (b0:Bool) (bh:Sc) (ahead:Nat) (v:Value) (th:Kt) (h:Mk.aF E w M Y s) (hx:aJ w (fun b _=>¬Mk.ag M Y b) x A c) (hs:jB w (fun k=>¬Mk.ag M Y k) Z ⟨bh,true,ahead⟩) (hT:jK w (fun k=>¬Mk.ag M Y k) M v th)
  (hn:s.fr.length<=5000) (bP:s.sc.length<=5000):
  Calls Tryz.prog 92 #[.pointer (some ⟨M,0,none⟩),aX x A c,.agg #[Z,.bool b0,.int .i64 (ahead:Int)],v] w fun e w'=>e=.returned (.tuple #[])/\Mk.Left E w M Y (Mk.body s x bh ahead th) w':=by
 obtain⟨i0,hi,b4,b5,b6⟩:=Gj xU
 have c4:w.cell? ⟨M,4,none⟩=some (.slice Y.sA s.sc.length Y.sc):=by rw[h.own.cell];rfl
 have av:=h.own.lt
 obtain⟨J,Q⟩:∃ J,J=(w.alloc (dr x A c)).alloc (.cells #[Z,.bool true,.int .i64 (ahead:Int)] 175):=⟨_,rfl⟩
 have I:Below w.heap.size w J:=by rw[Q];exact((Gp _ w).alloc (Fm _) _).alloc (by simp) _
 have ao:aa J w.heap.size 27 #[.bool x.list,.int .i64 x.k,.string x.T,.int .i64 x.ta,.int .i64 x.at_,.slice A x.L.length c]:=by
  rw[Q]
  exact(Fq _ _ _ (by simp)).trans (aa.new w _ _)
 have bl:aa J (w.heap.size+1) 175 #[Z,.bool true,.int .i64 (ahead:Int)]:=by
  have:=aa.new (w.alloc (dr x A c)) 175 #[Z,.bool true,.int .i64 (ahead:Int)]
  rw[H9] at this
  rw[Q]
  exact this
 have h1:Mk.aF E J.drew M Y s:=(h.below I).drew
 have ah:ae (fun _=>False) w J.drew:=(ae.af I).drew
 have bp:=hs.turn (G':=fun k=>¬Mk.ag M Y k) ah fun k _ U=>⟨id,U⟩
 have bx:=hx.tree.bR (G':=fun k=>¬Mk.ag M Y k) ah fun k _ U=>⟨id,U⟩
 have bn:=hT.turn (G':=fun k=>¬Mk.ag M Y k) ah fun k _ U=>⟨id,U⟩
 have HC:Hid (M<J.heap.size/\J.cell? ⟨M,4,none⟩=some (.slice Y.sA s.sc.length Y.sc)/\(J.alloc (.cells #[Z,.bool true,.int .i64 (ahead:Int)] 175)).cell? ⟨M,4,none⟩=some (.slice Y.sA s.sc.length Y.sc)/\aa J (w.heap.size+1) 175 #[Z,.bool true,.int .i64 (ahead:Int)]):=
  ⟨Fp av I.size,(I.cell (p:=⟨M,4,none⟩) av).trans c4,((I.alloc I.size _).cell (p:=⟨M,4,none⟩) av).trans c4,bl⟩
 have HI:Hid (J.drew.ownsRow 0 175 3 (.slice Y.sA s.sc.length Y.sc) s.sc.length (Y.SL.flatMap bw)):=h1.fY
 have HW:Hid (∀ o V c2 O,(J.drew.alloc o).grownBy O (Value.slice Y.sA s.sc.length Y.sc).ownBlock->O.ownsRow 0 175 3 (.slice V (s.sc.length+1) c2) (s.sc.length+1) (Y.SL.flatMap bw++[Z,.bool true,.int .i64 (ahead:Int)])->
   ((Value.slice V (s.sc.length+1) c2).ownBlock=(Value.slice Y.sA s.sc.length Y.sc).ownBlock\/(Value.slice V (s.sc.length+1) c2).ownBlock=some (J.drew.alloc o).heap.size)->
   Calls Tryz.prog 133 #[.pointer (some ⟨M,0,none⟩),.agg #[.slice (some ⟨O.heap.size,0,none⟩) 1 1,.slice none 0 0,v,.int .i64 0,.int .i64 0]] ((O.setCell ⟨M,4,none⟩ (.slice V (s.sc.length+1) c2)).alloc (dr x A c)) (fun e w'=>e=.returned (.tuple #[])/\Mk.Left E w M Y (Mk.body s x bh ahead th) w')/\
   M<O.heap.size/\O.cell? ⟨M,4,none⟩=some (.slice Y.sA s.sc.length Y.sc)/\O.frozen? ⟨M,4,none⟩=false/\aa (O.setCell ⟨M,4,none⟩ (.slice V (s.sc.length+1) c2)) w.heap.size 27 #[.bool x.list,.int .i64 x.k,.string x.T,.int .i64 x.ta,.int .i64 x.at_,.slice A x.L.length c]):=fun o V c2 O q1 q2 q3=>by
  rw[aj] at q1
  rw[aj,aj] at q3
  have h2:=h1.alloc o
  have a1:=(ae.aB (F:=fun k=>ak Y.sA=some k) q1 fun _ e _=>e).lies h2.own h2.BX
  have tO:ae (fun _=>False) J.drew (J.drew.alloc o):=(ae.refl _ _).alloc o
  have a7:=h2.scope (v:=Z) (x:=⟨bh,true,ahead⟩) q1 q2 q3 (bp.turn tO fun k _ U=>⟨id,U⟩)
  obtain⟨Y2,r2,t2,y2,a2⟩:=a7.apart
  have bo:Below w.heap.size w J.drew:=⟨I.os,I.tape,I.output,I.size,I.block⟩
  have bD:Below w.heap.size w (J.drew.alloc o):=bo.alloc bo.size o
  have bT:(O.setCell ⟨M,4,none⟩ (.slice V (s.sc.length+1) c2)).heap.size=O.heap.size:=by simp
  have r3:=r2.alloc (dr x A c)
  have t3:ae (fun _=>False) (O.setCell ⟨M,4,none⟩ (.slice V (s.sc.length+1) c2)) ((O.setCell ⟨M,4,none⟩ (.slice V (s.sc.length+1) c2)).alloc (dr x A c)):=(ae.refl _ _).alloc _
  have hlen:(s.sc++[(⟨bh,true,ahead⟩:iH)]).length=s.sc.length+1:=by simp
  have bz:=((bx.bR (G':=fun k=>¬Mk.ag M Y k) tO fun k _ U=>⟨id,U⟩).bR t2 a2).zL (x:=x) hx.le (fun e=>by have:=r2.lt _ e;omega)
  have bC:=((bn.turn (G':=fun k=>¬Mk.ag M Y k) tO fun k _ U=>⟨id,U⟩).turn t2 a2).turn (G':=fun k=>¬Mk.ag M Y2 k) t3 fun k _ U=>⟨id,U⟩
  rw[bT] at bz
  have hc:=yE E _ M Y2 _ (some ⟨O.heap.size,0,none⟩) 1 v [x] th 0 0 r3 ⟨⟨Fm _,show(1:Nat)<=maxLen by unfold maxLen;omega⟩,bz,by rw[hlen] at *;exact bC⟩ (by show s.fr.length<=_;omega) (by show(s.sc++[_]).length<=_;rw[hlen];omega)
  refine⟨hc.mono fun e w' ⟨e1,e2⟩=>⟨e1,?_⟩,a1.lt,by rw[a1.cell];rfl,a1.free 4,?_⟩
  ·have e3:=((e2.up ((Gp _ _).alloc (Fm _) _)).after t2 y2).up bD
   rw[hlen] at e3
   exact e3
  ·refine t2.lies ((Fq _ _ _ ao.lt).trans (show aa J.drew w.heap.size _ _ from ao)) fun e=>?_
   have:=h.lt _ e
   omega
 obtain⟨m,ad⟩:∃ m,s.sc.length=m:=⟨_,rfl⟩
 obtain⟨L,hL⟩:∃ L:List Value,Y.SL.flatMap bw=L:=⟨_,rfl⟩
 obtain⟨sA,bb⟩:∃ sA,Y.sA=sA:=⟨_,rfl⟩
 obtain⟨sc,X⟩:∃ sc,Y.sc=sc:=⟨_,rfl⟩
 obtain⟨r,hr⟩:∃ r,Mk.body s x bh ahead th=r:=⟨_,rfl⟩
 have ba:∀ u∈([Z,.bool true,.int .i64 (ahead:Int)]:List Value),u.oneCell'=true:=by
  obtain⟨o,rfl⟩:=hs.form
  intro u hu
  simp at hu
  rcases hu with rfl|rfl|rfl <;> rfl
 have b3:=hT.form
 obtain⟨mo,rfl⟩:=hs.form
 rw[hL] at HW HI
 rw[hr] at HW ⊢
 rw[ad,bb,X] at HW HC HI
 rw[ad,bb,X] at c4
 rw[ad] at bP
 have bE:m+1<=maxLen:=by unfold maxLen;omega
 have bL:(m+1)*24<=140737488355328:=by omega
 obtain⟨xl,xk,xT,b8,xa,xL⟩:=x
 unfold aX
 unfold dr at Q HW
 simp only at Q HW ⊢
 obtain⟨xn,bB⟩:∃ xn,xL.length=xn:=⟨_,rfl⟩
 rw[bB] at Q HW ⊢
 subst Q
 clear h hx hs hT I ao bl h1 ah bp bx bn ad hL bb X hr hn bB
 rcases b3 with rfl|⟨fn,fa,fb,rfl⟩
 all_goals
  go_enter Tryz.func92,Tryz.ntmps92
  go_wp2_with fail
  obtain⟨z1,y1,b7,l1⟩:=HC.out
  have b0:=l1.cell 0
  have b1:=l1.cell 1
  have b2:=l1.cell 2
  simp at b0 b1 b2
  go_region_law (refine ay rfl (.tmp 13) (.tmp 15) 169 rfl 0 175 i0 (.agg #[.map none,.bool false,.int .i64 0]) 3 24 Tryz.underlying169 hi b4 b5 b6 rfl (by decide) (.slice sA m sc) m L (by simp[Act.eval]) (HI.out.alloc _) _ 1 1 [.map mo,.bool true,.int .i64 (ahead:Int)] (by simp[Act.eval]) rfl (fH rfl) ba bE bL (Fz _) ?_;intro V c2 O o2 g2 a2;obtain⟨l2,z2,y2,f2,x2⟩:=HW.out _ V c2 O g2 o2 a2;have L2:=Gn l2;have X2:=Gn x2;clear o2 g2 a2 l2 x2)
  all_goals
   clear b0 b1 b2 l1 HW HC HI y1 b7 z1
   have k0:=X2.out.cell 0
   have k1:=X2.out.cell 1
   have k2:=X2.out.cell 2
   have k3:=X2.out.cell 3
   have k4:=X2.out.cell 4
   have k5:=X2.out.cell 5
   simp at k0 k1 k2 k3 k4 k5
   go_wp2_with fail
   refine L2.out.mono ?_
   rintro e w3 ⟨rfl,l3⟩
   have L3:=Gn l3
   clear L2 l3 X2 k0 k1 k2 k3 k4 k5
   go_wp2
   go_end0
   exact⟨rfl,L3.out⟩
def Pl (D:List Dc) (s:ByteArray) (k:Nat):List Int:=((List.range k).filter fun i=>decide (D[i]?.map (·.name)=some s)).map fun(i:Nat)=>(i:Int)
theorem Pl.succ (D:List Dc) (s:ByteArray) (k:Nat):Pl D s (k+1)=if D[k]?.map (·.name)=some s then Pl D s k++[(k:Int)] else Pl D s k:=by
 unfold Pl
 rw[List.range_succ,List.filter_append,Hf]
 by_cases h:D[k]?.map (·.name)=some s
 ·rw[Fx h,ID (by simpa using h)]
  rfl
 ·rw[FQ h,IC (by simpa using h)]
  simp
theorem Pl.len (D:List Dc) (s:ByteArray) (k:Nat):(Pl D s k).length<=k:=by
 unfold Pl
 rw[Fi]
 exact Fo (List.length_filter_le _ _) (by simp)
def Ep (h:List Int):DataW Unit:=if h=[] then .nil else .slice (Go.ChangeShapes.lits .i64 h) []
def gE (h:DataW Unit) (D:List Dc) (k:Nat):Prop:=∀ s:ByteArray,s.size<=maxLen->h.atKey (dF s) .nil=Ep (Pl D s k)
theorem xb {a b:List Int} (h:(Go.ChangeShapes.lits .i64 a:List (DataW Unit))=Go.ChangeShapes.lits .i64 b):a=b:=by
 induction a generalizing b with
 |nil=>
  cases b with
  |nil=>rfl
  |cons y b=>cases h
 |cons x a J=>
  cases b with
  |nil=>cases h
  |cons y b=>
   injection h with r I
   rw[J I,eM r]
theorem uj {w:World} {base:Nat} {v:Value} {I ys:List Int} (h:w.ownsInts base 3 .i64 v I) (e:Ep ys=rowDatum .i64 v I):I=ys:=by
 unfold Ep at e
 rcases h.datum (H:=Unit) with⟨r,J⟩|r
 ·rw[r] at e
  split at e
  ·rename_i L
   rw[J,L]
  ·cases e
 ·rw[r] at e
  split at e
  ·cases e
  ·injection e with e _
   exact(xb e).symm
theorem xG {α β:Type} {f:α->Lit×β} {l:List α} (h:(l.map f).Pairwise fun p q=>p.1≠q.1) {x y:α} (O:x∈l) (hy:y∈l) (e:(f x).1=(f y).1):x=y:=by
 induction l with
 |nil=>cases O
 |cons z l Q=>
  rw[GK,List.pairwise_cons] at h
  rcases FE.1 O with L|I
  ·rcases FE.1 hy with J|r
   ·rw[L,J]
   ·rw[L] at e
    exact absurd e (h.1 _ (Hh.2 ⟨_,r,rfl⟩))
  ·rcases FE.1 hy with J|r
   ·rw[J] at e
    exact absurd e.symm (h.1 _ (Hh.2 ⟨_,I,rfl⟩))
   ·exact Q h.2 I r
theorem jk (w:World):(zeroValue 44).run Tryz.prog w=.ok (.slice none 0 0) w:=by kernel_rfl
theorem mD {w:World} {base b n:Nat} {Z:DataW Unit} (h:w.ownsGroups Tryz.prog 9 base 3 .i64 b n Z) (hn:n<maxLen) (s:ByteArray) (hs:s.size<=maxLen):
  ∃ A m c J,Z.atKey (dF s) .nil=rowDatum .i64 (.slice A m c) J/\w.ownsInts base 3 .i64 (.slice A m c) J/\J.length<=n/\w.groupBack Tryz.prog 167 9 base 3 .i64 b n Z (.string s) (dF s) (.slice A m c)/\
   ∀ W,W.heap[b]?=w.heap[b]?->(Instr.lookup 167 (.map (some b)) (.string s) false).run Tryz.prog W=.ok (.slice A m c) W:=by
 have r:=IG (P:=Tryz.prog) Tryz.underlying9 hs
 obtain⟨v,J,I,ao,Q,av,L⟩:=h.at gC Tryz.underlying167 (jk w) hn r
 obtain⟨A,c,rfl⟩:=aI Q.1
 refine⟨A,J.length,c,J,ao,Q,av,L,fun W hW=>?_⟩
 obtain⟨es,clock,hb,F,_,rfl,_⟩:=h
 have ah:=Maps.fit_apart gC F
 rcases Maps.fit_look false gC Tryz.underlying167 (jk w) hb F r with⟨r1,k1,_⟩|⟨V,y0,m0,k0,r0,R0,_⟩
 ·rcases Maps.fit_look false gC Tryz.underlying167 (jk W) (hW.trans hb) F r with⟨U,O,_⟩|⟨X,y1,m1,O,U,_⟩
  ·rw[I] at r1
   have e:(Value.slice A J.length c)=.slice none 0 0:=by injection r1
   rw[U,e]
   rfl
  ·exact absurd O (k1 X m1)
 ·rcases Maps.fit_look false gC Tryz.underlying167 (jk W) (hW.trans hb) F r with⟨U,O,_⟩|⟨X,y1,m1,O,U,R1,_⟩
  ·exact absurd k0 (O V m0)
  ·have hr:∀ e∈es.toList,e.key=.string s->(WideElems.rg Tryz.prog 9 (rowElem (H:=Unit) w base 3 .i64) e).1=dF s:=fun e he hk=>by
    obtain⟨y,hy⟩:=F.reads e he
    rw[WideElems.rg_of hy]
    have:=WideElems.rd_key hy
    rw[hk,r] at this
    exact(Fk this).symm
   have ad:V=X:=xG ah m0 m1 (by rw[hr V m0 k0,hr X m1 O])
   subst ad
   rw[I] at r0
   have e:(Value.slice A J.length c)=V.val:=(Result.ok.inj r0).1
   rw[U,e]
   rfl
def pF (w:World) (b:Nat) (D:List Dc) (k:Nat):Prop:=b<w.heap.size/\∀ s:ByteArray,s.size<=maxLen->∃ A n c,aH w A n (Pl D s k)/\∀ W,W.heap[b]?=w.heap[b]?->(Instr.lookup 167 (.map (some b)) (.string s) false).run Tryz.prog W=.ok (.slice A n c) W
theorem pF.below {w w':World} {b k:Nat} {D:List Dc} (h:pF w b D k) (hb:Below w.heap.size w w'):pF w' b D k:=
 ⟨Fp h.1 hb.size,fun s hs=>by
  obtain⟨A,n,c,r,I⟩:=h.2 s hs
  exact⟨A,n,c,r.below hb,fun W J=>I W (J.trans (hb.block b h.1))⟩⟩
theorem ql {v w:World} {base b q k:Nat} {Q:DataW Unit} {D:List Dc} {F:Nat->Prop} (h:v.ownsGroups Tryz.prog 9 base 3 .i64 b q Q) (hq:q<maxLen) (hT:gE Q D k) (hw:ae F v w) (hF:∀ i,b<=i->i<v.heap.size->¬F i):pF w b D k:=by
 have Z:=h
 obtain⟨es,clock,hb,_,_,_,ad,_⟩:=Z
 have I:b<v.heap.size:=(Fl.1 hb).1
 refine⟨Fp I hw.size,fun s hs=>?_⟩
 obtain⟨A,m,c,zs,O,J,ah,_,L⟩:=mD h hq s hs
 have e:=uj J ((hT s hs).symm.trans O)
 have r:=J.1
 obtain⟨A',c',V⟩:=aI r
 injection V with e3 X e5
 subst X
 refine⟨A,_,c,?_,fun W hW=>L W (hW.trans (hw.block b I (hF b (Fm _) I)))⟩
 rw[<-e]
 have ho:=hw.own r fun g U=>hF g (by have:=(r.lt g U).1;omega) (r.lt g U).2
 exact pQ ho rfl
end Go.Proofs.YtdbgiijdgedggaaGreatDoor
