/- What the proofs of this claim use, text by text. -/
import Derived.Test.YtcgaeknikfaghaaGreatDoorQD17
import Derived.Deep.RegionLaw
set_option linter.unusedSimpArgs false
set_option linter.unusedVariables false
set_option maxRecDepth 100000
set_option maxHeartbeats 25600000
namespace Go.Proofs.YtcgaeknikfaghaaGreatDoor
open Go.RowKit
section
variable {E : Mk.Env} {w w' : World} {M : Nat} {Y Y' : Mk.Lay} {s : Ms}
theorem Mk.Rep.last (h:Mk.Rep E w M Y s) {bs:List Fr} {f:Fr} (hf:s.fr=bs++[f]):∃ FB P gf,Y.FL=FB++[(P,f)]∧FB.length=bs.length∧Y.fA=some ⟨gf,0,none⟩∧gf<w.heap.size∧Mk.foot M Y gf∧
  (∀ j u,(fcells (P,f))[j]?=some u→w.cell? ⟨gf,bs.length*5+j,none⟩=some u)∧∀ j,w.frozen? ⟨gf,j,none⟩=false:=by
 have hfl:=h.fl
 rw[hf] at hfl
 obtain⟨FB,q0,hFL,hFB,hq0⟩:=map_snoc hfl
 have hlen:s.fr.length=bs.length+1:=by rw[hf];simp
 have hFBl:FB.length=bs.length:=by rw[←hFB,List.length_map]
 obtain⟨P,f0⟩:=q0
 simp only at hq0
 subst hq0
 have hrow:=h.frow
 rcases hrow.2 with⟨_,e⟩|⟨g,cap,cur,e,_,hg,_⟩
 ·omega
 ·injection e with e1 _ e3
  refine⟨FB,P,g,hFL,hFBl,e1,(Array.getElem?_eq_some_iff.1 hg).1,.inr (.inr (.inr (.inr (.inl (by rw[e1];rfl))))),fun j u hu=>?_,fun j=>?_⟩
  ·have:=hrow.cells (g:=g) (by rw[e1];rfl) (bs.length*5+j) u (by
    rw[hFL,List.flatMap_append,List.getElem?_append_right (by rw[fc_len,hFBl];omega),fc_len,hFBl,Nat.add_sub_cancel_left]
    simpa using hu)
   rw[addr_add,Nat.zero_add] at this
   exact this
  ·exact World.ownsRow.frozenAt (by rw[←e1];exact hrow) j
theorem fcells_set (FB:List (FrP×Fr)) (P:FrP) (f:Fr) (A:Option Addr) (c:Nat) (id:Int):((FB++[(P,f)]).flatMap fcells).set (FB.length*5+1) (.slice A (f.ids.length+1) c)=(FB++[({ P with iA:=A,ic:=c },{ f with ids:=f.ids++[id] })]).flatMap fcells:=by
 rw[List.flatMap_append,List.flatMap_append,List.set_append_right _ _ (by rw[fc_len];omega),fc_len,Nat.add_sub_cancel_left]
 simp
theorem Mk.Rep.given (h:Mk.Rep E w M Y s) {FB:List (FrP×Fr)} {bs:List Fr} {P:FrP} {f:Fr} {gf:Nat} {w2:World} {A2:Option Addr} {c2:Nat} {id:Int} (hf:s.fr=bs++[f]) (hFL:Y.FL=FB++[(P,f)]) (hFB:FB.length=bs.length) (hfA:Y.fA=some ⟨gf,0,none⟩)
  (hg:w.grownBy w2 (blkOf P.iA)) (ho:w2.ownsRow 0 3 1 (.slice A2 (f.ids.length+1) c2) (f.ids.length+1) (i64s f.ids++[.int .i64 id])) (hl:blkOf A2=blkOf P.iA∨blkOf A2=some w.heap.size):
  Mk.Left E w M Y { s with fr:=bs++[{ f with ids:=f.ids++[id] }] } (w2.setCell ⟨gf,bs.length*5+1,none⟩ (.slice A2 (f.ids.length+1) c2)):=by
 have hmem:(P,f)∈Y.FL:=by rw[hFL];simp
 have hsub:∀ q∈FB,q∈Y.FL:=fun q hq=>by rw[hFL];exact List.mem_append_left _ hq
 have hap:=h.apart
 rw[hFL,List.pairwise_append] at hap
 have hapl:∀ q∈FB,∀ g,blkOf q.1.iA=some g→blkOf P.iA≠some g:=fun q hq g hq2=>hap.2.2 q hq (P,f) (by simp) g hq2
 have t1:Turn (fun k=>blkOf P.iA=some k) w w2:=Turn.of_grown hg fun _ e _=>e
 have hgf:blkOf Y.fA=some gf:=by rw[hfA];rfl
 have hA2:∀ g,blkOf A2=some g→blkOf P.iA=some g∨g=w.heap.size:=fun g e=>by
  rcases hl with e2|e2
  ·exact .inl (e2▸e)
  ·rw[e2] at e
   exact .inr (Option.some.inj e).symm
 have hlgf:blkOf A2≠some gf:=fun e=>(hA2 gf e).elim (h.f_i hmem hgf) fun e=>by
  have:=h.lt gf (.inr (.inr (.inr (.inr (.inl hgf)))))
  omega
 have t2:Turn (fun k=>k=gf∨blkOf P.iA=some k) w (w2.setCell ⟨gf,bs.length*5+1,none⟩ (.slice A2 (f.ids.length+1) c2)):=(t1.mono fun i _ hi=> .inr hi).put (p:=⟨gf,bs.length*5+1,none⟩) (.inl (.inl rfl)) _
 have hT':Turn (Mk.foot M Y) w (w2.setCell ⟨gf,bs.length*5+1,none⟩ (.slice A2 (f.ids.length+1) c2)):=t2.mono fun i _ hi=>hi.elim (fun e=> .inr (.inr (.inr (.inr (.inl (e▸hgf)))))) fun e=> .inr (.inr (.inr (.inr (.inr ⟨_,hmem,e⟩))))
 have hY:∀ k,Mk.foot M { Y with FL:=FB++[({ P with iA:=A2,ic:=c2 },{ f with ids:=f.ids++[id] })] } k→Mk.foot M Y k∨w.heap.size≤k:=fun k hk=>by
  rcases hk with e|e|e|e|e|⟨q,hq,e⟩
  ·exact .inl (.inl e)
  ·exact .inl (.inr (.inl e))
  ·exact .inl (.inr (.inr (.inl e)))
  ·exact .inl (.inr (.inr (.inr (.inl e))))
  ·exact .inl (.inr (.inr (.inr (.inr (.inl e)))))
  ·rcases List.mem_append.1 hq with hq|hq
   ·exact .inl (.inr (.inr (.inr (.inr (.inr ⟨q,hsub q hq,e⟩)))))
   ·rw[List.mem_singleton.1 hq] at e
    rcases hA2 k e with e|e
    ·exact .inl (.inr (.inr (.inr (.inr (.inr ⟨_,hmem,e⟩)))))
    ·exact .inr (by omega)
 obtain⟨o1,o2,o3,o4,o5⟩:=h.outer hT' hY
 have hG:∀ k,k<w.heap.size→¬Mk.foot M Y k→¬(k=gf∨blkOf P.iA=some k)∧¬Mk.foot M { Y with FL:=FB++[({ P with iA:=A2,ic:=c2 },{ f with ids:=f.ids++[id] })] } k:=fun k hlt hk=>
  ⟨fun e=>hk (e.elim (fun e=> .inr (.inr (.inr (.inr (.inl (e▸hgf)))))) fun e=> .inr (.inr (.inr (.inr (.inr ⟨_,hmem,e⟩))))),(o5 k hlt hk).2⟩
 have hsl:∀ g,(Value.slice Y.sA s.sc.length Y.sc).ownBlock=some g→¬(g=gf∨blkOf P.iA=some g):=fun g hg e=>by
  rw[blk_eq] at hg
  exact e.elim (fun e=>h.s_f hg (e▸hgf)) (h.s_i hmem hg)
 have hlen:s.fr.length=bs.length+1:=by rw[hf];simp
 have hrow:=t1.own h.frow (fun g hg=>by rw[blk_eq] at hg;exact h.f_i hmem hg)
 rw[hfA,hFL] at hrow
 have hst:=(hrow.stored (FB.length*5+1) (.slice A2 (f.ids.length+1) c2)).1
 rw[fcells_set FB P f A2 c2 id,hFB] at hst
 have hle:(bs++[{ f with ids:=f.ids++[id] }]).length=s.fr.length:=by rw[hlen];simp
 have ho2:=((Turn.refl (fun k=>k=gf) w2).put (p:=⟨gf,bs.length*5+1,none⟩) (.inl rfl) (.slice A2 (f.ids.length+1) c2)).own ho (fun g hg e=>hlgf (by rw[blk_eq] at hg;exact e▸hg))
 refine⟨{ Y with FL:=FB++[({ P with iA:=A2,ic:=c2 },{ f with ids:=f.ids++[id] })] },⟨o1,o2,by rw[hle];exact t2.lies h.own (fun e=>e.elim (fun e=>h.M_f (by rw[e];exact hgf)) (h.M_i hmem)),h.bank.turn t2 (fun k hk e=>e.elim (fun e=>h.xf gf hgf (e▸hk)) fun e=>h.xi _ hmem k e hk),h.made.turn t2 (fun e=>e.elim (fun e=>h.m_f (by rw[e];exact hgf)) (h.m_i hmem)),
  t2.own h.srow hsl,h.sl,fun q hq=>(h.sas q hq).turn t2 hG,by rw[hle,hfA];exact hst,?_,fun q hq=>?_,fun q hq=>?_,?_,h.xM,h.xm,h.xs,h.xf,fun q hq g hg=>?_,o3,o4⟩,hT',hY⟩
 ·have:=h.fl
  rw[hFL,hf,List.map_append] at this
  have h1:=(List.append_inj this (by rw[List.length_map,hFB])).1
  show List.map _ (FB++_)=_
  rw[List.map_append,h1]
  rfl
 ·rcases List.mem_append.1 hq with hq|hq
  ·exact(h.fas q (hsub q hq)).turn t2 hG
  ·rw[List.mem_singleton.1 hq]
   have:=(h.fas _ hmem).turn t2 hG
   exact⟨this.le,this.tree,this.th⟩
 ·rcases List.mem_append.1 hq with hq|hq
  ·exact t2.own (h.ids q (hsub q hq)) (fun g hg e=>by
    rw[blk_eq] at hg
    exact e.elim (fun e=>h.f_i (hsub q hq) hgf (e▸hg)) (hapl q hq g hg))
  ·rw[List.mem_singleton.1 hq]
   show World.ownsRow _ 0 _ 1 (.slice A2 (f.ids++[id]).length c2) _ (i64s (f.ids++[id]))
   rw[List.length_append,List.length_singleton,show i64s (f.ids++[id])=i64s f.ids++[.int .i64 id] by simp]
   exact ho2
 ·rw[List.pairwise_append]
  refine⟨hap.1,List.pairwise_singleton _ _,fun p hp q hq g hg e=>?_⟩
  rw[List.mem_singleton.1 hq] at e
  rcases hA2 g e with e|e
  ·exact hapl p hp g hg e
  ·have:=h.lt g (.inr (.inr (.inr (.inr (.inr ⟨p,hsub p hp,hg⟩)))))
   omega
 ·rcases List.mem_append.1 hq with hq|hq
  ·exact h.xi q (hsub q hq) g hg
  ·rw[List.mem_singleton.1 hq] at hg
   rcases hA2 g hg with e|e
   ·exact h.xi _ hmem g e
   ·exact fun hb=>by
     have:=h.bank.lt g hb
     omega
end
theorem infoI64:(Tryz.prog.info? 3).map (fun i=>(i.zero,i.size,i.bytes))=some (some (.int .i64 0),1,8):=by kernel_rfl
theorem kgive (E:Mk.Env) (w:World) (M:Nat) (Y:Mk.Lay) (s:Ms) (bs:List Fr) (f:Fr) (id e:Int) (h:Mk.Rep E w M Y s) (hf:s.fr=bs++[f]) (hb:bs.length≤5000) (hn:f.ids.length≤100000):
  Calls Tryz.prog 162 #[.pointer (some ⟨M,0,none⟩),.int .i64 id,.int .i64 e] w fun x w'=>Mk.Ans E w M Y (Mk.give s id e) x w':=by
 by_cases he:e=0
 ·subst he
  have hgv:Mk.give s id 0=({ s with fr:=bs++[{ f with ids:=f.ids++[id] }] },0):=by
   unfold Mk.give
   rw[if_pos rfl,hf,Mk.onto_snoc]
  rw[hgv]
  obtain⟨FB,P,gf,hFL,hFB,hfA,hgl,hgF,hc,hfz⟩:=h.last hf
  have hmem:(P,f)∈Y.FL:=by rw[hFL];simp
  have hlen:s.fr.length=bs.length+1:=by rw[hf];simp
  have c5:w.cell? ⟨M,5,none⟩=some (.slice (some ⟨gf,0,none⟩) (bs.length+1) Y.fc):=by rw[h.own.cell,←hlen,←hfA];rfl
  have hMl:=h.own.lt
  have ci:=hc 1 _ rfl
  obtain⟨A,hA⟩:∃ A,P.iA=A:=⟨_,rfl⟩
  obtain⟨c,hcc⟩:∃ c,P.ic=c:=⟨_,rfl⟩
  have hids:=h.ids _ hmem
  simp only[hA,hcc] at ci hids
  have HW:Hid (∀ nq o A2 c2 w2,(w.drewN nq |>.alloc o).grownBy w2 (Value.slice A f.ids.length c).ownBlock→w2.ownsRow 0 3 1 (.slice A2 (f.ids.length+1) c2) (f.ids.length+1) (i64s f.ids++[.int .i64 id])→((Value.slice A2 (f.ids.length+1) c2).ownBlock=(Value.slice A f.ids.length c).ownBlock∨(Value.slice A2 (f.ids.length+1) c2).ownBlock=some (w.drewN nq |>.alloc o).heap.size)→
    Mk.Left E w M Y { s with fr:=bs++[{ f with ids:=f.ids++[id] }] } (w2.setCell ⟨gf,bs.length*5+1,none⟩ (.slice A2 (f.ids.length+1) c2))∧gf<w2.heap.size∧w2.frozen? ⟨gf,bs.length*5+1,none⟩=false∧w2.cell? ⟨gf,bs.length*5+1,none⟩=some (.slice A f.ids.length c)):=fun nq o A2 c2 w2 q1 q2 q3=>by
   rw[blk_eq,←hA] at q1 q3
   rw[blk_eq] at q3
   have hb0:Below w.heap.size w (w.drewN nq |>.alloc o):=(below_drewN (Below.refl _ w) nq).alloc (Nat.le_refl _) o
   have h1:=h.below hb0
   have hne:blkOf P.iA≠some gf:=h.f_i hmem (by rw[hfA];rfl)
   have e1:=(Turn.of_grown (F:=fun k=>blkOf P.iA=some k) q1 fun _ e _=>e).own h1.frow (fun g hg=>by rw[blk_eq] at hg;exact h.f_i hmem hg)
   refine⟨(h1.given hf hFL hFB hfA q1 q2 q3).up hb0,?_,?_,?_⟩
   ·exact Nat.lt_of_lt_of_le hgl (Nat.le_trans hb0.size q1.size)
   ·exact World.ownsRow.frozenAt (by rw[←hfA];exact e1) _
   ·have:=e1.cells (g:=gf) (by rw[hfA];rfl) (bs.length*5+1) (.slice P.iA f.ids.length P.ic) (by
     rw[hFL,List.flatMap_append,List.getElem?_append_right (by rw[fc_len,hFB];omega),fc_len,hFB,Nat.add_sub_cancel_left]
     rfl)
    rw[addr_add,Nat.zero_add,hA,hcc] at this
    exact this
  have HI:Hid (∀ nq o,(w.drewN nq |>.alloc o).ownsRow 0 3 1 (.slice A f.ids.length c) f.ids.length (i64s f.ids)):=fun nq o=>((Turn.of_below (F:=fun _=>False) (below_drewN (Below.refl _ w) nq)).alloc o).own hids fun _ _ h=>h
  obtain⟨i0,hi,hz0,hz1,hz2⟩:=info_parts infoI64
  obtain⟨m,hm⟩:∃ m,bs.length=m:=⟨_,rfl⟩
  obtain⟨L,hL⟩:∃ L:List Value,i64s f.ids=L:=⟨_,rfl⟩
  obtain⟨n,hnn⟩:∃ n,f.ids.length=n:=⟨_,rfl⟩
  rw[hL] at HW HI
  rw[hnn] at HW HI ci hn
  rw[hm] at HW c5 ci hb
  have hm1:((m:Int)+1)-1=(m:Int):=by omega
  have hm5:((m+1:Nat):Int)=(m:Int)+1:=by omega
  have hn1:n+1≤maxLen:=by unfold maxLen;omega
  have hn8:(n+1)*8≤140737488355328:=by omega
  have hmi:(0:Int)≤(m:Int):=by omega
  have hml:(m:Int)<(m:Int)+1:=by omega
  clear h hf hgv hFL hFB hfA hgF hc hfz hmem hlen hids hA hcc hL hm hnn
  go_enter Tryz.func162,Tryz.ntmps162
  go_wp2_with fail
  go_quiet (fail)
  go_wp2_with (at_builtin;refine append_row _ rfl (.tmp 25) (.tmp 27) 44 rfl 0 3 i0 (.int .i64 0) 8 Tryz.underlying44 hi hz0 hz1 hz2 rfl (.slice A n c) n L (by simp[Act.eval]) (HI.out _ _) ⟨w.heap.size,0,none⟩ 1 1 [.int .i64 id] (by simp[Act.eval]) rfl (cell_one_new _ _ _) (by intro u hu;simp at hu;subst hu;rfl) hn1 hn8 (Nat.zero_le _) ?_;intro A2 c2 w2 o2 g2 a2;obtain⟨l2,z2,f2,y2⟩:=HW.out _ _ A2 c2 w2 g2 o2 a2;have L2:=Lib.hid l2;clear o2 g2 a2 l2)
  go_ret
  exact⟨rfl,L2.out⟩
 ·have hgv:Mk.give s id e=(s,e):=if_neg he
  rw[hgv]
  have he0:(e == 0)=false:=beq_eq_false_iff_ne.2 he
  have HE:=Lib.hid (Mk.Left.same h (Below.refl _ w))
  clear h hf hgv
  go_enter Tryz.func162,Tryz.ntmps162
  go_wp2
  go_ret
  exact⟨rfl,HE.out⟩
theorem infoFr:(Tryz.prog.info? 130).map (fun i=>(i.zero,i.size,i.bytes))=some (some (.agg #[.slice none 0 0,.slice none 0 0,.nilFunc,.int .i64 0,.int .i64 0]),5,72):=by kernel_rfl
theorem infoSc:(Tryz.prog.info? 127).map (fun i=>(i.zero,i.size,i.bytes))=some (some (.agg #[.map none,.bool false,.int .i64 0]),3,24):=by kernel_rfl
theorem new_at {w:World} {t:TypeId} {cs:Array Value} {l:List Value} (hl:cs.toList=l) (j:Nat) (u:Value) (h:l[j]?=some u):(w.alloc (.cells cs t)).cell? ((⟨w.heap.size,0,none⟩:Addr).add j)=some u:=by
 subst hl
 rw[addr_add,Nat.zero_add,(Lies.new w t cs).cell]
 simpa using h
theorem fc_one (v:Value) (hv:v.oneCell'=true) (A B:Option Addr) (n c m d:Nat) (x y:Int):∀ u∈([.slice A n c,.slice B m d,v,.int .i64 x,.int .i64 y]:List Value),u.oneCell'=true:=by
 intro u hu
 simp at hu
 rcases hu with rfl|rfl|rfl|rfl|rfl <;> first|rfl|exact hv
theorem ThAs.one {w:World} {G:Nat→Prop} {M:Nat} {v:Value} {th:Kt} (h:ThAs w G M v th):v.oneCell'=true:=by
 cases th with
 |none=>have h:v=.nilFunc:=h;rw[h];rfl
 |first=>have h:v=_:=h;rw[h];rfl
 |op o=>obtain⟨b1,b2,rfl,_⟩:=h;rfl
 |fn j=>obtain⟨b1,b2,rfl,_⟩:=h;rfl
 |memo j A=>obtain⟨b1,b2,rfl,_⟩:=h;rfl
 |bind names t=>obtain⟨b1,b2,b3,nA,nc,pA,pc,bx,rfl,_⟩:=h;rfl
theorem kbegin (E:Mk.Env) (w:World) (M:Nat) (Y:Mk.Lay) (s:Ms) (pA:Option Addr) (pc:Nat) (v:Value) (parts:List Sx) (th:Kt) (dp:Nat) (z:Int) (h:Mk.Rep E w M Y s) (hP:FrAs w (fun k=>¬Mk.foot M Y k) M ⟨pA,pc,none,0,v⟩ ⟨parts,[],th,s.sc.length,dp⟩) (hn:s.fr.length≤100000) (hs:s.sc.length≤100000):
  Calls Tryz.prog 92 #[.pointer (some ⟨M,0,none⟩),.agg #[.slice pA parts.length pc,.slice none 0 0,v,.int .i64 z,.int .i64 (dp:Int)]] w fun x w'=>x=.returned (.tuple #[])∧Mk.Left E w M Y { s with fr:=s.fr++[⟨parts,[],th,s.sc.length,dp⟩] } w':=by
 obtain⟨i0,hi,hz0,hz1,hz2⟩:=info_parts infoFr
 have c4:w.cell? ⟨M,4,none⟩=some (.slice Y.sA s.sc.length Y.sc):=by rw[h.own.cell];rfl
 have c5:w.cell? ⟨M,5,none⟩=some (.slice Y.fA s.fr.length Y.fc):=by rw[h.own.cell];rfl
 have hMl:=h.own.lt
 have hone:=hP.th.one
 have hone2:=fc_one v hone pA none parts.length pc 0 0 (s.sc.length:Int) (dp:Int)
 obtain⟨E1,hE1⟩:∃ E1,E1=w.alloc (.cells #[.slice pA parts.length pc,.slice none 0 0,v,.int .i64 (s.sc.length:Int),.int .i64 (dp:Int)] 130):=⟨_,rfl⟩
 have hb1:Below w.heap.size w E1:=by rw[hE1];exact(Below.refl _ w).alloc (Nat.le_refl _) _
 have hL1:Lies E1 w.heap.size 130 #[.slice pA parts.length pc,.slice none 0 0,v,.int .i64 (s.sc.length:Int),.int .i64 (dp:Int)]:=by
  rw[hE1]
  exact Lies.new w 130 _
 have h1:Mk.Rep E E1.drew M Y s:=(h.below hb1).drew
 have hP1:FrAs E1.drew (fun k=>¬Mk.foot M Y k) M ⟨pA,pc,none,0,v⟩ ⟨parts,[],th,s.sc.length,dp⟩:=hP.turn (F:=fun _=>False) ((Turn.of_below hb1).drew) fun k _ hk=>⟨id,hk⟩
 have HC:Hid (M<E1.heap.size∧E1.cell? ⟨M,5,none⟩=some (.slice Y.fA s.fr.length Y.fc)∧Lies E1 w.heap.size 130 #[.slice pA parts.length pc,.slice none 0 0,v,.int .i64 (s.sc.length:Int),.int .i64 (dp:Int)]):=
  ⟨Nat.lt_of_lt_of_le hMl hb1.size,(hb1.cell (p:=⟨M,5,none⟩) hMl).trans c5,hL1⟩
 have HI:Hid (E1.drew.ownsRow 0 130 5 (.slice Y.fA s.fr.length Y.fc) s.fr.length (Y.FL.flatMap fcells)):=h1.frow
 have HW:Hid (∀ o A2 c2 w2,(E1.drew.alloc o).grownBy w2 (Value.slice Y.fA s.fr.length Y.fc).ownBlock→w2.ownsRow 0 130 5 (.slice A2 (s.fr.length+1) c2) (s.fr.length+1) (Y.FL.flatMap fcells++[.slice pA parts.length pc,.slice none 0 0,v,.int .i64 (s.sc.length:Int),.int .i64 (dp:Int)])→
   ((Value.slice A2 (s.fr.length+1) c2).ownBlock=(Value.slice Y.fA s.fr.length Y.fc).ownBlock∨(Value.slice A2 (s.fr.length+1) c2).ownBlock=some (E1.drew.alloc o).heap.size)→
   Mk.Left E w M Y { s with fr:=s.fr++[⟨parts,[],th,s.sc.length,dp⟩] } (w2.setCell ⟨M,5,none⟩ (.slice A2 (s.fr.length+1) c2))∧M<w2.heap.size∧w2.cell? ⟨M,5,none⟩=some (.slice Y.fA s.fr.length Y.fc)∧w2.frozen? ⟨M,5,none⟩=false):=fun o A2 c2 w2 q1 q2 q3=>by
  rw[blk_eq] at q1
  rw[blk_eq,blk_eq] at q3
  have h2:=h1.alloc o
  have hl2:=(Turn.of_grown (F:=fun k=>blkOf Y.fA=some k) q1 fun _ e _=>e).lies h2.own h2.M_f
  refine⟨((h2.push (P:=⟨pA,pc,none,0,v⟩) q1 q2 q3 (hP1.turn (F:=fun _=>False) ((Turn.refl _ _).alloc o) fun k _ hk=>⟨id,hk⟩) ⟨rfl,rfl,rfl⟩).up ((Below.refl _ _).alloc (Nat.le_refl _) o)).up (hb1.trans (Below.mono ⟨rfl,rfl,rfl,Nat.le_refl _,fun _ _=>rfl⟩ (Nat.le_refl _))),hl2.lt,by rw[hl2.cell];rfl,hl2.free 5⟩
 obtain⟨n,hnn⟩:∃ n,s.fr.length=n:=⟨_,rfl⟩
 obtain⟨m,hmm⟩:∃ m,s.sc.length=m:=⟨_,rfl⟩
 obtain⟨L,hL⟩:∃ L:List Value,Y.FL.flatMap fcells=L:=⟨_,rfl⟩
 obtain⟨fA,hfA⟩:∃ fA,Y.fA=fA:=⟨_,rfl⟩
 obtain⟨fc,hfc⟩:∃ fc,Y.fc=fc:=⟨_,rfl⟩
 rw[hL] at HW HI
 rw[hmm] at HW HC c4 hs hE1 hone2 ⊢
 rw[hnn,hfA,hfc] at HW HC HI
 rw[hnn,hfA,hfc] at c5
 rw[hnn] at hn
 have hn1:n+1≤maxLen:=by unfold maxLen;omega
 have hn8:(n+1)*72≤140737488355328:=by omega
 subst hE1
 clear h hP hone hb1 hL1 h1 hP1 hnn hmm hL hfA hfc
 go_enter Tryz.func92,Tryz.ntmps92
 go_wp2_with fail
 obtain⟨z1,y1,l1⟩:=HC.out
 have b0:=l1.cell 0
 have b1:=l1.cell 1
 have b2:=l1.cell 2
 have b3:=l1.cell 3
 have b4:=l1.cell 4
 simp at b0 b1 b2 b3 b4
 go_region_law (refine step_append_wide rfl (.tmp 14) (.tmp 16) 122 rfl 0 130 i0 (.agg #[.slice none 0 0,.slice none 0 0,.nilFunc,.int .i64 0,.int .i64 0]) 5 72 Tryz.underlying122 hi hz0 hz1 hz2 rfl (by decide) (.slice fA n fc) n L (by simp[Act.eval]) (HI.out.alloc _) _ 1 1 [.slice pA parts.length pc,.slice none 0 0,v,.int .i64 (m:Int),.int .i64 (dp:Int)] (by simp[Act.eval]) rfl (new_at rfl) hone2 hn1 hn8 (Nat.zero_le _) ?_;intro A2 c2 w2 o2 g2 a2;obtain⟨l2,z2,y2,f2⟩:=HW.out _ A2 c2 w2 g2 o2 a2;have L2:=Lib.hid l2;clear o2 g2 a2 l2)
 all_goals
  clear b0 b1 b2 b3 b4 l1
  go_wp2
  go_end0
  exact⟨rfl,L2.out⟩
theorem Mk.Left.apart {E:Mk.Env} {w w':World} {M:Nat} {Y:Mk.Lay} {s':Ms} (h:Mk.Left E w M Y s' w'):∃ Y',Mk.Rep E w' M Y' s'∧Turn (Mk.foot M Y) w w'∧(∀ k,Mk.foot M Y' k→Mk.foot M Y k∨w.heap.size≤k)∧∀ k,k<w.heap.size→¬Mk.foot M Y k→¬Mk.foot M Y k∧¬Mk.foot M Y' k:=by
 obtain⟨Y',h1,h2,h3⟩:=h
 exact⟨Y',h1,h2,h3,fun k hlt hk=>⟨hk,fun e=>(h3 k e).elim hk fun e2=>by omega⟩⟩
theorem ThAs.form {w:World} {G:Nat→Prop} {M:Nat} {v:Value} {th:Kt} (h:ThAs w G M v th):v=.nilFunc∨∃ fn a b,v=.func fn a b:=by
 cases th with
 |none=>exact .inl h
 |first=>exact .inr ⟨_,_,_,h⟩
 |op o=>obtain⟨b1,b2,h,_⟩:=h;exact .inr ⟨_,_,_,h⟩
 |fn j=>obtain⟨b1,b2,h,_⟩:=h;exact .inr ⟨_,_,_,h⟩
 |memo j A=>obtain⟨b1,b2,h,_⟩:=h;exact .inr ⟨_,_,_,h⟩
 |bind names t=>obtain⟨b1,b2,b3,nA,nc,pA,pc,bx,h,_⟩:=h;exact .inr ⟨_,_,_,h⟩
theorem knest (E:Mk.Env) (w:World) (M:Nat) (Y:Mk.Lay) (s:Ms) (bs:List Fr) (f:Fr) (pA:Option Addr) (pc:Nat) (v:Value) (parts:List Sx) (th:Kt) (h:Mk.Rep E w M Y s) (hf:s.fr=bs++[f]) (hb:bs.length≤5000) (hs:s.sc.length≤100000) (hd:f.dp≤5000)
  (hle:parts.length≤pc∧pc≤maxLen) (hP:TreeL w (fun b _=>¬Mk.foot M Y b) pA parts) (hT:ThAs w (fun k=>¬Mk.foot M Y k) M v th):
  Calls Tryz.prog 160 #[.pointer (some ⟨M,0,none⟩),.slice pA parts.length pc,v] w fun x w'=>Mk.Ans E w M Y (Mk.nest s parts th,0) x w':=by
 obtain⟨FB,P,gf,hFL,hFB,hfA,hgl,hgF,hc,hfz⟩:=h.last hf
 have hlen:s.fr.length=bs.length+1:=by rw[hf];simp
 have c5:w.cell? ⟨M,5,none⟩=some (.slice (some ⟨gf,0,none⟩) (bs.length+1) Y.fc):=by rw[h.own.cell,←hlen,←hfA];rfl
 have hMl:=h.own.lt
 have c4:=hc 4 _ rfl
 have hnst:Mk.nest s parts th={ s with fr:=s.fr++[⟨parts,[],th,s.sc.length,f.dp+1⟩] }:=by unfold Mk.nest;rw[hf,Mk.deep_snoc]
 have HB:Hid (∀ nq,Calls Tryz.prog 92 #[.pointer (some ⟨M,0,none⟩),.agg #[.slice pA parts.length pc,.slice none 0 0,v,.int .i64 0,.int .i64 ((f.dp:Int)+1)]] (w.drewN nq) fun x w'=>x=.returned (.tuple #[])∧Mk.Left E w M Y (Mk.nest s parts th) w'):=fun nq=>by
  have hb0:Below w.heap.size w (w.drewN nq):=below_drewN (Below.refl _ w) nq
  have ht0:Turn (fun _=>False) w (w.drewN nq):=Turn.of_below hb0
  have:=kbegin E (w.drewN nq) M Y s pA pc v parts th (f.dp+1) 0 (h.below hb0) ⟨hle,hP.turn9 ht0 fun k _ hk=>⟨id,hk⟩,hT.turn ht0 fun k _ hk=>⟨id,hk⟩⟩ (by rw[hlen];omega) hs
  rw[hnst]
  rw[show((f.dp+1:Nat):Int)=(f.dp:Int)+1 by omega] at this
  exact this.mono fun x w' ⟨q1,q2⟩=>⟨q1,q2.up hb0⟩
 obtain⟨m,hm⟩:∃ m,bs.length=m:=⟨_,rfl⟩
 obtain⟨d,hdd⟩:∃ d,f.dp=d:=⟨_,rfl⟩
 obtain⟨r,hr⟩:∃ r,Mk.nest s parts th=r:=⟨_,rfl⟩
 rw[hr] at HB ⊢
 rw[hdd] at HB c4 hd
 rw[hm] at c5 c4 hb
 have hm1:((m:Int)+1)-1=(m:Int):=by omega
 have hmi:(0:Int)≤(m:Int):=by omega
 have hml:(m:Int)<(m:Int)+1:=by omega
 have hvf:=hT.form
 have hd1:decide ((262144:Int)<(d:Int)+1)=false:=decide_eq_false (by omega)
 clear h hf hle hP hT hFL hFB hfA hgF hc hfz hlen hnst hm hdd hr hs
 rcases hvf with rfl|⟨fn,fa,fb,rfl⟩
 all_goals
  go_enter Tryz.func160,Tryz.ntmps160
  go_wp2_with fail
  go_quiet (fail)
  go_wp2_with fail
  refine(HB.out _).mono ?_
  rintro e w1 ⟨rfl,l1⟩
  have L1:=Lib.hid l1
  clear HB l1 c4 c5
  go_wp2
  go_ret
  exact⟨rfl,L1.out⟩
theorem kgiveFirst (E:Mk.Env) (w:World) (M:Nat) (Y:Mk.Lay) (s:Ms) (bs:List Fr) (f:Fr) (A:Option Addr) (n c:Nat) (l:List Int) (h:Mk.Rep E w M Y s) (hf:s.fr=bs++[f]) (hb:bs.length≤5000) (hn:f.ids.length≤100000) (hl:NumS w A n l) (h0:0<n):
  Calls Tryz.prog 187 #[.pointer (some ⟨M,0,none⟩),.slice A n c] w fun x w'=>Mk.Ans E w M Y (Mk.give s (l.headD 0) 0) x w':=by
 obtain⟨b,off,z,rfl,hz,_,hblt,hc⟩:=hl.get h0
 obtain⟨_,c0⟩:=hc w (Below.refl _ w)
 have hz0:l.headD 0=z:=by
  cases l with
  |nil=>simp at hz
  |cons y l=>simpa using hz
 rw[hz0]
 have HG:=Lib.hid (kgive E w M Y s bs f z 0 h hf hb hn)
 have hni:(0:Int)<(n:Int):=by omega
 clear h hf hn hl hz hc hz0
 rw[Nat.add_zero] at c0
 go_enter Tryz.func187,Tryz.ntmps187
 go_wp2_with fail
 refine HG.out.mono ?_
 rintro e w1 ⟨rfl,l1⟩
 have L1:=Lib.hid l1
 clear HG l1 c0
 go_wp2
 go_ret
 exact⟨rfl,L1.out⟩
theorem ScAs.form {w:World} {G:Nat→Prop} {v:Value} {x:Scp} (h:ScAs w G v x):∃ o,v=.map o:=by
 rcases h with⟨h,_⟩|⟨b,q,D,h,_⟩
 ·exact⟨_,h⟩
 ·exact⟨_,h⟩
theorem TreeL.one_new {w:World} {G:Nat→Prop} {x:Sx} {A:Option Addr} {c:Nat} (h:TreeL w (fun b _=>G b) A x.L) (hle:x.L.length≤c∧c≤maxLen) (hG:G w.heap.size):TreeL (w.alloc (sbox x A c)) (fun b _=>G b) (some ⟨w.heap.size,0,none⟩) [x]:=
 .cons _ _ x [] A c (sbox_at w x A c) hG hle (h.kept ((Below.refl _ w).alloc (Nat.le_refl _) _)) (.nil _)
theorem kbody (E:Mk.Env) (w:World) (M:Nat) (Y:Mk.Lay) (s:Ms) (x:Sx) (A:Option Addr) (c:Nat) (tv:Value) (b0:Bool) (terms:Sc) (ahead:Nat) (v:Value) (th:Kt) (h:Mk.Rep E w M Y s) (hx:STree w (fun b _=>¬Mk.foot M Y b) x A c) (hs:ScAs w (fun k=>¬Mk.foot M Y k) tv ⟨terms,true,ahead⟩) (hT:ThAs w (fun k=>¬Mk.foot M Y k) M v th)
  (hn:s.fr.length≤5000) (hsc:s.sc.length≤5000):
  Calls Tryz.prog 64 #[.pointer (some ⟨M,0,none⟩),sval x A c,.agg #[tv,.bool b0,.int .i64 (ahead:Int)],v] w fun e w'=>e=.returned (.tuple #[])∧Mk.Left E w M Y (Mk.body s x terms ahead th) w':=by
 obtain⟨i0,hi,hz0,hz1,hz2⟩:=info_parts infoSc
 have c4:w.cell? ⟨M,4,none⟩=some (.slice Y.sA s.sc.length Y.sc):=by rw[h.own.cell];rfl
 have hMl:=h.own.lt
 obtain⟨E1,hE1⟩:∃ E1,E1=(w.alloc (sbox x A c)).alloc (.cells #[tv,.bool true,.int .i64 (ahead:Int)] 127):=⟨_,rfl⟩
 have hb1:Below w.heap.size w E1:=by rw[hE1];exact((Below.refl _ w).alloc (Nat.le_refl _) _).alloc (by simp) _
 have hLx:Lies E1 w.heap.size 27 #[.bool x.list,.int .i64 x.k,.string x.T,.int .i64 x.ta,.int .i64 x.at_,.slice A x.L.length c]:=by
  rw[hE1]
  exact(Below.heap_alloc _ _ _ (by simp)).trans (Lies.new w _ _)
 have hL1:Lies E1 (w.heap.size+1) 127 #[tv,.bool true,.int .i64 (ahead:Int)]:=by
  have:=Lies.new (w.alloc (sbox x A c)) 127 #[tv,.bool true,.int .i64 (ahead:Int)]
  rw[World.size_alloc] at this
  rw[hE1]
  exact this
 have h1:Mk.Rep E E1.drew M Y s:=(h.below hb1).drew
 have ht1:Turn (fun _=>False) w E1.drew:=(Turn.of_below hb1).drew
 have hs1:=hs.turn (G':=fun k=>¬Mk.foot M Y k) ht1 fun k _ hk=>⟨id,hk⟩
 have hx1:=hx.tree.turn9 (G':=fun k=>¬Mk.foot M Y k) ht1 fun k _ hk=>⟨id,hk⟩
 have hT1:=hT.turn (G':=fun k=>¬Mk.foot M Y k) ht1 fun k _ hk=>⟨id,hk⟩
 have HC:Hid (M<E1.heap.size∧E1.cell? ⟨M,4,none⟩=some (.slice Y.sA s.sc.length Y.sc)∧(E1.alloc (.cells #[tv,.bool true,.int .i64 (ahead:Int)] 127)).cell? ⟨M,4,none⟩=some (.slice Y.sA s.sc.length Y.sc)∧Lies E1 (w.heap.size+1) 127 #[tv,.bool true,.int .i64 (ahead:Int)]):=
  ⟨Nat.lt_of_lt_of_le hMl hb1.size,(hb1.cell (p:=⟨M,4,none⟩) hMl).trans c4,((hb1.alloc hb1.size _).cell (p:=⟨M,4,none⟩) hMl).trans c4,hL1⟩
 have HI:Hid (E1.drew.ownsRow 0 127 3 (.slice Y.sA s.sc.length Y.sc) s.sc.length (Y.SL.flatMap scells9)):=h1.srow
 have HW:Hid (∀ o A2 c2 w2,(E1.drew.alloc o).grownBy w2 (Value.slice Y.sA s.sc.length Y.sc).ownBlock→w2.ownsRow 0 127 3 (.slice A2 (s.sc.length+1) c2) (s.sc.length+1) (Y.SL.flatMap scells9++[tv,.bool true,.int .i64 (ahead:Int)])→
   ((Value.slice A2 (s.sc.length+1) c2).ownBlock=(Value.slice Y.sA s.sc.length Y.sc).ownBlock∨(Value.slice A2 (s.sc.length+1) c2).ownBlock=some (E1.drew.alloc o).heap.size)→
   Calls Tryz.prog 92 #[.pointer (some ⟨M,0,none⟩),.agg #[.slice (some ⟨w2.heap.size,0,none⟩) 1 1,.slice none 0 0,v,.int .i64 0,.int .i64 0]] ((w2.setCell ⟨M,4,none⟩ (.slice A2 (s.sc.length+1) c2)).alloc (sbox x A c)) (fun e w'=>e=.returned (.tuple #[])∧Mk.Left E w M Y (Mk.body s x terms ahead th) w')∧
   M<w2.heap.size∧w2.cell? ⟨M,4,none⟩=some (.slice Y.sA s.sc.length Y.sc)∧w2.frozen? ⟨M,4,none⟩=false∧Lies (w2.setCell ⟨M,4,none⟩ (.slice A2 (s.sc.length+1) c2)) w.heap.size 27 #[.bool x.list,.int .i64 x.k,.string x.T,.int .i64 x.ta,.int .i64 x.at_,.slice A x.L.length c]):=fun o A2 c2 w2 q1 q2 q3=>by
  rw[blk_eq] at q1
  rw[blk_eq,blk_eq] at q3
  have h2:=h1.alloc o
  have hl2:=(Turn.of_grown (F:=fun k=>blkOf Y.sA=some k) q1 fun _ e _=>e).lies h2.own h2.M_s
  have tO:Turn (fun _=>False) E1.drew (E1.drew.alloc o):=(Turn.refl _ _).alloc o
  have hleft:=h2.scope (v:=tv) (x:=⟨terms,true,ahead⟩) q1 q2 q3 (hs1.turn tO fun k _ hk=>⟨id,hk⟩)
  obtain⟨Y2,r2,t2,y2,a2⟩:=hleft.apart
  have hd1:Below w.heap.size w E1.drew:=⟨hb1.os,hb1.tape,hb1.output,hb1.size,hb1.block⟩
  have hdd:Below w.heap.size w (E1.drew.alloc o):=hd1.alloc hd1.size o
  have hsz:(w2.setCell ⟨M,4,none⟩ (.slice A2 (s.sc.length+1) c2)).heap.size=w2.heap.size:=by simp
  have r3:=r2.alloc (sbox x A c)
  have t3:Turn (fun _=>False) (w2.setCell ⟨M,4,none⟩ (.slice A2 (s.sc.length+1) c2)) ((w2.setCell ⟨M,4,none⟩ (.slice A2 (s.sc.length+1) c2)).alloc (sbox x A c)):=(Turn.refl _ _).alloc _
  have hlen:(s.sc++[(⟨terms,true,ahead⟩:Scp)]).length=s.sc.length+1:=by simp
  have hxL:=((hx1.turn9 (G':=fun k=>¬Mk.foot M Y k) tO fun k _ hk=>⟨id,hk⟩).turn9 t2 a2).one_new (x:=x) hx.le (fun e=>by have:=r2.lt _ e;omega)
  have hTv:=((hT1.turn (G':=fun k=>¬Mk.foot M Y k) tO fun k _ hk=>⟨id,hk⟩).turn t2 a2).turn (G':=fun k=>¬Mk.foot M Y2 k) t3 fun k _ hk=>⟨id,hk⟩
  rw[hsz] at hxL
  have hc:=kbegin E _ M Y2 _ (some ⟨w2.heap.size,0,none⟩) 1 v [x] th 0 0 r3 ⟨⟨Nat.le_refl _,show(1:Nat)≤maxLen by unfold maxLen;omega⟩,hxL,by rw[hlen] at *;exact hTv⟩ (by show s.fr.length≤_;omega) (by show(s.sc++[_]).length≤_;rw[hlen];omega)
  refine⟨hc.mono fun e w' ⟨e1,e2⟩=>⟨e1,?_⟩,hl2.lt,by rw[hl2.cell];rfl,hl2.free 4,?_⟩
  ·have e3:=((e2.up ((Below.refl _ _).alloc (Nat.le_refl _) _)).after t2 y2).up hdd
   rw[hlen] at e3
   exact e3
  ·refine t2.lies ((Below.heap_alloc _ _ _ hLx.lt).trans (show Lies E1.drew w.heap.size _ _ from hLx)) fun e=>?_
   have:=h.lt _ e
   omega
 obtain⟨m,hmm⟩:∃ m,s.sc.length=m:=⟨_,rfl⟩
 obtain⟨L,hL⟩:∃ L:List Value,Y.SL.flatMap scells9=L:=⟨_,rfl⟩
 obtain⟨sA,hsA⟩:∃ sA,Y.sA=sA:=⟨_,rfl⟩
 obtain⟨sc,hsc2⟩:∃ sc,Y.sc=sc:=⟨_,rfl⟩
 obtain⟨r,hr⟩:∃ r,Mk.body s x terms ahead th=r:=⟨_,rfl⟩
 have hone2:∀ u∈([tv,.bool true,.int .i64 (ahead:Int)]:List Value),u.oneCell'=true:=by
  obtain⟨o,rfl⟩:=hs.form
  intro u hu
  simp at hu
  rcases hu with rfl|rfl|rfl <;> rfl
 have hvf:=hT.form
 obtain⟨mo,rfl⟩:=hs.form
 rw[hL] at HW HI
 rw[hr] at HW ⊢
 rw[hmm,hsA,hsc2] at HW HC HI
 rw[hmm,hsA,hsc2] at c4
 rw[hmm] at hsc
 have hn1:m+1≤maxLen:=by unfold maxLen;omega
 have hn8:(m+1)*24≤140737488355328:=by omega
 obtain⟨xl,xk,xT,xta,xa,xL⟩:=x
 unfold sval
 unfold sbox at hE1 HW
 simp only at hE1 HW ⊢
 obtain⟨xn,hxn⟩:∃ xn,xL.length=xn:=⟨_,rfl⟩
 rw[hxn] at hE1 HW ⊢
 subst hE1
 clear h hx hs hT hb1 hLx hL1 h1 ht1 hs1 hx1 hT1 hmm hL hsA hsc2 hr hn hxn
 rcases hvf with rfl|⟨fn,fa,fb,rfl⟩
 all_goals
  go_enter Tryz.func64,Tryz.ntmps64
  go_wp2_with fail
  obtain⟨z1,y1,y1b,l1⟩:=HC.out
  have b0:=l1.cell 0
  have b1:=l1.cell 1
  have b2:=l1.cell 2
  simp at b0 b1 b2
  go_region_law (refine step_append_wide rfl (.tmp 13) (.tmp 15) 121 rfl 0 127 i0 (.agg #[.map none,.bool false,.int .i64 0]) 3 24 Tryz.underlying121 hi hz0 hz1 hz2 rfl (by decide) (.slice sA m sc) m L (by simp[Act.eval]) (HI.out.alloc _) _ 1 1 [.map mo,.bool true,.int .i64 (ahead:Int)] (by simp[Act.eval]) rfl (new_at rfl) hone2 hn1 hn8 (Nat.zero_le _) ?_;intro A2 c2 w2 o2 g2 a2;obtain⟨l2,z2,y2,f2,x2⟩:=HW.out _ A2 c2 w2 g2 o2 a2;have L2:=Lib.hid l2;have X2:=Lib.hid x2;clear o2 g2 a2 l2 x2)
  all_goals
   clear b0 b1 b2 l1 HW HC HI y1 y1b z1
   have k0:=X2.out.cell 0
   have k1:=X2.out.cell 1
   have k2:=X2.out.cell 2
   have k3:=X2.out.cell 3
   have k4:=X2.out.cell 4
   have k5:=X2.out.cell 5
   simp at k0 k1 k2 k3 k4 k5
   go_wp2_with fail
   refine L2.out.mono ?_
   rintro e w3 ⟨rfl,l3⟩
   have L3:=Lib.hid l3
   clear L2 l3 X2 k0 k1 k2 k3 k4 k5
   go_wp2
   go_end0
   exact⟨rfl,L3.out⟩
def Pl (D:List Dc) (s:ByteArray) (k:Nat):List Int:=((List.range k).filter fun i=>decide (D[i]?.map (·.name)=some s)).map fun(i:Nat)=>(i:Int)
theorem Pl.succ (D:List Dc) (s:ByteArray) (k:Nat):Pl D s (k+1)=if D[k]?.map (·.name)=some s then Pl D s k++[(k:Int)] else Pl D s k:=by
 unfold Pl
 rw[List.range_succ,List.filter_append,List.map_append]
 by_cases h:D[k]?.map (·.name)=some s
 ·rw[if_pos h,List.filter_cons_of_pos (by simpa using h)]
  rfl
 ·rw[if_neg h,List.filter_cons_of_neg (by simpa using h)]
  simp
theorem Pl.len (D:List Dc) (s:ByteArray) (k:Nat):(Pl D s k).length≤k:=by
 unfold Pl
 rw[List.length_map]
 exact Nat.le_trans (List.length_filter_le _ _) (by simp)
def plD (zs:List Int):DataW Unit:=if zs=[] then .nil else .slice (Go.ChangeShapes.lits .i64 zs) []
def TellP (Dm:DataW Unit) (D:List Dc) (k:Nat):Prop:=∀ s:ByteArray,s.size≤maxLen→Dm.atKey (slit s) .nil=plD (Pl D s k)
theorem lits_inj {a b:List Int} (h:(Go.ChangeShapes.lits .i64 a:List (DataW Unit))=Go.ChangeShapes.lits .i64 b):a=b:=by
 induction a generalizing b with
 |nil=>
  cases b with
  |nil=>rfl
  |cons y b=>cases h
 |cons x a ih=>
  cases b with
  |nil=>cases h
  |cons y b=>
   injection h with h1 h2
   rw[ih h2,lit_i64 h1]
theorem owns_is {w:World} {base:Nat} {v:Value} {zs ys:List Int} (h:w.ownsInts base 3 .i64 v zs) (e:plD ys=rowDatum .i64 v zs):zs=ys:=by
 unfold plD at e
 rcases h.datum (H:=Unit) with⟨h1,h2⟩|h1
 ·rw[h1] at e
  split at e
  ·rename_i h3
   rw[h2,h3]
  ·cases e
 ·rw[h1] at e
  split at e
  ·cases e
  ·injection e with e _
   exact(lits_inj e).symm
theorem pair_one {α β:Type} {f:α→Lit×β} {l:List α} (h:(l.map f).Pairwise fun p q=>p.1≠q.1) {x y:α} (hx:x∈l) (hy:y∈l) (e:(f x).1=(f y).1):x=y:=by
 induction l with
 |nil=>cases hx
 |cons z l ih=>
  rw[List.map_cons,List.pairwise_cons] at h
  rcases List.mem_cons.1 hx with e1|hx2
  ·rcases List.mem_cons.1 hy with e2|hy2
   ·rw[e1,e2]
   ·rw[e1] at e
    exact absurd e (h.1 _ (List.mem_map.2 ⟨_,hy2,rfl⟩))
  ·rcases List.mem_cons.1 hy with e2|hy2
   ·rw[e2] at e
    exact absurd e.symm (h.1 _ (List.mem_map.2 ⟨_,hx2,rfl⟩))
   ·exact ih h.2 hx2 hy2
theorem zeroInts (w:World):(zeroValue 44).run Tryz.prog w=.ok (.slice none 0 0) w:=by kernel_rfl
theorem groups_at {w:World} {base b n:Nat} {Dm:DataW Unit} (h:w.ownsGroups Tryz.prog 9 base 3 .i64 b n Dm) (hn:n<maxLen) (s:ByteArray) (hs:s.size≤maxLen):
  ∃ A m c zs,Dm.atKey (slit s) .nil=rowDatum .i64 (.slice A m c) zs∧w.ownsInts base 3 .i64 (.slice A m c) zs∧zs.length≤n∧w.groupBack Tryz.prog 119 9 base 3 .i64 b n Dm (.string s) (slit s) (.slice A m c)∧
   ∀ W,W.heap[b]?=w.heap[b]?→(Instr.lookup 119 (.map (some b)) (.string s) false).run Tryz.prog W=.ok (.slice A m c) W:=by
 have hkey:=WideMaps.keyOf_string_mk (P:=Tryz.prog) Tryz.underlying9 hs
 obtain⟨v,zs,hrun,hat,hoi,hzl,hback⟩:=h.at lawS Tryz.underlying119 (zeroInts w) hn hkey
 obtain⟨A,c,rfl⟩:=own_form hoi.1
 refine⟨A,zs.length,c,zs,hat,hoi,hzl,hback,fun W hW=>?_⟩
 obtain⟨es,clock,hb,F,_,rfl,_⟩:=h
 have hap:=Maps.fit_apart lawS F
 rcases Maps.fit_look false lawS Tryz.underlying119 (zeroInts w) hb F hkey with⟨r1,k1,_⟩|⟨e0,y0,m0,k0,r0,R0,_⟩
 ·rcases Maps.fit_look false lawS Tryz.underlying119 (zeroInts W) (hW.trans hb) F hkey with⟨r2,k2,_⟩|⟨e1,y1,m1,k2,r2,_⟩
  ·rw[hrun] at r1
   have e:(Value.slice A zs.length c)=.slice none 0 0:=by injection r1
   rw[r2,e]
   rfl
  ·exact absurd k2 (k1 e1 m1)
 ·rcases Maps.fit_look false lawS Tryz.underlying119 (zeroInts W) (hW.trans hb) F hkey with⟨r2,k2,_⟩|⟨e1,y1,m1,k2,r2,R1,_⟩
  ·exact absurd k0 (k2 e0 m0)
  ·have hr:∀ e∈es.toList,e.key=.string s→(WideElems.rg Tryz.prog 9 (rowElem (H:=Unit) w base 3 .i64) e).1=slit s:=fun e he hk=>by
    obtain⟨y,hy⟩:=F.reads e he
    rw[WideElems.rg_of hy]
    have:=WideElems.rd_key hy
    rw[hk,hkey] at this
    exact(Option.some.inj this).symm
   have e10:e0=e1:=pair_one hap m0 m1 (by rw[hr e0 m0 k0,hr e1 m1 k2])
   subst e10
   rw[hrun] at r0
   have e:(Value.slice A zs.length c)=e0.val:=(Result.ok.inj r0).1
   rw[r2,e]
   rfl
def PlAt (w:World) (b:Nat) (D:List Dc) (k:Nat):Prop:=b<w.heap.size∧∀ s:ByteArray,s.size≤maxLen→∃ A n c,NumS w A n (Pl D s k)∧∀ W,W.heap[b]?=w.heap[b]?→(Instr.lookup 119 (.map (some b)) (.string s) false).run Tryz.prog W=.ok (.slice A n c) W
theorem PlAt.below {w w':World} {b k:Nat} {D:List Dc} (h:PlAt w b D k) (hb:Below w.heap.size w w'):PlAt w' b D k:=
 ⟨Nat.lt_of_lt_of_le h.1 hb.size,fun s hs=>by
  obtain⟨A,n,c,h1,h2⟩:=h.2 s hs
  exact⟨A,n,c,h1.below hb,fun W hW=>h2 W (hW.trans (hb.block b h.1))⟩⟩
theorem groups_look {v w:World} {base b q k:Nat} {Dm:DataW Unit} {D:List Dc} {F:Nat→Prop} (h:v.ownsGroups Tryz.prog 9 base 3 .i64 b q Dm) (hq:q<maxLen) (hT:TellP Dm D k) (hw:Turn F v w) (hF:∀ i,b≤i→i<v.heap.size→¬F i):PlAt w b D k:=by
 have h':=h
 obtain⟨es,clock,hb,_,_,_,hbb,_⟩:=h'
 have hbl:b<v.heap.size:=(Array.getElem?_eq_some_iff.1 hb).1
 refine⟨Nat.lt_of_lt_of_le hbl hw.size,fun s hs=>?_⟩
 obtain⟨A,m,c,zs,hat,hoi,hzl,_,hrun⟩:=groups_at h hq s hs
 have e:=owns_is hoi ((hT s hs).symm.trans hat)
 have hrow:=hoi.1
 obtain⟨A',c',e2⟩:=own_form hrow
 injection e2 with e3 e4 e5
 subst e4
 refine⟨A,_,c,?_,fun W hW=>hrun W (hW.trans (hw.block b hbl (hF b (Nat.le_refl _) hbl)))⟩
 rw[←e]
 have ho:=hw.own hrow fun g hg=>hF g (by have:=(hrow.lt g hg).1;omega) (hrow.lt g hg).2
 exact own_nums ho rfl
end Go.Proofs.YtcgaeknikfaghaaGreatDoor
