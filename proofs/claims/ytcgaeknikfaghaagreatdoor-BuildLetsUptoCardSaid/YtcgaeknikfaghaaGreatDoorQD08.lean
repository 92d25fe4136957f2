/- What the proofs of this claim use, text by text. -/
import Derived.Test.YtcgaeknikfaghaaGreatDoorQD07
set_option linter.unusedSimpArgs false
set_option linter.unusedVariables false
set_option maxRecDepth 100000
set_option maxHeartbeats 25600000
namespace Go.Proofs.YtcgaeknikfaghaaGreatDoor
def Bd.Memo (D:List Dc) (N:List Nd) (m:List (Nat×List Int×Int)):Prop:=∀ q∈m,Bd.In N q.2.1∧Bd.fn D q.1 q.2.1 N=(N,q.2.2,0)
theorem Bd.Memo.nil (D:List Dc) (N:List Nd):Bd.Memo D N []:=fun _ h=>(List.not_mem_nil h).elim
theorem Bd.fn_st (D:List Dc) (j:Nat) (A:List Int) (N:List Nd) (hI:Tm.Inv N) (hA:Bd.In N A):Bd.St (fun N=>Bd.fn D j A N) N∧Bd.Ok (Bd.fn D j A N):=
 Bd.fn_good (fun y=>Bd.good D j y) A N hI hA
theorem Bd.Memo.ext {D:List Dc} {N M:List Nd} {m:List (Nat×List Int×Int)} (h:Bd.Memo D N m) (hN:Tm.Inv N) (hM:Tm.Inv M) (hp:N<+:M):Bd.Memo D M m:=fun q hq=>by
 obtain⟨h1,h2⟩:=h q hq
 refine⟨h1.ext hp,?_⟩
 have:=(Bd.fn_st D q.1 q.2.1 N hN h1).1.2.2.1
 simp only[h2] at this
 exact this trivial M hM hp
theorem Bd.Memo.add {D:List Dc} {N N':List Nd} {m:List (Nat×List Int×Int)} {j:Nat} {A:List Int} {id:Int} (h:Bd.Memo D N' m) (hN:Tm.Inv N) (hA:Bd.In N A) (hf:Bd.fn D j A N=(N',id,0)):Bd.Memo D N' (m++[(j,A,id)]):=fun q hq=>by
 rcases List.mem_append.1 hq with hq|hq
 ·exact h q hq
 ·obtain rfl:=List.mem_singleton.1 hq
  obtain⟨⟨g1,g2,g3,_⟩,_⟩:=Bd.fn_st D j A N hN hA
  simp only[hf] at g1 g2 g3
  exact⟨hA.ext g2,g3 trivial N' g1 (List.prefix_refl _)⟩
theorem Bd.Memo.hit {D:List Dc} {N:List Nd} {m:List (Nat×List Int×Int)} (h:Bd.Memo D N m) {j:Nat} {A:List Int} {id:Int} (hq:(j,A,id)∈m):Bd.fn D j A N=(N,id,0):=(h _ hq).2
end Go.Proofs.YtcgaeknikfaghaaGreatDoor
namespace Go.Proofs.YtcgaeknikfaghaaGreatDoor
inductive Kt
 |none
 |op (o:Int)
 |fn (j:Nat)
 |bind (names:List ByteArray) (t:Sx)
 |first
 |memo (j:Nat) (A:List Int)
structure Scp where
 terms:Sc
 body:Bool
 ahead:Nat
structure Fr where
 parts:List Sx
 ids:List Int
 th:Kt
 sc:Nat
 dp:Nat
structure Ms where
 N:List Nd
 made:List (Nat×List Int×Int)
 sc:List Scp
 fr:List Fr
inductive Mng
 |nothing
 |term (id:Int)
 |decl (j:Nat)
def Mk.find (D:List Dc) (s:ByteArray):List Scp→Mng
 |[]=> .nothing
 |x::l=>match Bd.bound x.terms s with
  |some i=> .term i
  |none=>if x.body=true then(match Bd.decl D s x.ahead with
   |some j=> .decl j
   |none=> .nothing) else Mk.find D s l
def Mk.says (D:List Dc) (sc:List Scp) (s:ByteArray):Mng:=Mk.find D s sc.reverse
def Mk.hit (m:List (Nat×List Int×Int)) (j:Nat) (A:List Int):Option Int:=(m.find? fun q=>decide (q.1=j∧q.2.1=A)).map (·.2.2)
def Mk.put (m:List (Nat×List Int×Int)) (j:Nat) (A:List Int) (id:Int):List (Nat×List Int×Int):=(j,A,id)::m.filter fun q=> !decide (q.1=j∧q.2.1=A)
def Mk.onto (l:List Fr) (id:Int):List Fr:=match l.getLast? with
 |none=>l
 |some f=>l.dropLast++[{ f with ids:=f.ids++[id] }]
def Mk.give (s:Ms) (id e:Int):Ms×Int:=if e=0 then({ s with fr:=Mk.onto s.fr id },0) else(s,e)
def Mk.bank (s:Ms) (r:Bans):Ms×Int:=Mk.give { s with N:=r.1 } r.2.1 r.2.2
def Mk.deep (l:List Fr):Nat:=(l.getLast?.map (·.dp)).getD 0
def Mk.nest (s:Ms) (parts:List Sx) (th:Kt):Ms:={ s with fr:=s.fr++[⟨parts,[],th,s.sc.length,Mk.deep s.fr+1⟩] }
def Mk.body (s:Ms) (x:Sx) (terms:Sc) (ahead:Nat) (th:Kt):Ms:={ s with sc:=s.sc++[⟨terms,true,ahead⟩],fr:=s.fr++[⟨[x],[],th,s.sc.length+1,0⟩] }
def Mk.call (D:List Dc) (s:Ms) (j:Nat) (A:List Int):Ms×Int:=match D[j]? with
 |none=>(s,1)
 |some d=>if A.length≠d.par.length then(s,1) else match Mk.hit s.made j A with
  |some id=>Mk.give s id 0
  |none=>if(List.zip A d.par).any (fun q=>decide (Bd.sortAt s.N q.1≠q.2.2))=true then(s,90)
   else(Mk.body s d.body (List.zip (d.par.map (·.1)) A) j (.memo j A),0)
noncomputable def Mk.name (D:List Dc) (s:Ms) (t:ByteArray):Ms×Int:=
 if t.data.toList=[116,114,117,101]∨t.data.toList=[102,97,108,115,101] then Mk.bank s (Tm.bool s.N (decide (t.data.toList=[116,114,117,101])))
 else if Bd.reserved t.data.toList=true then(s,101)
 else match Mk.says D s.sc t with
  | .nothing=>(s,100)
  | .term id=>Mk.give s id 0
  | .decl j=>match D[j]? with
   |none=>(s,100)
   |some d=>if d.mac=true then Mk.call D s j [] else Mk.bank s (Tm.const s.N d.name d.sort)
def Mk.let_ (s:Ms) (r:List Sx):Ms×Int:=
 match r with
 |[b,t]=>if b.list=false then(s,1) else match Bd.binds b.L with
  |none=>(s,1)
  |some m=>if(m.any fun q=>Bd.reserved q.1.data.toList)=true then(s,101) else if Bd.twice (m.map (·.1))=true then(s,4)
   else(Mk.nest s (m.map (·.2)) (.bind (m.map (·.1)) t),0)
 |_=>(s,1)
def Mk.list (D:List Dc) (s:Ms) (l:List Sx):Ms×Int:=
 match l with
 |[]=>(s,1)
 |h::r=>
  if h.list=true∨h.k≠3 then(s,101)
  else if h.T.data.toList=[108,101,116] then Mk.let_ s r
  else if Bd.op h.T.data.toList r.length≠0 then(Mk.nest s r (.op (Bd.op h.T.data.toList r.length)),0)
  else if Bd.reserved h.T.data.toList=true then(s,101)
  else match Mk.says D s.sc h.T with
   | .decl j=>if(D[j]?.map (·.mac)).getD false=true then(Mk.nest s r (.fn j),0) else(s,100)
   |_=>(s,100)
noncomputable def Mk.atom (D:List Dc) (s:Ms) (kind:Int) (t:ByteArray):Ms×Int:=
 if kind=4 then(if isT t.data.toList=true then Mk.bank s (Tm.num s.N (T.dv t.data.toList)) else(s,101))
 else if kind=6 then Mk.bank s (Tm.str s.N (Lt.runsMost (Lt.pts t.data.toList)).2)
 else if kind=3 then Mk.name D s t else(s,101)
noncomputable def Mk.part (D:List Dc) (s:Ms) (x:Sx):Ms×Int:=if x.list=true then Mk.list D s x.L else Mk.atom D s x.k x.T
noncomputable def Mk.ends (D:List Dc) (s:Ms) (th:Kt) (ids:List Int):Ms×Int:=
 match th with
 | .none=>(s,0)
 | .op o=>Mk.bank s (Tm.app s.N o ids)
 | .fn j=>Mk.call D s j ids
 | .bind names t=>(Mk.nest { s with sc:=s.sc++[⟨List.zip names ids,false,0⟩] } [t] .first,0)
 | .first=>Mk.give s (ids.headD 0) 0
 | .memo j A=>Mk.give { s with made:=Mk.put s.made j A (ids.headD 0) } (ids.headD 0) 0
noncomputable def Mk.step (D:List Dc) (s:Ms):Ms×Int:=match s.fr.getLast? with
 |none=>(s,0)
 |some f=>match f.parts[f.ids.length]? with
  |some x=>Mk.part D { s with sc:=s.sc.take f.sc } x
  |none=>Mk.ends D { s with sc:=s.sc.take f.sc,fr:=s.fr.dropLast } f.th f.ids
theorem Mk.onto_snoc (bs:List Fr) (f:Fr) (id:Int):Mk.onto (bs++[f]) id=bs++[{ f with ids:=f.ids++[id] }]:=by
 unfold Mk.onto
 rw[List.getLast?_concat,List.dropLast_concat]
theorem Mk.deep_snoc (bs:List Fr) (f:Fr):Mk.deep (bs++[f])=f.dp:=by unfold Mk.deep;rw[List.getLast?_concat];rfl
theorem Mk.step_part {D:List Dc} {s:Ms} {bs:List Fr} {f:Fr} {x:Sx} (hf:s.fr=bs++[f]) (hx:f.parts[f.ids.length]?=some x):Mk.step D s=Mk.part D { s with sc:=s.sc.take f.sc } x:=by
 unfold Mk.step
 rw[hf,List.getLast?_concat]
 simp only[hx]
theorem Mk.step_ends {D:List Dc} {s:Ms} {bs:List Fr} {f:Fr} (hf:s.fr=bs++[f]) (hx:f.parts.length≤f.ids.length):Mk.step D s=Mk.ends D { s with sc:=s.sc.take f.sc,fr:=bs } f.th f.ids:=by
 unfold Mk.step
 rw[hf,List.getLast?_concat,List.dropLast_concat]
 simp only[List.getElem?_eq_none hx]
theorem Bd.bound_app (l m:Sc) (s:ByteArray):Bd.bound (l++m) s=match Bd.bound m s with
  |some i=>some i
  |none=>Bd.bound l s:=by
 induction l with
 |nil=>rw[List.nil_append];cases Bd.bound m s <;> rfl
 |cons x l ih=>
  rw[List.cons_append,Bd.bound,ih,Bd.bound]
  cases Bd.bound m s <;> rfl
def Mk.See:List Scp→Nat→Sc→Prop
 |[],_,_=>False
 |x::l,k,sc=>if x.body=true then k=x.ahead∧sc=x.terms else ∃ sc',Mk.See l k sc'∧sc=sc'++x.terms
theorem Mk.find_see (D:List Dc) (s:ByteArray):∀ (l:List Scp) (k:Nat) (sc:Sc),Mk.See l k sc→Mk.find D s l=match Bd.bound sc s with
  |some i=> .term i
  |none=>match Bd.decl D s k with
   |some j=> .decl j
   |none=> .nothing
 |[],_,_,h=>h.elim
 |x::l,k,sc,h=>by
  rw[Mk.find]
  rw[Mk.See] at h
  split at h
  ·rename_i hb
   obtain⟨rfl,rfl⟩:=h
   rw[if_pos hb]
  ·rename_i hb
   obtain⟨sc',h1,rfl⟩:=h
   rw[if_neg hb,Mk.find_see D s l k sc' h1,Bd.bound_app]
   cases Bd.bound x.terms s <;> rfl
theorem Mk.hit_mem {m:List (Nat×List Int×Int)} {j:Nat} {A:List Int} {id:Int} (h:Mk.hit m j A=some id):(j,A,id)∈m:=by
 unfold Mk.hit at h
 obtain⟨q,h1,h2⟩:=Option.map_eq_some_iff.1 h
 have h3:=List.find?_some h1
 simp only[decide_eq_true_eq] at h3
 have h4:=List.mem_of_find?_eq_some h1
 obtain⟨a,b,c⟩:=q
 simp only at h2 h3
 rw[←h2,←h3.1,←h3.2]
 exact h4
end Go.Proofs.YtcgaeknikfaghaaGreatDoor
namespace Go.Proofs.YtcgaeknikfaghaaGreatDoor
def Mk.Live (s:Ms):Prop:=s.fr.head?.map (·.ids)=some []
structure Mk.Fits (s:Ms):Prop where
 fr:s.fr.length≤4800
 sc:s.sc.length≤4800
 dp:∀ f∈s.fr,f.dp≤4800
 le:∀ f,s.fr.getLast?=some f→f.sc≤s.sc.length
inductive Mk.Run (D:List Dc):Nat→Ms→Ms→Prop
 |zero (s:Ms):Mk.Run D 0 s s
 |succ {n:Nat} {s s1 s2:Ms}:Mk.Live s→Mk.Fits s→Mk.step D s=(s1,0)→Mk.Run D n s1 s2→Mk.Run D (n+1) s s2
theorem Mk.Run.trans {D:List Dc} {n m:Nat} {s s1 s2:Ms} (h:Mk.Run D n s s1) (k:Mk.Run D m s1 s2):Mk.Run D (n+m) s s2:=by
 induction h with
 |zero s=>rw[Nat.zero_add];exact k
 |@succ n s s1 s3 h1 h2 h3 _ ih=>rw[Nat.add_right_comm];exact .succ h1 h2 h3 (ih k)
def Mk.Ends (D:List Dc) (s:Ms) (bs:List Fr) (f:Fr) (T:List Scp) (N':List Nd) (ids:List Int) (e:Int):Prop:=
 (e=0→∃ n s',Mk.Run D n s s'∧s'.N=N'∧s'.fr=bs++[{ f with ids:=f.ids++ids }]∧s'.sc.take f.sc=T∧f.sc≤s'.sc.length∧s'.sc.length≤4800∧Bd.Memo D N' s'.made)∧
 (e≠0→∃ n s' s'',Mk.Run D n s s'∧Mk.Live s'∧Mk.Fits s'∧Mk.step D s'=(s'',e)∧s''.N=N')
theorem Mk.Ends.run {D:List Dc} {s s1:Ms} {bs:List Fr} {f:Fr} {T:List Scp} {N':List Nd} {ids:List Int} {e:Int} {n:Nat} (h:Mk.Run D n s s1) (k:Mk.Ends D s1 bs f T N' ids e):Mk.Ends D s bs f T N' ids e:=by
 refine⟨fun he=>?_,fun he=>?_⟩
 ·obtain⟨m,s',h1,h2⟩:=k.1 he
  exact⟨_,s',h.trans h1,h2⟩
 ·obtain⟨m,s',s'',h1,h2⟩:=k.2 he
  exact⟨_,s',s'',h.trans h1,h2⟩
theorem Mk.Ends.fail {D:List Dc} {s s'':Ms} {bs:List Fr} {f:Fr} {T:List Scp} {N':List Nd} {ids:List Int} {e:Int} (hl:Mk.Live s) (hf:Mk.Fits s) (h:Mk.step D s=(s'',e)) (he:e≠0) (hN:s''.N=N'):Mk.Ends D s bs f T N' ids e:=
 ⟨fun h0=>absurd h0 he,fun _=>⟨0,s,s'',.zero s,hl,hf,h,hN⟩⟩
theorem Mk.Ends.give {D:List Dc} {s s1:Ms} {bs:List Fr} {f:Fr} {T:List Scp} {id e:Int} (hl:Mk.Live s) (hf:Mk.Fits s) (h:Mk.step D s=Mk.give s1 id e) (hfr:s1.fr=bs++[f]) (hT:s1.sc.take f.sc=T) (hle:f.sc≤s1.sc.length) (hb:s1.sc.length≤4800) (hm:Bd.Memo D s1.N s1.made):
  Mk.Ends D s bs f T s1.N [id] e:=by
 by_cases he:e=0
 ·subst he
  refine⟨fun _=>⟨1,_,.succ hl hf (h.trans (if_pos rfl)) (.zero _),rfl,?_,hT,hle,hb,hm⟩,fun he=>absurd rfl he⟩
  show Mk.onto s1.fr id=_
  rw[hfr,Mk.onto_snoc]
 ·exact .fail hl hf (h.trans (if_neg he)) he rfl
theorem Mk.Ends.bank {D:List Dc} {s s1:Ms} {bs:List Fr} {f:Fr} {T:List Scp} {o:Bop Int} (hl:Mk.Live s) (hf:Mk.Fits s) (h:Mk.step D s=Mk.bank s1 (o s1.N)) (hfr:s1.fr=bs++[f]) (hT:s1.sc.take f.sc=T) (hle:f.sc≤s1.sc.length) (hb:s1.sc.length≤4800) (hm:Bd.Memo D s1.N s1.made) (hI:Tm.Inv s1.N) (ho:Bd.St o s1.N):
  Mk.Ends D s bs f T (o s1.N).1 [(o s1.N).2.1] (o s1.N).2.2:=
 Mk.Ends.give (s1:={ s1 with N:=(o s1.N).1 }) hl hf h hfr hT hle hb (hm.ext hI ho.1 ho.2.1)
def Mk.room (D:List Dc):Nat→Nat
 |0=>0
 |k+1=>Mk.room D k+(D[k]?.map (·.body.size)).getD 0+1
theorem Mk.room_lt {D:List Dc} {j:Nat} {d:Dc} (hd:D[j]?=some d):∀ {k:Nat},j<k→Mk.room D j+d.body.size+1≤Mk.room D k
 |0,h=>absurd h (Nat.not_lt_zero _)
 |k+1,h=>by
  rw[Mk.room]
  rcases Nat.lt_or_ge j k with e|e
  ·have:=Mk.room_lt hd e
   omega
  ·obtain rfl:j=k:=by omega
   rw[hd]
   exact Nat.le_refl _
structure Mk.Pre (D:List Dc) (s:Ms) (bs:List Fr) (f:Fr) (k:Nat) (sc:Sc):Prop where
 fr:s.fr=bs++[f]
 le:f.sc≤s.sc.length
 big:s.sc.length≤4800
 see:Mk.See (s.sc.take f.sc).reverse k sc
 memo:Bd.Memo D s.N s.made
 inv:Tm.Inv s.N
 inn:Bd.In s.N (sc.map (·.2))
 live:(bs++[f]).head?.map (·.ids)=some []
 sc1:f.sc≤bs.length+1
 dp1:f.dp≤bs.length
 dps:∀ g∈bs,g.dp≤4800
 few:bs.length≤4700
theorem Mk.Pre.fits {D:List Dc} {s:Ms} {bs:List Fr} {f:Fr} {k:Nat} {sc:Sc} (h:Mk.Pre D s bs f k sc):Mk.Fits s:=by
 have:=h.few
 have h2:=h.dp1
 refine⟨by rw[h.fr,List.length_append];simp only[List.length_cons,List.length_nil];omega,h.big,fun g hg=>?_,fun g hg=>?_⟩
 ·rw[h.fr] at hg
  rcases List.mem_append.1 hg with hg|hg
  ·exact h.dps g hg
  ·rw[List.mem_singleton.1 hg];omega
 ·rw[h.fr,List.getLast?_concat] at hg
  rw[←Option.some.inj hg]
  exact h.le
theorem Mk.Pre.isLive {D:List Dc} {s:Ms} {bs:List Fr} {f:Fr} {k:Nat} {sc:Sc} (h:Mk.Pre D s bs f k sc):Mk.Live s:=by unfold Mk.Live;rw[h.fr];exact h.live
theorem Mk.head_app {bs:List Fr} (h:bs≠[]) (a b:List Fr):(bs++a).head?=(bs++b).head?:=by
 cases bs with
 |nil=>exact absurd rfl h
 |cons x l=>rfl
def Mk.Sim (D:List Dc) (k:Nat) (x:Sx):Prop:=∀ (s:Ms) (bs:List Fr) (f:Fr) (sc:Sc),Mk.Pre D s bs f k sc→f.parts[f.ids.length]?=some x→bs.length+x.size+Mk.room D k≤4700→
 Mk.Ends D s bs f (s.sc.take f.sc) (Bd.tm D k sc s.N x).1 [(Bd.tm D k sc s.N x).2.1] (Bd.tm D k sc s.N x).2.2
theorem Mk.each (D:List Dc) (k:Nat) (sc:Sc) (T:List Scp) (bs:List Fr) (hbs:bs≠[]):∀ (l:List Sx) (s:Ms) (f:Fr),Mk.Pre D s bs f k sc→s.sc.take f.sc=T→f.parts.drop f.ids.length=l→
  (∀ y∈l,Mk.Sim D k y∧bs.length+y.size+Mk.room D k≤4700)→Mk.Ends D s bs f T (Bd.each (Bd.tm D k sc) s.N l).1 (Bd.each (Bd.tm D k sc) s.N l).2.1 (Bd.each (Bd.tm D k sc) s.N l).2.2
 |[],s,f,hp,hT,_,_=>⟨fun _=>⟨0,s,.zero s,rfl,by rw[hp.fr];show bs++[f]=bs++[{ f with ids:=f.ids++[] }];rw[List.append_nil],hT,hp.le,hp.big,hp.memo⟩,fun e=>absurd rfl e⟩
 |x::l,s,f,hp,hT,hd,hy=>by
  have hx:f.parts[f.ids.length]?=some x:=by
   have:=congrArg (·[0]?) hd
   simpa using this
  have h1:=(hy x List.mem_cons_self).1 s bs f sc hp hx (hy x List.mem_cons_self).2
  rw[hT] at h1
  obtain⟨⟨g1,g2,_,_⟩,g5⟩:=Bd.good D k x sc s.N hp.inv hp.inn
  simp only at g1 g2
  rw[Bd.each]
  cases ho:Bd.tm D k sc s.N x with
  |mk N' r=>
   obtain⟨id,e⟩:=r
   rw[ho] at h1 g1 g2
   simp only at h1 g1 g2 ⊢
   by_cases he:e=0
   ·subst he
    rw[if_pos rfl]
    obtain⟨n,s',q1,rfl,q3,q4,q5,q6,q7⟩:=h1.1 rfl
    have hp':Mk.Pre D s' bs { f with ids:=f.ids++[id] } k sc:=⟨q3,q5,q6,by show Mk.See (s'.sc.take f.sc).reverse k sc;rw[q4,←hT];exact hp.see,q7,g1,hp.inn.ext g2,by rw[Mk.head_app hbs _ [f]];exact hp.live,hp.sc1,hp.dp1,hp.dps,hp.few⟩
    have h2:=Mk.each D k sc T bs hbs l s' _ hp' q4 (by
     show f.parts.drop (f.ids++[id]).length=l
     rw[List.length_append,List.length_singleton,←List.drop_drop,hd]
     rfl) fun y hm=>hy y (List.mem_cons_of_mem _ hm)
    cases ho2:Bd.each (Bd.tm D k sc) s'.N l with
    |mk N'' r=>
     obtain⟨ids,e⟩:=r
     rw[ho2] at h2
     simp only at h2 ⊢
     by_cases he:e=0
     ·subst he
      rw[if_pos rfl]
      refine⟨fun _=>?_,fun e=>absurd rfl e⟩
      obtain⟨m,s2,p1,p2,p3,p4⟩:=h2.1 rfl
      exact⟨_,s2,q1.trans p1,p2,by rw[p3];simp,p4⟩
     ·rw[if_neg he]
      refine⟨fun e0=>absurd e0 he,fun _=>?_⟩
      obtain⟨m,s2,s3,p1,p2⟩:=h2.2 he
      exact⟨_,s2,s3,q1.trans p1,p2⟩
   ·rw[if_neg he]
    exact⟨fun e0=>absurd e0 he,fun _=>h1.2 he⟩
theorem Mk.nested {D:List Dc} {k:Nat} {sc:Sc} {s0 s1:Ms} {bs:List Fr} {f:Fr} {T T':List Scp} {r:List Sx} {th:Kt} {N'':List Nd} {id'' e'':Int} (hl:Mk.Live s0) (hf:Mk.Fits s0) (hstep:Mk.step D s0=(Mk.nest s1 r th,0)) (hfr:s1.fr=bs++[f]) (hsc:s1.sc=T')
  (hT3:T'.length≤bs.length+2) (hsee:Mk.See T'.reverse k sc) (hm:Bd.Memo D s1.N s1.made) (hI:Tm.Inv s1.N) (hin:Bd.In s1.N (sc.map (·.2))) (hlive:(bs++[f]).head?.map (·.ids)=some []) (hdp:f.dp≤bs.length) (hdps:∀ g∈bs,g.dp≤4800) (hfew:bs.length+1≤4700)
  (hy:∀ y∈r,Mk.Sim D k y∧bs.length+1+y.size+Mk.room D k≤4700)
  (hK:∀ s3 s4,s4.N=(Bd.each (Bd.tm D k sc) s1.N r).1→s4.fr=bs++[f]→s4.sc=T'→Bd.Memo D s4.N s4.made→(Bd.each (Bd.tm D k sc) s1.N r).2.2=0→Mk.Live s3→Mk.Fits s3→Mk.step D s3=Mk.ends D s4 th (Bd.each (Bd.tm D k sc) s1.N r).2.1→Mk.Ends D s3 bs f T N'' [id''] e'')
  (hE:(Bd.each (Bd.tm D k sc) s1.N r).2.2≠0→N''=(Bd.each (Bd.tm D k sc) s1.N r).1∧e''=(Bd.each (Bd.tm D k sc) s1.N r).2.2):Mk.Ends D s0 bs f T N'' [id''] e'':=by
 have hrun:Mk.Run D 1 s0 (Mk.nest s1 r th):=.succ hl hf hstep (.zero _)
 have hdeep:Mk.deep s1.fr=f.dp:=by rw[hfr,Mk.deep_snoc]
 have hlen:(bs++[f]).length=bs.length+1:=by simp
 have hp:Mk.Pre D (Mk.nest s1 r th) (bs++[f]) ⟨r,[],th,T'.length,f.dp+1⟩ k sc:=
  ⟨by show s1.fr++[_]=_;rw[hfr,hsc,←hfr,hdeep],by show T'.length≤s1.sc.length;rw[hsc];exact Nat.le_refl _,by show s1.sc.length≤_;rw[hsc];omega,by show Mk.See (s1.sc.take T'.length).reverse k sc;rw[hsc,List.take_length];exact hsee,hm,hI,hin,
   by rw[Mk.head_app (by simp) _ []];rw[List.append_nil];exact hlive,by rw[hlen];exact hT3,by rw[hlen];simp only;omega,fun g hg=>by
    rcases List.mem_append.1 hg with hg|hg
    ·exact hdps g hg
    ·rw[List.mem_singleton.1 hg];omega,by rw[hlen];exact hfew⟩
 have h1:=Mk.each D k sc T' (bs++[f]) (by simp) r _ _ hp (by show s1.sc.take T'.length=T';rw[hsc,List.take_length]) rfl fun y h=>⟨(hy y h).1,by rw[hlen];exact(hy y h).2⟩
 have hN:(Mk.nest s1 r th).N=s1.N:=rfl
 rw[hN] at h1
 obtain⟨_,g2,g3⟩:=Bd.each_st (f:=Bd.tm D k sc) r s1.N hI fun y _ M hM hpre=>Bd.good D k y sc M hM (hin.ext hpre)
 cases ho:Bd.each (Bd.tm D k sc) s1.N r with
 |mk N' q=>
  obtain⟨ids,e⟩:=q
  rw[ho] at h1 hK hE g2
  simp only at h1 hK hE g2
  by_cases he:e=0
  ·subst he
   obtain⟨n,s3,p1,p2,p3,p4,p5,p6,p7⟩:=h1.1 rfl
   simp only[List.nil_append] at p3 p4 p5
   refine Mk.Ends.run (hrun.trans p1) (hK s3 { s3 with sc:=s3.sc.take T'.length,fr:=bs++[f] } p2 rfl p4 (by rw[p2];exact p7) rfl ?_ ?_ ?_)
   ·unfold Mk.Live
    rw[p3,Mk.head_app (by simp) _ [],List.append_nil]
    exact hlive
   ·refine⟨by rw[p3];simp;omega,p6,fun g hg=>?_,fun g hg=>?_⟩
    ·rw[p3] at hg
     rcases List.mem_append.1 hg with hg|hg
     ·rcases List.mem_append.1 hg with hg|hg
      ·exact hdps g hg
      ·rw[List.mem_singleton.1 hg];omega
     ·rw[List.mem_singleton.1 hg];simp only;omega
    ·rw[p3,List.getLast?_concat] at hg
     rw[←Option.some.inj hg]
     exact p5
   ·exact Mk.step_ends p3 (by have:=(g2 rfl).2;simp only;omega)
  ·obtain⟨e1,e2⟩:=hE he
   subst e1
   subst e2
   exact Mk.Ends.run hrun ⟨fun h0=>absurd h0 he,fun _=>h1.2 he⟩
theorem Mk.called {D:List Dc} {k j:Nat} {s0 s1:Ms} {bs:List Fr} {f:Fr} {T:List Scp} {A:List Int} (hl:Mk.Live s0) (hf:Mk.Fits s0) (hstep:Mk.step D s0=Mk.call D s1 j A) (hfr:s1.fr=bs++[f]) (hsc:s1.sc=T)
  (hT:T.length=f.sc) (hT3:f.sc≤bs.length+1) (hm:Bd.Memo D s1.N s1.made) (hI:Tm.Inv s1.N) (hA:Bd.In s1.N A) (hlive:(bs++[f]).head?.map (·.ids)=some []) (hdp:f.dp≤bs.length) (hdps:∀ g∈bs,g.dp≤4800) (hjk:j<k) (hroom:bs.length+1+Mk.room D k≤4700)
  (hy:∀ y,Mk.Sim D j y):Mk.Ends D s0 bs f T (Bd.fn D j A s1.N).1 [(Bd.fn D j A s1.N).2.1] (Bd.fn D j A s1.N).2.2:=by
 have hTk:s1.sc.take f.sc=T:=by rw[hsc,←hT,List.take_length]
 cases hd:D[j]? with
 |none=>
  have e:Bd.fn D j A s1.N=(s1.N,0,1):=by unfold Bd.fn Bd.callF;rw[hd]
  rw[e]
  exact .fail hl hf (hstep.trans (by unfold Mk.call;rw[hd])) (show(1:Int)≠0 by decide) rfl
 |some d=>
  by_cases hA1:A.length≠d.par.length
  ·have e:Bd.fn D j A s1.N=(s1.N,0,1):=by unfold Bd.fn Bd.callF;rw[hd];simp only;rw[if_pos hA1]
   rw[e]
   exact .fail hl hf (hstep.trans (by unfold Mk.call;rw[hd];simp only;rw[if_pos hA1])) (show(1:Int)≠0 by decide) rfl
  ·cases hh:Mk.hit s1.made j A with
   |some id=>
    rw[hm.hit (Mk.hit_mem hh)]
    exact Mk.Ends.give hl hf (hstep.trans (by unfold Mk.call;rw[hd];simp only;rw[if_neg hA1,hh])) hfr hTk (by rw[hsc,hT];exact Nat.le_refl _) (by rw[hsc,hT];omega) hm
   |none=>
    by_cases h2:(List.zip A d.par).any (fun q=>decide (Bd.sortAt s1.N q.1≠q.2.2))=true
    ·have e:Bd.fn D j A s1.N=(s1.N,0,90):=by unfold Bd.fn Bd.callF;rw[hd];simp only;rw[if_neg hA1,if_pos h2]
     rw[e]
     exact .fail hl hf (hstep.trans (by unfold Mk.call;rw[hd];simp only;rw[if_neg hA1,hh];simp only;rw[if_pos h2])) (show(90:Int)≠0 by decide) rfl
    ·have e:Bd.fn D j A s1.N=Bd.tm D j (List.zip (d.par.map (·.1)) A) s1.N d.body:=by unfold Bd.fn Bd.callF;rw[hd];simp only;rw[if_neg hA1,if_neg h2]
     have hstep2:Mk.step D s0=(Mk.body s1 d.body (List.zip (d.par.map (·.1)) A) j (.memo j A),0):=hstep.trans (by unfold Mk.call;rw[hd];simp only;rw[if_neg hA1,hh];simp only;rw[if_neg h2])
     have hrun:Mk.Run D 1 s0 _:=.succ hl hf hstep2 (.zero _)
     have hlen:(bs++[f]).length=bs.length+1:=by simp
     have hrm:=Mk.room_lt hd hjk
     have hbz:0<d.body.size:=Sx.size_pos _
     have hp:Mk.Pre D (Mk.body s1 d.body (List.zip (d.par.map (·.1)) A) j (.memo j A)) (bs++[f]) ⟨[d.body],[],.memo j A,f.sc+1,0⟩ j (List.zip (d.par.map (·.1)) A):=
      ⟨by show s1.fr++[_]=_;rw[hfr,hsc,hT],by show f.sc+1≤(s1.sc++[_]).length;rw[hsc,List.length_append,hT];exact Nat.le_refl _,by show(s1.sc++[_]).length≤_;rw[hsc,List.length_append,hT];simp only[List.length_singleton];omega,
       by
        show Mk.See ((s1.sc++[_]).take (f.sc+1)).reverse j _
        rw[hsc,List.take_of_length_le (by rw[List.length_append,hT];exact Nat.le_refl _),List.reverse_append]
        exact⟨rfl,rfl⟩,hm,hI,Bd.zip_in hA,by rw[Mk.head_app (by simp) _ [],List.append_nil];exact hlive,by rw[hlen];simp only;omega,Nat.zero_le _,fun g hg=>by
        rcases List.mem_append.1 hg with hg|hg
        ·exact hdps g hg
        ·rw[List.mem_singleton.1 hg];omega,by rw[hlen];omega⟩
     have h1:=hy d.body _ _ _ _ hp rfl (by rw[hlen];omega)
     have hN:(Mk.body s1 d.body (List.zip (d.par.map (·.1)) A) j (.memo j A)).N=s1.N:=rfl
     have hsc2:(Mk.body s1 d.body (List.zip (d.par.map (·.1)) A) j (.memo j A)).sc.take (f.sc+1)=T++[⟨List.zip (d.par.map (·.1)) A,true,j⟩]:=by
      show(s1.sc++[_]).take (f.sc+1)=_
      rw[hsc,List.take_of_length_le (by rw[List.length_append,hT];exact Nat.le_refl _)]
     rw[hN,hsc2,←e] at h1
     cases ho:Bd.fn D j A s1.N with
     |mk N' q=>
      obtain⟨id,er⟩:=q
      rw[ho] at h1
      simp only at h1 ⊢
      by_cases he:er=0
      ·subst he
       obtain⟨n,s3,p1,p2,p3,p4,p5,p6,p7⟩:=h1.1 rfl
       simp only[List.nil_append] at p3 p4 p5
       refine Mk.Ends.run (hrun.trans p1) ?_
       have hs3:=Mk.step_ends (D:=D) p3 (by simp)
       simp only at hs3
       rw[p4] at hs3
       have hN3:N'=({ s3 with sc:=T++[⟨List.zip (d.par.map (·.1)) A,true,j⟩],fr:=bs++[f],made:=Mk.put s3.made j A id }:Ms).N:=p2.symm
       rw[hN3]
       refine Mk.Ends.give (s1:={ s3 with sc:=T++[⟨List.zip (d.par.map (·.1)) A,true,j⟩],fr:=bs++[f],made:=Mk.put s3.made j A id }) ?_ ?_ hs3 rfl ?_ ?_ ?_ ?_
       ·unfold Mk.Live
        rw[p3,Mk.head_app (by simp) _ [],List.append_nil]
        exact hlive
       ·refine⟨by rw[p3];simp;omega,p6,fun g hg=>?_,fun g hg=>?_⟩
        ·rw[p3] at hg
         rcases List.mem_append.1 hg with hg|hg
         ·rcases List.mem_append.1 hg with hg|hg
          ·exact hdps g hg
          ·rw[List.mem_singleton.1 hg];omega
         ·rw[List.mem_singleton.1 hg];simp only;omega
        ·rw[p3,List.getLast?_concat] at hg
         rw[←Option.some.inj hg]
         exact p5
       ·show(T++[_]).take f.sc=T
        rw[←hT,List.take_left]
       ·show f.sc≤(T++[_]).length
        rw[List.length_append,hT]
        omega
       ·show(T++[_]).length≤4800
        rw[List.length_append,hT]
        simp only[List.length_singleton]
        omega
       ·show Bd.Memo D s3.N (Mk.put s3.made j A id)
        intro q hq
        unfold Mk.put at hq
        rcases List.mem_cons.1 hq with rfl|hq
        ·rw[p2]
         exact(Bd.Memo.add (m:=[]) (Bd.Memo.nil D N') hI hA ho) _ (by simp)
        ·rw[p2]
         exact p7 q (List.mem_filter.1 hq).1
      ·exact Mk.Ends.run hrun ⟨fun h0=>absurd h0 he,fun _=>h1.2 he⟩
end Go.Proofs.YtcgaeknikfaghaaGreatDoor
namespace Go.Proofs.YtcgaeknikfaghaaGreatDoor
theorem Bd.each_one (f:List Nd→Sx→Bans) (N:List Nd) (t:Sx):Bd.each f N [t]=match f N t with
  |(N',id,e)=>if e=0 then(N',[id],0) else(N',[],e):=by
 rw[Bd.each]
 obtain⟨N',id,e⟩:=f N t
 rfl
theorem Mk.sim (D:List Dc):∀ k x,Mk.Sim D k x:=by
 refine Bd.induct fun k x hk hx=>?_
 intro s bs f sc hp hx0 hroom
 have hl:=hp.isLive
 have hf:=hp.fits
 have hstep:=Mk.step_part (D:=D) hp.fr hx0
 obtain⟨T,hT⟩:∃ T,s.sc.take f.sc=T:=⟨_,rfl⟩
 have hTl:T.length=f.sc:=by rw[←hT,List.length_take];exact Nat.min_eq_left hp.le
 obtain⟨s1,hs1⟩:∃ s1:Ms,({ s with sc:=s.sc.take f.sc }:Ms)=s1:=⟨_,rfl⟩
 rw[hs1] at hstep
 have hN:s1.N=s.N:=by rw[←hs1]
 have hfr:s1.fr=bs++[f]:=by rw[←hs1];exact hp.fr
 have hsc:s1.sc=T:=by rw[←hs1];exact hT
 have hm:Bd.Memo D s1.N s1.made:=by rw[←hs1];exact hp.memo
 have hsee:Mk.See T.reverse k sc:=by rw[←hT];exact hp.see
 have hI:Tm.Inv s1.N:=by rw[hN];exact hp.inv
 have hin:Bd.In s1.N (sc.map (·.2)):=by rw[hN];exact hp.inn
 have hsc1:=hp.sc1
 have hp_live:=hp.live
 have hp_dp:=hp.dp1
 have hp_dps:=hp.dps
 have hbig:=hp.big
 have hTk:s1.sc.take f.sc=T:=by rw[hsc,←hTl,List.take_length]
 have hTT:T.take f.sc=T:=by rw[←hTl,List.take_length]
 have hle:f.sc≤s1.sc.length:=by rw[hsc,hTl];exact Nat.le_refl _
 have hb3:s1.sc.length≤4800:=by rw[hsc,hTl];have:=hp.le;omega
 have hrx:bs.length+1≤4700:=by have:=x.size_pos;omega
 rw[hT,←hN,Bd.tm_eq]
 have hfail:∀ e:Int,e≠0→Mk.step D s=(s1,e)→Mk.Ends D s bs f T s1.N [0] e:=fun e he h=> .fail hl hf h he rfl
 have hbank:∀ o:Bop Int,Mk.step D s=Mk.bank s1 (o s1.N)→Bd.St o s1.N→Mk.Ends D s bs f T (o s1.N).1 [(o s1.N).2.1] (o s1.N).2.2:=fun o h ho=>
  .bank hl hf h hfr hTk hle hb3 hm hI ho
 have hsays:∀ t,Mk.says D s1.sc t=match Bd.bound sc t with
   |some i=> .term i
   |none=>match Bd.decl D t k with
    |some j=> .decl j
    |none=> .nothing:=fun t=>by rw[hsc];exact Mk.find_see D t T.reverse k sc hsee
 clear hp hs1 hT
 unfold Bd.step
 unfold Mk.part at hstep
 by_cases hxl:x.list=true
 ·rw[if_pos hxl]
  rw[if_pos hxl] at hstep
  unfold Bd.listF
  unfold Mk.list at hstep
  cases hL:x.L with
  |nil=>rw[hL] at hstep;exact hfail 1 (by decide) hstep
  |cons h r=>
   rw[hL] at hstep
   simp only at hstep ⊢
   have hys:∀ y∈r,Mk.Sim D k y∧bs.length+1+y.size+Mk.room D k≤4700:=fun y hy=>by
    have:=Sx.size_lt (x:=x) (y:=y) (by rw[hL];exact List.mem_cons_of_mem _ hy)
    exact⟨hx y this,by omega⟩
   by_cases h1:h.list=true∨h.k≠3
   ·rw[if_pos h1] at hstep ⊢
    exact hfail 101 (by decide) hstep
   rw[if_neg h1] at hstep ⊢
   by_cases h2:h.T.data.toList=[108,101,116]
   ·rw[if_pos h2] at hstep ⊢
    by_cases hform:∃ b t,r=[b,t]∧b.list=true
    ·obtain⟨b,t,rfl,hb⟩:=hform
     unfold Mk.let_ at hstep
     simp only at hstep
     rw[if_neg (by rw[hb];decide)] at hstep
     cases hbn:Bd.binds b.L with
     |none=>
      rw[hbn] at hstep
      have e:Bd.letF (Bd.tm D k) sc s1.N [b,t]=(s1.N,0,1):=by unfold Bd.letF;simp only[hb,hbn];rfl
      rw[e]
      exact hfail 1 (by decide) hstep
     |some m=>
      rw[hbn] at hstep
      simp only at hstep
      by_cases h3:(m.any fun q=>Bd.reserved q.1.data.toList)=true
      ·have e:Bd.letF (Bd.tm D k) sc s1.N [b,t]=(s1.N,0,101):=by unfold Bd.letF;simp only[hb,hbn,h3];rfl
       rw[if_pos h3] at hstep
       rw[e]
       exact hfail 101 (by decide) hstep
      rw[if_neg h3] at hstep
      by_cases h4:Bd.twice (m.map (·.1))=true
      ·have e:Bd.letF (Bd.tm D k) sc s1.N [b,t]=(s1.N,0,4):=by unfold Bd.letF;simp only[hb,hbn,Bool.eq_false_iff.2 h3,h4];rfl
       rw[if_pos h4] at hstep
       rw[e]
       exact hfail 4 (by decide) hstep
      rw[if_neg h4] at hstep
      rw[Bd.letF_eq (Bd.tm D k) sc s1.N b t hb hbn (Bool.eq_false_iff.2 h3) (Bool.eq_false_iff.2 h4)]
      obtain⟨z1,z2⟩:=Bd.let_sub hL hbn
      obtain⟨eg1,eg2,_⟩:=Bd.each_st (f:=Bd.tm D k sc) (m.map (·.2)) s1.N hI fun y _ M hM hpre=>Bd.good D k y sc M hM (hin.ext hpre)
      cases ho:Bd.each (Bd.tm D k sc) s1.N (m.map (·.2)) with
      |mk N' q=>
       obtain⟨ids,e⟩:=q
       have hand:Bd.andThen (fun N=>Bd.each (Bd.tm D k sc) N (m.map (·.2))) (fun ids N=>Bd.tm D k (sc++List.zip (m.map (·.1)) ids) N t) 0 s1.N=if e=0 then Bd.tm D k (sc++List.zip (m.map (·.1)) ids) N' t else(N',0,e):=by
        unfold Bd.andThen
        simp only[ho]
       rw[hand]
       refine Mk.nested (k:=k) (sc:=sc) (T':=T) hl hf hstep hfr hsc (by omega) hsee hm hI hin hp_live hp_dp hp_dps hrx (fun y hy=>⟨hx y (z2 y hy),by have:=z2 y hy;omega⟩) (fun s3 s4 h4N h4fr h4sc h4m h4e h3l h3f h3s=>?_) (fun he=>?_)
       ·rw[ho] at h4N h4e h3s
        simp only at h4N h4e h3s
        subst h4e
        rw[if_pos rfl]
        have i1:=eg1.1
        have i2:=eg1.2.1
        have i3:=(eg2 (by rw[ho])).1
        simp only[ho] at i1 i2 i3
        have hin2:Bd.In N' ((sc++List.zip (m.map (·.1)) ids).map (·.2)):=by rw[List.map_append];exact(hin.ext i2).append (Bd.zip_in i3)
        have hone:=Bd.each_one (Bd.tm D k (sc++List.zip (m.map (·.1)) ids)) N' t
        obtain⟨⟨j1,j2,_,_⟩,_⟩:=Bd.good D k t (sc++List.zip (m.map (·.1)) ids) N' i1 hin2
        cases ho2:Bd.tm D k (sc++List.zip (m.map (·.1)) ids) N' t with
        |mk N'' q=>
         obtain⟨id,e⟩:=q
         rw[ho2] at hone
         simp only at hone ⊢
         refine Mk.nested (k:=k) (sc:=sc++List.zip (m.map (·.1)) ids) (T':=T++[⟨List.zip (m.map (·.1)) ids,false,0⟩]) h3l h3f h3s h4fr (by show s4.sc++_=_;rw[h4sc]) (by rw[List.length_append];simp only[List.length_singleton];omega)
          (by rw[List.reverse_append];exact⟨sc,hsee,rfl⟩) h4m (by rw[show({ s4 with sc:=s4.sc++[⟨List.zip (m.map (·.1)) ids,false,0⟩] }:Ms).N=N' from h4N];exact i1) (by rw[show({ s4 with sc:=s4.sc++[⟨List.zip (m.map (·.1)) ids,false,0⟩] }:Ms).N=N' from h4N];exact hin2) hp_live hp_dp hp_dps hrx
          (fun y hy=>by rw[List.mem_singleton.1 hy];exact⟨hx t z1,by omega⟩) (fun s5 s6 h6N h6fr h6sc h6m h6e h5l h5f h5s=>?_) (fun he=>?_)
         ·have hN4:({ s4 with sc:=s4.sc++[⟨List.zip (m.map (·.1)) ids,false,0⟩] }:Ms).N=N':=h4N
          rw[hN4,hone] at h6N h6e h5s
          by_cases he:e=0
          ·subst he
           rw[if_pos rfl] at h6N h5s
           simp only at h6N h5s
           rw[←h6N]
           refine Mk.Ends.give h5l h5f (h5s.trans rfl) h6fr (by rw[h6sc,←hTl,List.take_left]) (by rw[h6sc,List.length_append];omega) (by rw[h6sc,List.length_append];simp only[List.length_singleton];omega) h6m
          ·rw[if_neg he] at h6e
           exact absurd h6e he
         ·have hN4:({ s4 with sc:=s4.sc++[⟨List.zip (m.map (·.1)) ids,false,0⟩] }:Ms).N=N':=h4N
          rw[hN4,hone] at he ⊢
          by_cases he2:e=0
          ·subst he2
           simp at he
          ·rw[if_neg he2]
           exact⟨rfl,rfl⟩
       ·rw[ho] at he ⊢
        simp only at he ⊢
        rw[if_neg he]
        exact⟨rfl,rfl⟩
    ·have e1:Bd.letF (Bd.tm D k) sc s1.N r=(s1.N,0,1):=by
      unfold Bd.letF
      split
      ·rename_i b t
       rw[if_pos (Bool.eq_false_iff.2 fun hb=>hform ⟨b,t,rfl,hb⟩)]
      ·rfl
     have e2:Mk.let_ s1 r=(s1,1):=by
      unfold Mk.let_
      split
      ·rename_i b t
       rw[if_pos (Bool.eq_false_iff.2 fun hb=>hform ⟨b,t,rfl,hb⟩)]
      ·rfl
     rw[e1]
     exact hfail 1 (by decide) (hstep.trans e2)
   rw[if_neg h2] at hstep ⊢
   by_cases h3:Bd.op h.T.data.toList r.length≠0
   ·rw[if_pos h3] at hstep ⊢
    obtain⟨eg1,eg2,_⟩:=Bd.each_st (f:=Bd.tm D k sc) r s1.N hI fun y _ M hM hpre=>Bd.good D k y sc M hM (hin.ext hpre)
    cases ho:Bd.each (Bd.tm D k sc) s1.N r with
    |mk N' q=>
     obtain⟨ids,e⟩:=q
     simp only
     refine Mk.nested (k:=k) (sc:=sc) (T':=T) hl hf hstep hfr hsc (by omega) hsee hm hI hin hp_live hp_dp hp_dps hrx hys (fun s3 s4 h4N h4fr h4sc h4m h4e h3l h3f h3s=>?_) (fun he=>?_)
     ·rw[ho] at h4N h4e h3s
      simp only at h4N h4e h3s
      subst h4e
      rw[if_pos rfl,←h4N]
      have i1:=eg1.1
      simp only[ho] at i1
      exact Mk.Ends.bank (o:=fun N=>Tm.app N (Bd.op h.T.data.toList r.length) ids) h3l h3f h3s h4fr (by rw[h4sc];exact hTT) (by rw[h4sc];omega) (by rw[h4sc];omega) h4m (by rw[h4N];exact i1) (Bd.St.app _ ids (by rw[h4N];exact i1))
     ·rw[ho] at he ⊢
      simp only at he ⊢
      rw[if_neg he]
      exact⟨rfl,rfl⟩
   rw[if_neg h3] at hstep ⊢
   by_cases h4:Bd.reserved h.T.data.toList=true
   ·rw[if_pos h4] at hstep ⊢
    exact hfail 101 (by decide) hstep
   rw[if_neg h4] at hstep ⊢
   rw[hsays] at hstep
   cases hbd:Bd.bound sc h.T with
   |some i=>
    rw[hbd] at hstep
    exact hfail 100 (by decide) hstep
   |none=>
    rw[hbd] at hstep
    rw[if_neg (by decide)]
    cases hd:Bd.decl D h.T k with
    |none=>
     rw[hd] at hstep
     exact hfail 100 (by decide) hstep
    |some j=>
     rw[hd] at hstep
     simp only at hstep ⊢
     by_cases h6:(D[j]?.map (·.mac)).getD false=true
     ·rw[if_pos h6] at hstep ⊢
      obtain⟨eg1,eg2,_⟩:=Bd.each_st (f:=Bd.tm D k sc) r s1.N hI fun y _ M hM hpre=>Bd.good D k y sc M hM (hin.ext hpre)
      cases ho:Bd.each (Bd.tm D k sc) s1.N r with
      |mk N' q=>
       obtain⟨ids,e⟩:=q
       simp only
       refine Mk.nested (k:=k) (sc:=sc) (T':=T) hl hf hstep hfr hsc (by omega) hsee hm hI hin hp_live hp_dp hp_dps hrx hys (fun s3 s4 h4N h4fr h4sc h4m h4e h3l h3f h3s=>?_) (fun he=>?_)
       ·rw[ho] at h4N h4e h3s
        simp only at h4N h4e h3s
        subst h4e
        rw[if_pos rfl,←h4N]
        have i1:=eg1.1
        have i3:=(eg2 (by rw[ho])).1
        simp only[ho] at i1 i3
        exact Mk.called h3l h3f h3s h4fr h4sc hTl hsc1 h4m (by rw[h4N];exact i1) (by rw[h4N];exact i3) hp_live hp_dp hp_dps (Bd.decl_lt hd).1 (by have:=x.size_pos;omega) fun y=>hk j y (Bd.decl_lt hd).1
       ·rw[ho] at he ⊢
        simp only at he ⊢
        rw[if_neg he]
        exact⟨rfl,rfl⟩
     ·rw[if_neg h6] at hstep ⊢
      exact hfail 100 (by decide) hstep
 ·rw[if_neg hxl]
  rw[if_neg hxl] at hstep
  unfold Bd.atomF
  unfold Mk.atom at hstep
  by_cases h1:x.k=4
  ·rw[if_pos h1] at hstep ⊢
   by_cases h2:isT x.T.data.toList=true
   ·rw[if_pos h2] at hstep ⊢
    exact hbank (fun N=>Tm.num N (_root_.Go.Proofs.YtcgaeknikfaghaaGreatDoor.T.dv x.T.data.toList)) hstep (Bd.St.num _ hI)
   ·rw[if_neg h2] at hstep ⊢
    exact hfail 101 (by decide) hstep
  rw[if_neg h1] at hstep ⊢
  by_cases h2:x.k=6
  ·rw[if_pos h2] at hstep ⊢
   exact hbank (fun N=>Tm.str N (Lt.runsMost (Lt.pts x.T.data.toList)).2) hstep (Bd.St.str _ hI)
  rw[if_neg h2] at hstep ⊢
  by_cases h3:x.k=3
  ·rw[if_pos h3] at hstep ⊢
   unfold Bd.nameF
   unfold Mk.name at hstep
   by_cases h4:x.T.data.toList=[116,114,117,101]∨x.T.data.toList=[102,97,108,115,101]
   ·rw[if_pos h4] at hstep ⊢
    exact hbank (fun N=>Tm.bool N (decide (x.T.data.toList=[116,114,117,101]))) hstep (Bd.St.bool _ hI)
   rw[if_neg h4] at hstep ⊢
   by_cases h5:Bd.reserved x.T.data.toList=true
   ·rw[if_pos h5] at hstep ⊢
    exact hfail 101 (by decide) hstep
   rw[if_neg h5] at hstep ⊢
   rw[hsays] at hstep
   cases hb:Bd.bound sc x.T with
   |some id=>
    rw[hb] at hstep
    exact Mk.Ends.give hl hf hstep hfr hTk hle hb3 hm
   |none=>
    rw[hb] at hstep
    simp only at hstep ⊢
    cases hd:Bd.decl D x.T k with
    |none=>
     rw[hd] at hstep
     exact hfail 100 (by decide) hstep
    |some j=>
     rw[hd] at hstep
     simp only at hstep ⊢
     cases hj:D[j]? with
     |none=>
      rw[hj] at hstep
      exact hfail 100 (by decide) hstep
     |some d=>
      rw[hj] at hstep
      simp only at hstep ⊢
      by_cases h6:d.mac=true
      ·rw[if_pos h6] at hstep ⊢
       have hcall:=Mk.called (A:=[]) hl hf hstep hfr hsc hTl hsc1 hm hI (fun p hp=>(List.not_mem_nil hp).elim) hp_live hp_dp hp_dps (Bd.decl_lt hd).1 (by have:=x.size_pos;omega) fun y=>hk j y (Bd.decl_lt hd).1
       by_cases h7:d.par=[]
       ·rw[if_pos h7];exact hcall
       ·rw[if_neg h7]
        have e:Bd.fn D j [] s1.N=(s1.N,0,1):=by
         unfold Bd.fn Bd.callF
         rw[hj]
         simp only
         rw[if_pos (by intro e;exact h7 (List.eq_nil_of_length_eq_zero e.symm))]
        rw[e] at hcall
        exact hcall
      ·rw[if_neg h6] at hstep ⊢
       exact hbank (fun N=>Tm.const N d.name d.sort) hstep (Bd.St.const _ _ hI)
  ·rw[if_neg h3] at hstep ⊢
   exact hfail 101 (by decide) hstep
def Mk.start (D:List Dc) (N:List Nd) (terms:Sc) (x:Sx):Ms:=⟨N,[],[⟨terms,true,D.length⟩],[⟨[x],[],.none,1,0⟩]⟩
theorem Mk.runs (D:List Dc) (N:List Nd) (sc:Sc) (x:Sx) (hI:Tm.Inv N) (hin:Bd.In N (sc.map (·.2))) (hroom:x.size+Mk.room D D.length≤4700):
  Mk.Ends D (Mk.start D N sc x) [] ⟨[x],[],.none,1,0⟩ [⟨sc,true,D.length⟩] (Bd.tm D D.length sc N x).1 [(Bd.tm D D.length sc N x).2.1] (Bd.tm D D.length sc N x).2.2:=
 Mk.sim D D.length x (Mk.start D N sc x) [] ⟨[x],[],.none,1,0⟩ sc ⟨rfl,Nat.le_refl _,by show 1≤4800;decide,⟨rfl,rfl⟩,Bd.Memo.nil _ _,hI,hin,rfl,Nat.le_refl _,Nat.le_refl _,fun _ h=>(List.not_mem_nil h).elim,Nat.zero_le _⟩ rfl (by simp only[List.length_nil];omega)
end Go.Proofs.YtcgaeknikfaghaaGreatDoor
namespace Go.Proofs.YtcgaeknikfaghaaGreatDoor
def Bd.arity (D:List Dc) (j:Nat):Option Nat:=match D[j]? with
 |some d=>if d.mac=true then some d.par.length else none
 |none=>none
def Bd.kept (i:Nat) (m:List (Nat×List Int×Int)):Nat:=(m.filter fun q=>decide (i<q.2.1.length)).length
end Go.Proofs.YtcgaeknikfaghaaGreatDoor
namespace Go.Proofs.YtcgaeknikfaghaaGreatDoor
theorem Bd.arity_get {D:List Dc} {j n:Nat} (h:Bd.arity D j=some n):∃ d,D[j]?=some d∧d.mac=true∧d.par.length=n:=by
 unfold Bd.arity at h
 cases hd:D[j]? with
 |none=>rw[hd] at h;cases h
 |some d=>
  rw[hd] at h
  simp only at h
  split at h
  ·rename_i e;cases h;exact⟨d,rfl,e,rfl⟩
  ·cases h
end Go.Proofs.YtcgaeknikfaghaaGreatDoor
namespace Go.Proofs.YtcgaeknikfaghaaGreatDoor
def Bd.cnt (D:List Dc) (q:Nat→Bool):Nat→Nat
 |0=>0
 |k+1=>Bd.cnt D q k+(match Bd.arity D k with
  |some p=>if q p=true then 1 else 0
  |none=>0)
end Go.Proofs.YtcgaeknikfaghaaGreatDoor
namespace Go.Proofs.YtcgaeknikfaghaaGreatDoor
open Go.RowKit
def Bd.caps (D:List Dc) (i:Nat):Nat→Nat
 |0=>0
 |k+1=>Bd.caps D i k+(match Bd.arity D k with
  |some p=>if p≤i then 20000^p else 0
  |none=>0)
end Go.Proofs.YtcgaeknikfaghaaGreatDoor
