/- What the proofs of this claim use, text by text. -/
import Derived.Test.YtcgaeknikfaghaaGreatDoorQD27
set_option linter.unusedSimpArgs false
set_option linter.unusedVariables false
set_option maxRecDepth 100000
set_option maxHeartbeats 25600000
namespace Go.Proofs.YtcgaeknikfaghaaGreatDoor
theorem Tm.add_le {l:List Nd} (h:l.length≤20000) (x:Nd):(Tm.add l x).1.length≤20000:=by
 rcases Tm.add_ways l x with⟨_,e⟩|⟨_,_,e⟩|⟨_,h2,e⟩
 ·rw[e];exact h
 ·rw[e];exact h
 ·rw[e];simp;omega
theorem Tm.app_le {l:List Nd} (h:l.length≤20000) (op:Int) (a:List Int):(Tm.app l op a).1.length≤20000:=by
 rcases Tm.app_ways l op a with⟨e,he,h1⟩|⟨w,more,own,h1,h2,h3,h4,h5,h6⟩
 ·rw[h1];exact h
 ·rw[h6];exact Tm.add_le h _
theorem Tm.const_le {l:List Nd} (h:l.length≤20000) (s:ByteArray) (sort:Int):(Tm.const l s sort).1.length≤20000:=by
 unfold Tm.const;split
 ·exact h
 ·exact Tm.add_le h _
theorem Tm.num_le {l:List Nd} (h:l.length≤20000) (z:Int):(Tm.num l z).1.length≤20000:=by
 unfold Tm.num;split
 ·exact h
 ·exact Tm.add_le h _
theorem Tm.str_le {l:List Nd} (h:l.length≤20000) (t:List (Int×Int)):(Tm.str l t).1.length≤20000:=by
 unfold Tm.str;split
 ·exact Tm.add_le h _
 ·exact h
theorem Tm.bool_le {l:List Nd} (h:l.length≤20000) (b:Bool):(Tm.bool l b).1.length≤20000:=Tm.add_le h _
structure Mk.DOk (D:List Dc):Prop where
 par:∀ (j:Nat) d,D[j]?=some d→d.par.length≤3∧∀ p∈d.par,p.1.size≤1048576
 body:∀ (j:Nat) d,D[j]?=some d→Sx.Fine d.body
 name:∀ d∈D,d.name.size≤1048576
 cnt:Bd.cnt D (fun _=>true) D.length≤8
def Kt.Ok (D:List Dc) (n parts:Nat):Kt→Prop
 | .none=>parts=1
 | .op _=>True
 | .fn j=>j<D.length∧(D[j]?.map (·.mac)).getD false=true
 | .bind names t=>names.length=parts∧(∀ s∈names,s.size≤1048576)∧Sx.Fine t
 | .first=>parts=1
 | .memo j A=>parts=1∧j<D.length∧Bd.arity D j=some A.length∧∀ a∈A,0≤a∧a<(n:Int)
theorem Kt.Ok.ext {D:List Dc} {n m parts:Nat} {th:Kt} (h:Kt.Ok D n parts th) (hn:n≤m):Kt.Ok D m parts th:=by
 cases th with
 |memo j A=>
  obtain⟨h1,h2,h3,h4⟩:=h
  exact⟨h1,h2,h3,fun a ha=>by have:=h4 a ha;omega⟩
 |none=>exact h
 |op o=>exact h
 |fn j=>exact h
 |bind names t=>exact h
 |first=>exact h
structure Fr.Ok (D:List Dc) (n:Nat) (f:Fr):Prop where
 le:f.ids.length≤f.parts.length
 ids:∀ z∈f.ids,0≤z∧z<(n:Int)
 len:f.parts.length≤1000
 fine:∀ y∈f.parts,Sx.Fine y
 th:Kt.Ok D n f.parts.length f.th
theorem Fr.Ok.ext {D:List Dc} {n m:Nat} {f:Fr} (h:Fr.Ok D n f) (hn:n≤m):Fr.Ok D m f:=⟨h.le,fun z hz=>by have:=h.ids z hz;omega,h.len,h.fine,h.th.ext hn⟩
def Fr.Wt (D:List Dc) (n:Nat) (f:Fr):Prop:=Fr.Ok D n f∧f.ids.length<f.parts.length
structure Mk.Base (D:List Dc) (s:Ms):Prop where
 inv:Tm.Inv s.N
 len:s.N.length≤20000
 sc:∀ x∈s.sc,x.ahead≤D.length∧∀ q∈x.terms,0≤q.2∧q.2<(s.N.length:Int)
 made:Bd.Apart D D.length s.made
 ids:∀ q∈s.made,0≤q.2.2∧q.2.2<(s.N.length:Int)
def Mk.Bot (l:List Fr):Prop:=∃ g r,l=g::r∧g.parts.length=1∧∀ f∈r,f.th≠.none
structure Mk.Wt (D:List Dc) (s:Ms):Prop extends Mk.Base D s where
 fr:∀ f∈s.fr,Fr.Wt D s.N.length f
 bot:Mk.Bot s.fr
structure Mk.Ok (D:List Dc) (s:Ms):Prop extends Mk.Base D s where
 fr:∃ bs f,s.fr=bs++[f]∧(∀ g∈bs,Fr.Wt D s.N.length g)∧Fr.Ok D s.N.length f
 bot:Mk.Bot s.fr
theorem Mk.Bot.snoc {l:List Fr} {f:Fr} (h:Mk.Bot l) (hf:f.th≠.none):Mk.Bot (l++[f]):=by
 obtain⟨g,r,rfl,h1,h2⟩:=h
 refine⟨g,r++[f],rfl,h1,fun x hx=>?_⟩
 rcases List.mem_append.1 hx with hx|hx
 ·exact h2 x hx
 ·rw[List.mem_singleton.1 hx];exact hf
theorem Mk.Bot.last {bs:List Fr} {f f':Fr} (h:Mk.Bot (bs++[f])) (hp:f'.parts=f.parts) (ht:f'.th=f.th):Mk.Bot (bs++[f']):=by
 obtain⟨g,r,e,h1,h2⟩:=h
 cases bs with
 |nil=>
  injection e with e1 e2
  exact⟨f',[],rfl,by rw[hp,e1];exact h1,fun x hx=>(List.not_mem_nil hx).elim⟩
 |cons b bs=>
  injection e with e1 e2
  refine⟨b,bs++[f'],rfl,by rw[e1];exact h1,fun x hx=>?_⟩
  rcases List.mem_append.1 hx with hx|hx
  ·exact h2 x (by rw[←e2];exact List.mem_append_left _ hx)
  ·rw[List.mem_singleton.1 hx,ht]
   exact h2 f (by rw[←e2];simp)
theorem Mk.Base.bank {D:List Dc} {s:Ms} (h:Mk.Base D s) {N':List Nd} (hI:Tm.Inv N') (hp:s.N<+:N') (hl:N'.length≤20000):Mk.Base D { s with N:=N' }:=by
 have hle:=hp.length_le
 exact⟨hI,hl,fun x hx=>⟨(h.sc x hx).1,fun q hq=>by have:=(h.sc x hx).2 q hq;simp only;omega⟩,h.made,fun q hq=>by have:=h.ids q hq;simp only;omega⟩
theorem Mk.Wt.give {D:List Dc} {s:Ms} (h:Mk.Wt D s) {id:Int} (hid:0≤id∧id<(s.N.length:Int)):Mk.Ok D (Mk.give s id 0).1:=by
 obtain⟨bs,f,hf⟩:∃ bs f,s.fr=bs++[f]:=by
  obtain⟨g,r,e,_⟩:=h.bot
  exact⟨_,_,(List.dropLast_concat_getLast (l:=s.fr) (by rw[e];simp)).symm⟩
 have hg:(Mk.give s id 0).1={ s with fr:=bs++[{ f with ids:=f.ids++[id] }] }:=by
  unfold Mk.give
  rw[if_pos rfl,hf,Mk.onto_snoc]
 rw[hg]
 obtain⟨h1,h2⟩:=h.fr f (by rw[hf];simp)
 refine⟨⟨h.inv,h.len,h.sc,h.made,h.ids⟩,⟨bs,_,rfl,fun g hg=>h.fr g (by rw[hf];exact List.mem_append_left _ hg),⟨by simp only[List.length_append,List.length_singleton];omega,fun z hz=>?_,h1.len,h1.fine,h1.th⟩⟩,?_⟩
 ·rcases List.mem_append.1 hz with hz|hz
  ·exact h1.ids z hz
  ·rw[List.mem_singleton.1 hz];exact hid
 ·have:=h.bot
  rw[hf] at this
  exact this.last rfl rfl
theorem Mk.Wt.ext {D:List Dc} {s:Ms} (h:Mk.Wt D s) {N':List Nd} (hI:Tm.Inv N') (hp:s.N<+:N') (hl:N'.length≤20000):Mk.Wt D { s with N:=N' }:=
 ⟨h.toBase.bank hI hp hl,fun f hf=>⟨(h.fr f hf).1.ext hp.length_le,(h.fr f hf).2⟩,h.bot⟩
theorem Mk.Wt.bank {D:List Dc} {s s':Ms} (h:Mk.Wt D s) {o:Bop Int} (ho:Bd.St o s.N) (hk:Bd.Ok (o s.N)) (hl:(o s.N).1.length≤20000) (hs:Mk.bank s (o s.N)=(s',0)):Mk.Ok D s':=by
 unfold Mk.bank at hs
 obtain⟨h1,h2,_,_⟩:=ho
 by_cases he:(o s.N).2.2=0
 ·rw[he] at hs
  have:=(h.ext h1 h2 hl).give (id:=(o s.N).2.1) (hk.1 he)
  rw[hs] at this
  exact this
 ·unfold Mk.give at hs
  rw[if_neg he] at hs
  exact absurd (congrArg Prod.snd hs) he
theorem Mk.Wt.nest {D:List Dc} {s:Ms} (h:Mk.Wt D s) {parts:List Sx} {th:Kt} (hl:parts.length≤1000) (hf:∀ y∈parts,Sx.Fine y) (hth:Kt.Ok D s.N.length parts.length th) (hn:th≠.none):Mk.Ok D (Mk.nest s parts th):=
 ⟨⟨h.inv,h.len,h.sc,h.made,h.ids⟩,⟨s.fr,_,rfl,h.fr,⟨Nat.zero_le _,fun z hz=>(List.not_mem_nil hz).elim,hl,hf,hth⟩⟩,h.bot.snoc hn⟩
theorem Mk.Wt.body {D:List Dc} {s:Ms} (h:Mk.Wt D s) {x:Sx} {terms:Sc} {ahead:Nat} {th:Kt} (hx:Sx.Fine x) (ha:ahead≤D.length) (ht:∀ q∈terms,0≤q.2∧q.2<(s.N.length:Int)) (hth:Kt.Ok D s.N.length 1 th) (hn:th≠.none):Mk.Ok D (Mk.body s x terms ahead th):=
 ⟨⟨h.inv,h.len,fun y hy=>by
  rcases List.mem_append.1 hy with hy|hy
  ·exact h.sc y hy
  ·rw[List.mem_singleton.1 hy];exact⟨ha,ht⟩,h.made,h.ids⟩,⟨s.fr,_,rfl,h.fr,⟨Nat.zero_le _,fun z hz=>(List.not_mem_nil hz).elim,by simp,fun y hy=>by rw[List.mem_singleton.1 hy];exact hx,hth⟩⟩,h.bot.snoc hn⟩
theorem Mk.Wt.call {D:List Dc} (hD:Mk.DOk D) {s s':Ms} (h:Mk.Wt D s) {j:Nat} {A:List Int} (hj:j<D.length) (hm:(D[j]?.map (·.mac)).getD false=true) (hA:∀ a∈A,0≤a∧a<(s.N.length:Int)) (hs:Mk.call D s j A=(s',0)):Mk.Ok D s':=by
 obtain⟨d,hd⟩:∃ d,D[j]?=some d:=⟨_,List.getElem?_eq_getElem hj⟩
 unfold Mk.call at hs
 rw[hd] at hs hm
 simp only[Option.map_some,Option.getD_some] at hs hm
 split at hs
 ·cases hs
 ·rename_i hlen
  cases hh:Mk.hit s.made j A with
  |some id=>
   rw[hh] at hs
   simp only at hs
   have:=h.give (h.ids _ (Mk.hit_mem hh))
   simp only at this
   rw[hs] at this
   exact this
  |none=>
   rw[hh] at hs
   simp only at hs
   split at hs
   ·cases hs
   ·have e:=(congrArg Prod.fst hs).symm
    simp only at e
    rw[e]
    refine h.body (hD.body j d hd) (Nat.le_of_lt hj) (fun q hq=>hA _ (List.of_mem_zip hq).2) ⟨rfl,hj,?_,hA⟩ (by intro e;cases e)
    unfold Bd.arity
    rw[hd]
    simp only[hm,if_true]
    rw[Classical.not_not] at hlen
    rw[hlen]
theorem Mk.find_term {D:List Dc} {t:ByteArray} {id:Int}:∀ {l:List Scp},Mk.find D t l=.term id→∃ x∈l,∃ q∈x.terms,q.2=id
 |[],h=>by cases h
 |x::l,h=>by
  rw[Mk.find] at h
  split at h
  ·rename_i i hb
   cases h
   obtain⟨q,hq,e⟩:=List.mem_map.1 (Bd.bound_in hb)
   exact⟨x,List.mem_cons_self,q,hq,e⟩
  ·split at h
   ·split at h <;> cases h
   ·obtain⟨y,hy,h2⟩:=Mk.find_term h
    exact⟨y,List.mem_cons_of_mem _ hy,h2⟩
theorem Mk.says_term {D:List Dc} {t:ByteArray} {id:Int} {l:List Scp} (h:Mk.says D l t=.term id):∃ x∈l,∃ q∈x.terms,q.2=id:=by
 obtain⟨x,hx,h2⟩:=Mk.find_term h
 exact⟨x,List.mem_reverse.1 hx,h2⟩
theorem Bd.binds_len:∀ {l:List Sx} {m:List (ByteArray×Sx)},Bd.binds l=some m→m.length=l.length
 |[],m,h=>by cases h;rfl
 |z::l,m,h=>by
  rw[Bd.binds] at h
  cases h1:Bd.bind1 z with
  |none=>rw[h1] at h;cases h
  |some q=>
   cases h2:Bd.binds l with
   |none=>rw[h1,h2] at h;cases h
   |some m'=>
    rw[h1,h2] at h
    cases h
    rw[List.length_cons,List.length_cons,Bd.binds_len h2]
theorem Mk.Wt.part {D:List Dc} (hD:Mk.DOk D) {s s':Ms} (h:Mk.Wt D s) {x:Sx} (hx:Sx.Fine x) (hs:Mk.part D s x=(s',0)):Mk.Ok D s':=by
 unfold Mk.part at hs
 split at hs
 ·unfold Mk.list at hs
  have hxf:=hx.all
  have hxl:=hx.len
  cases hL:x.L with
  |nil=>rw[hL] at hs;cases hs
  |cons y r=>
   rw[hL] at hs hxf hxl
   simp only[List.length_cons] at hs hxl
   split at hs
   ·cases hs
   split at hs
   ·unfold Mk.let_ at hs
    split at hs
    ·rename_i b t
     split at hs
     ·cases hs
     cases hb:Bd.binds b.L with
     |none=>rw[hb] at hs;cases hs
     |some m=>
      rw[hb] at hs
      simp only at hs
      split at hs
      ·cases hs
      split at hs
      ·cases hs
      have e:=(congrArg Prod.fst hs).symm
      simp only at e
      rw[e]
      have hbf:Sx.Fine b:=hxf b (by simp)
      have hlen:m.length=b.L.length:=Bd.binds_len hb
      refine h.nest (by rw[List.length_map,hlen];exact hbf.len) (fun y hy=>?_) ⟨by rw[List.length_map,List.length_map],fun q hq=>?_,hxf t (by simp)⟩ (by intro e;cases e)
      ·obtain⟨q,hq,rfl⟩:=List.mem_map.1 hy
       exact(Bd.binds_fine hbf.all hb q hq).2
      ·obtain⟨q2,hq2,rfl⟩:=List.mem_map.1 hq
       exact(Bd.binds_fine hbf.all hb q2 hq2).1
    ·cases hs
   split at hs
   ·have e:=(congrArg Prod.fst hs).symm
    simp only at e
    rw[e]
    exact h.nest (by omega) (fun y hy=>hxf y (List.mem_cons_of_mem _ hy)) trivial (by intro e;cases e)
   split at hs
   ·cases hs
   split at hs
   ·rename_i j hj
    split at hs
    ·rename_i hmac
     have e:=(congrArg Prod.fst hs).symm
     simp only at e
     rw[e]
     refine h.nest (by omega) (fun y hy=>hxf y (List.mem_cons_of_mem _ hy)) ⟨Mk.says_lt s.sc.reverse (fun x hx=>(h.sc x (List.mem_reverse.1 hx)).1) hj,hmac⟩ (by intro e;cases e)
    ·cases hs
   ·cases hs
 ·unfold Mk.atom at hs
  split at hs
  ·split at hs
   ·exact h.bank (o:=fun N=>Tm.num N (T.dv x.T.data.toList)) (Bd.St.num _ h.inv) (Bd.Ok.num _ _) (Tm.num_le h.len _) hs
   ·cases hs
  split at hs
  ·exact h.bank (o:=fun N=>Tm.str N (Lt.runsMost (Lt.pts x.T.data.toList)).2) (Bd.St.str _ h.inv) (Bd.Ok.str _ _) (Tm.str_le h.len _) hs
  split at hs
  ·unfold Mk.name at hs
   split at hs
   ·exact h.bank (o:=fun N=>Tm.bool N (decide (x.T.data.toList=[116,114,117,101]))) (Bd.St.bool _ h.inv) (Bd.Ok.add _ _) (Tm.bool_le h.len _) hs
   split at hs
   ·cases hs
   split at hs
   ·cases hs
   ·rename_i id hq
    obtain⟨y,hy,q,hq1,rfl⟩:=Mk.says_term hq
    have:=h.give ((h.sc y hy).2 q hq1)
    rw[hs] at this
    exact this
   ·rename_i j hq
    split at hs
    ·cases hs
    ·rename_i d hd
     split at hs
     ·rename_i hmac
      exact h.call hD (Mk.says_lt s.sc.reverse (fun x hx=>(h.sc x (List.mem_reverse.1 hx)).1) hq) (by rw[hd];exact hmac) (fun a ha=>(List.not_mem_nil ha).elim) hs
     ·exact h.bank (o:=fun N=>Tm.const N d.name d.sort) (Bd.St.const _ _ h.inv) (Bd.Ok.const _ _ _) (Tm.const_le h.len _ _) hs
  ·cases hs
theorem Bd.Apart.put {D:List Dc} {K:Nat} {m:List (Nat×List Int×Int)} (h:Bd.Apart D K m) {j:Nat} {A:List Int} {id:Int} (hj:j<K) (ha:Bd.arity D j=some A.length) (hA:∀ a∈A,0≤a∧a<20000):Bd.Apart D K (Mk.put m j A id):=by
 have hf:=h.filter fun q=> !decide (q.1=j∧q.2.1=A)
 refine⟨fun q hq=>?_,fun q hq=>?_,Mk.Keys.put h.once j A id⟩
 ·rcases List.mem_cons.1 hq with rfl|hq
  ·exact⟨hj,ha⟩
  ·exact hf.fn q hq
 ·rcases List.mem_cons.1 hq with rfl|hq
  ·exact hA
  ·exact hf.num q hq
theorem Mk.Wt.ends {D:List Dc} (hD:Mk.DOk D) {s s':Ms} (h:Mk.Wt D s) {f:Fr} (hf:Fr.Ok D s.N.length f) (hfull:f.parts.length≤f.ids.length) (hn:f.th≠.none) (hs:Mk.ends D s f.th f.ids=(s',0)):Mk.Ok D s':=by
 have hlen:f.ids.length=f.parts.length:=Nat.le_antisymm hf.le hfull
 have hhead:0<f.ids.length→0≤f.ids.headD 0∧f.ids.headD 0<(s.N.length:Int):=fun h0=>by
  cases hi:f.ids with
  |nil=>rw[hi] at h0;exact absurd h0 (Nat.lt_irrefl 0)
  |cons z l=>exact hf.ids z (by rw[hi];simp)
 have hth:=hf.th
 cases e:f.th with
 |none=>exact absurd e hn
 |op o=>
  rw[e] at hs
  exact h.bank (o:=fun N=>Tm.app N o f.ids) (Bd.St.app _ _ h.inv) (Bd.Ok.app _ _ _) (Tm.app_le h.len _ _) hs
 |fn j=>
  rw[e] at hs hth
  exact h.call hD hth.1 hth.2 hf.ids hs
 |bind names t=>
  rw[e] at hs hth
  obtain⟨h1,h2,h3⟩:=hth
  have e2:=(congrArg Prod.fst hs).symm
  simp only[Mk.ends] at e2
  rw[e2]
  have hw:Mk.Wt D { s with sc:=s.sc++[⟨List.zip names f.ids,false,0⟩] }:=⟨⟨h.inv,h.len,fun y hy=>by
   rcases List.mem_append.1 hy with hy|hy
   ·exact h.sc y hy
   ·rw[List.mem_singleton.1 hy];exact⟨Nat.zero_le _,fun q hq=>hf.ids _ (List.of_mem_zip hq).2⟩,h.made,h.ids⟩,h.fr,h.bot⟩
  exact hw.nest (by simp) (fun y hy=>by rw[List.mem_singleton.1 hy];exact h3) rfl (by intro e;cases e)
 |first=>
  rw[e] at hs hth
  have:=h.give (hhead (by rw[hlen];have:f.parts.length=1:=hth;omega))
  have hs':Mk.give s (f.ids.headD 0) 0=(s',0):=hs
  rw[hs'] at this
  exact this
 |memo j A=>
  rw[e] at hs hth
  obtain⟨h1,h2,h3,h4⟩:=hth
  have hh:=hhead (by omega)
  have hN:=h.len
  have hw:Mk.Wt D { s with made:=Mk.put s.made j A (f.ids.headD 0) }:=⟨⟨h.inv,h.len,h.sc,h.made.put h2 h3 fun a ha=>by have:=h4 a ha;omega,fun q hq=>by
   rcases List.mem_cons.1 hq with rfl|hq
   ·exact hh
   ·exact h.ids q (List.mem_filter.1 hq).1⟩,h.fr,h.bot⟩
  have:=hw.give (id:=f.ids.headD 0) hh
  have hs':Mk.give { s with made:=Mk.put s.made j A (f.ids.headD 0) } (f.ids.headD 0) 0=(s',0):=hs
  rw[hs'] at this
  exact this
theorem Mk.Base.cut {D:List Dc} {s:Ms} (h:Mk.Base D s) (k:Nat) (fr:List Fr):Mk.Base D { s with sc:=s.sc.take k,fr:=fr }:=⟨h.inv,h.len,fun x hx=>h.sc x (List.mem_of_mem_take hx),h.made,h.ids⟩
theorem Mk.Ok.ways {D:List Dc} {s:Ms} (h:Mk.Ok D s) (hl:Mk.Live s):
  (∃ bs f x,s.fr=bs++[f]∧Fr.Ok D s.N.length f∧f.parts[f.ids.length]?=some x∧Sx.Fine x∧Mk.Wt D { s with sc:=s.sc.take f.sc })∨
  ∃ bs g f,s.fr=(bs++[g])++[f]∧Fr.Ok D s.N.length f∧f.parts.length≤f.ids.length∧f.th≠.none∧Mk.Wt D { s with sc:=s.sc.take f.sc,fr:=bs++[g] }:=by
 obtain⟨bs,f,hf,h1,h2⟩:=h.fr
 rcases Nat.lt_or_ge f.ids.length f.parts.length with e|e
 ·refine .inl ⟨bs,f,f.parts[f.ids.length],hf,h2,List.getElem?_eq_getElem e,h2.fine _ (List.getElem_mem e),⟨h.toBase.cut f.sc s.fr,fun g hg=>?_,h.bot⟩⟩
  have hg:g∈s.fr:=hg
  rw[hf] at hg
  rcases List.mem_append.1 hg with hg|hg
  ·exact h1 g hg
  ·rw[List.mem_singleton.1 hg];exact⟨h2,e⟩
 ·obtain⟨g0,r,e0,e1,e2⟩:=h.bot
  cases hb:bs with
  |nil=>
   exfalso
   rw[hb] at hf
   unfold Mk.Live at hl
   rw[hf] at hl e0
   injection e0 with e3 e4
   have hi:f.ids=[]:=by simpa using hl
   rw[hi,e3,e1] at e
   exact absurd e (by decide)
  |cons b bs2=>
   obtain⟨bs',g,hbs⟩:∃ bs' g,bs=bs'++[g]:=⟨_,_,(List.dropLast_concat_getLast (l:=bs) (by rw[hb];simp)).symm⟩
   have hn:f.th≠.none:=by
    refine e2 f ?_
    rw[hb] at hf
    rw[hf,List.cons_append] at e0
    injection e0 with _ e4
    rw[←e4]
    simp
   refine .inr ⟨bs',g,f,by rw[←hbs];exact hf,h2,e,hn,⟨h.toBase.cut f.sc _,fun x hx=>h1 x (by rw[hbs];exact hx),?_⟩⟩
   show Mk.Bot (bs'++[g])
   rw[←hbs,hb]
   rw[hb] at hf
   rw[hf,List.cons_append] at e0
   injection e0 with e3 e4
   refine⟨b,bs2,rfl,by rw[e3];exact e1,fun x hx=>e2 x (by rw[←e4];exact List.mem_append_left _ hx)⟩
theorem Mk.Ok.step {D:List Dc} (hD:Mk.DOk D) {s s':Ms} (h:Mk.Ok D s) (hl:Mk.Live s) (hs:Mk.step D s=(s',0)):Mk.Ok D s':=by
 rcases h.ways hl with⟨bs,f,x,hf,h1,hx,hfi,hw⟩|⟨bs,g,f,hf,h1,hle,hn,hw⟩
 ·rw[Mk.step_part hf hx] at hs
  exact hw.part hD hfi hs
 ·rw[Mk.step_ends hf hle] at hs
  exact hw.ends hD h1 hle hn hs
theorem Mk.caps_le (D:List Dc) (h3:∀ j p,Bd.arity D j=some p→p≤3):∀ K,Bd.caps D 3 K≤8000000000000*Bd.cnt D (fun _=>true) K
 |0=>by rw[Bd.caps];exact Nat.zero_le _
 |k+1=>by
  have ih:=Mk.caps_le D h3 k
  rw[Bd.caps,Bd.cnt]
  cases ha:Bd.arity D k with
  |none=>simp;omega
  |some p=>
   have hp:=h3 k p ha
   have:20000^p≤8000000000000:=Nat.le_trans (Nat.pow_le_pow_right (by decide) hp) (by decide)
   simp only[if_pos hp]
   simp
   omega
theorem Mk.Base.few {D:List Dc} (hD:Mk.DOk D) {s:Ms} (h:Mk.Base D s):s.made.length<maxLen:=by
 have h3:∀ j p,Bd.arity D j=some p→p≤3:=fun j p hp=>by
  obtain⟨d,hd,_,e⟩:=Bd.arity_get hp
  rw[←e]
  exact(hD.par j d hd).1
 have h1:=Bd.Apart.over 3 (fun _=>1) D.length s.made h.made
 rw[Bd.most_caps] at h1
 have h2:=Mk.caps_le D h3 D.length
 have h4:=hD.cnt
 have h5:=Bd.kept_len 3 s.made
 have h6:Bd.kept 3 s.made=0:=by
  unfold Bd.kept
  rw[List.length_eq_zero_iff,List.filter_eq_nil_iff]
  intro q hq
  have:=h3 _ _ (h.made.fn q hq).2
  simp
  omega
 unfold maxLen
 omega
end Go.Proofs.YtcgaeknikfaghaaGreatDoor
namespace Go.Proofs.YtcgaeknikfaghaaGreatDoor
theorem Bd.each_len {f:List Nd→Sx→Bans}:∀ (l:List Sx) (N:List Nd),(∀ y∈l,∀ M,M.length≤20000→(f M y).1.length≤20000)→N.length≤20000→(Bd.each f N l).1.length≤20000
 |[],_,_,h=>h
 |x::l,N,hf,h=>by
  have h1:=hf x List.mem_cons_self N h
  rw[Bd.each]
  cases ho:f N x with
  |mk N' q=>
   obtain⟨id,e⟩:=q
   rw[ho] at h1
   simp only at h1 ⊢
   have h2:=Bd.each_len l N' (fun y hy=>hf y (List.mem_cons_of_mem _ hy)) h1
   split
   ·cases ho2:Bd.each f N' l with
    |mk N'' q=>
     obtain⟨ids,e'⟩:=q
     rw[ho2] at h2
     simp only at h2 ⊢
     split <;> exact h2
   ·exact h1
theorem Bd.fn_len {D:List Dc} {j:Nat} (h:∀ y sc N,N.length≤20000→(Bd.tm D j sc N y).1.length≤20000) (A:List Int) (N:List Nd) (hN:N.length≤20000):(Bd.fn D j A N).1.length≤20000:=by
 unfold Bd.fn Bd.callF
 split
 ·exact hN
 ·split
  ·exact hN
  ·split
   ·exact hN
   ·exact h _ _ _ hN
theorem Bd.tm_len (D:List Dc):∀ k x,∀ (sc:Sc) (N:List Nd),N.length≤20000→(Bd.tm D k sc N x).1.length≤20000:=by
 refine Bd.induct fun k x hk hx=>?_
 intro sc N hN
 have hE:∀ (sc:Sc) (l:List Sx),(∀ y∈l,y.size<x.size)→(Bd.each (Bd.tm D k sc) N l).1.length≤20000:=fun sc l hl=>Bd.each_len l N (fun y hy M hM=>hx y (hl y hy) sc M hM) hN
 have hF:∀ j,j<k→∀ A N,N.length≤20000→(Bd.fn D j A N).1.length≤20000:=fun j hj A N hN=>Bd.fn_len (fun y sc N hN=>hk j y hj sc N hN) A N hN
 rw[Bd.tm_eq]
 unfold Bd.step
 split
 ·unfold Bd.listF
  cases hL:x.L with
  |nil=>exact hN
  |cons h r=>
   simp only
   have hr:∀ y∈r,y.size<x.size:=fun y hy=>Sx.size_lt (by rw[hL];exact List.mem_cons_of_mem _ hy)
   split
   ·exact hN
   split
   ·unfold Bd.letF
    split
    ·rename_i b t
     split
     ·exact hN
     cases hb:Bd.binds b.L with
     |none=>exact hN
     |some m=>
      simp only
      obtain⟨z1,z2⟩:=Bd.let_sub hL hb
      have h1:=hE sc (m.map (·.2)) z2
      split
      ·exact hN
      split
      ·exact hN
      cases ho:Bd.each (Bd.tm D k sc) N (m.map (·.2)) with
      |mk N' q=>
       obtain⟨ids,e⟩:=q
       rw[ho] at h1
       simp only at h1 ⊢
       split
       ·exact hx t z1 _ N' h1
       ·exact h1
    ·exact hN
   have h1:=hE sc r hr
   cases ho:Bd.each (Bd.tm D k sc) N r with
   |mk N' q=>
    obtain⟨ids,e⟩:=q
    rw[ho] at h1
    simp only at h1 ⊢
    split
    ·split
     ·exact Tm.app_le h1 _ _
     ·exact h1
    split
    ·exact hN
    split
    ·exact hN
    cases hd:Bd.decl D h.T k with
    |none=>exact hN
    |some j=>
     simp only
     split
     ·split
      ·exact hF j (Bd.decl_lt hd).1 ids N' h1
      ·exact h1
     ·exact hN
 ·unfold Bd.atomF
  split
  ·split
   ·exact Tm.num_le hN _
   ·exact hN
  split
  ·exact Tm.str_le hN _
  split
  ·unfold Bd.nameF
   split
   ·exact Tm.bool_le hN _
   split
   ·exact hN
   cases hb:Bd.bound sc x.T with
   |some i=>exact hN
   |none=>
    simp only
    cases hd:Bd.decl D x.T k with
    |none=>exact hN
    |some j=>
     simp only
     cases hj:D[j]? with
     |none=>exact hN
     |some d=>
      simp only
      split
      ·split
       ·exact hF j (Bd.decl_lt hd).1 [] N hN
       ·exact hN
      ·exact Tm.const_le hN _ _
  ·exact hN
end Go.Proofs.YtcgaeknikfaghaaGreatDoor
