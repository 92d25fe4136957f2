import Derived.Test.YtdbgiijdgedggaaGreatDoorQM27
import Derived.Test.YtdbgiijdgedggaaGreatDoorQM28
set_option linter.unusedSimpArgs false
set_option linter.unusedVariables false
set_option maxRecDepth 100000
set_option maxHeartbeats 25600000
namespace Go.Proofs.YtdbgiijdgedggaaGreatDoor
theorem Tm.lp {l:List Nd} (h:l.length<=20000) (x:Nd):(Tm.add l x).1.length<=20000:=by
 rcases Tm.et l x with⟨_,e⟩|⟨_,_,e⟩|⟨_,r,e⟩
 ·rw[e];exact h
 ·rw[e];exact h
 ·rw[e];simp;omega
theorem Tm.rN {l:List Nd} (h:l.length<=20000) (op:Int) (a:List Int):(Tm.app l op a).1.length<=20000:=by
 rcases Tm.fe l op a with⟨e,he,r⟩|⟨w,more,own,r,J,L,O,Q,I⟩
 ·rw[r];exact h
 ·rw[I];exact Tm.lp h _
theorem Tm.kI {l:List Nd} (h:l.length<=20000) (s:ByteArray) (sort:Int):(Tm.const l s sort).1.length<=20000:=by
 unfold Tm.const;split
 ·exact h
 ·exact Tm.lp h _
theorem Tm.rr {l:List Nd} (h:l.length<=20000) (z:Int):(Tm.num l z).1.length<=20000:=by
 unfold Tm.num;split
 ·exact h
 ·exact Tm.lp h _
theorem Tm.sF {l:List Nd} (h:l.length<=20000) (t:List (Int×Int)):(Tm.str l t).1.length<=20000:=by
 unfold Tm.str;split
 ·exact Tm.lp h _
 ·exact h
theorem Tm.oV {l:List Nd} (h:l.length<=20000) (b:Bool):(Tm.bool l b).1.length<=20000:=Tm.lp h _
structure Mk.vU (D:List Dc):Prop where
 par:∀ (j:Nat) d,D[j]?=some d->d.par.length<=3/\∀ p∈d.par,p.1.size<=1048576
 body:∀ (j:Nat) d,D[j]?=some d->Sx.bH d.body
 name:∀ d∈D,d.name.size<=1048576
 ez:Bd.ez D (fun _=>true) D.length<=8
def Kt.Ok (D:List Dc) (n parts:Nat):Kt->Prop
 | .none=>parts=1
 | .op _=>True
 | .fn j=>j<D.length/\(D[j]?.map (·.cL)).getD false=true
 | .bind names t=>names.length=parts/\(∀ s∈names,s.size<=1048576)/\Sx.bH t
 | .first=>parts=1
 | .cD j A=>parts=1/\j<D.length/\Bd.arity D j=some A.length/\∀ a∈A,0<=a/\a<(n:Int)
theorem Kt.Ok.ext {D:List Dc} {n m parts:Nat} {th:Kt} (h:Kt.Ok D n parts th) (hn:n<=m):Kt.Ok D m parts th:=by
 cases th with
 |cD j A=>
  obtain⟨r,I,J,L⟩:=h
  exact⟨r,I,J,fun a ha=>by have:=L a ha;omega⟩
 |none=>exact h
 |op o=>exact h
 |fn j=>exact h
 |bind names t=>exact h
 |first=>exact h
structure Fr.Ok (D:List Dc) (n:Nat) (f:Fr):Prop where
 le:f.ids.length<=f.parts.length
 ids:∀ z∈f.ids,0<=z/\z<(n:Int)
 len:f.parts.length<=1000
 fine:∀ y∈f.parts,Sx.bH y
 th:Kt.Ok D n f.parts.length f.th
theorem Fr.Ok.ext {D:List Dc} {n m:Nat} {f:Fr} (h:Fr.Ok D n f) (hn:n<=m):Fr.Ok D m f:=⟨h.le,fun z hz=>by have:=h.ids z hz;omega,h.len,h.fine,h.th.ext hn⟩
def Fr.Wt (D:List Dc) (n:Nat) (f:Fr):Prop:=Fr.Ok D n f/\f.ids.length<f.parts.length
structure Mk.Base (D:List Dc) (s:Ms):Prop where
 inv:Tm.Inv s.N
 len:s.N.length<=20000
 sc:∀ x∈s.sc,x.ahead<=D.length/\∀ q∈x.bh,0<=q.2/\q.2<(s.N.length:Int)
 made:Bd.ck D D.length s.made
 ids:∀ q∈s.made,0<=q.2.2/\q.2.2<(s.N.length:Int)
def Mk.AG (l:List Fr):Prop:=∃ g r,l=g::r/\g.parts.length=1/\∀ f∈r,f.th≠.none
structure Mk.Wt (D:List Dc) (s:Ms):Prop extends Mk.Base D s where
 fr:∀ f∈s.fr,Fr.Wt D s.N.length f
 bot:Mk.AG s.fr
structure Mk.Ok (D:List Dc) (s:Ms):Prop extends Mk.Base D s where
 fr:∃ bs f,s.fr=bs++[f]/\(∀ g∈bs,Fr.Wt D s.N.length g)/\Fr.Ok D s.N.length f
 bot:Mk.AG s.fr
theorem Mk.AG.snoc {l:List Fr} {f:Fr} (h:Mk.AG l) (hf:f.th≠.none):Mk.AG (l++[f]):=by
 obtain⟨g,r,rfl,J,L⟩:=h
 refine⟨g,r++[f],rfl,J,fun x I=>?_⟩
 rcases F7.1 I with I|I
 ·exact L x I
 ·rw[F0.1 I];exact hf
theorem Mk.AG.last {bs:List Fr} {f f':Fr} (h:Mk.AG (bs++[f])) (hp:f'.parts=f.parts) (ht:f'.th=f.th):Mk.AG (bs++[f']):=by
 obtain⟨g,r,e,O,Q⟩:=h
 cases bs with
 |nil=>
  injection e with J L
  exact⟨f',[],rfl,by rw[hp,J];exact O,fun x I=>(FD I).elim⟩
 |cons b bs=>
  injection e with J L
  refine⟨b,bs++[f'],rfl,by rw[J];exact O,fun x I=>?_⟩
  rcases F7.1 I with I|I
  ·exact Q x (by rw[<-L];exact F9 _ I)
  ·rw[F0.1 I,ht]
   exact Q f (by rw[<-L];simp)
theorem Mk.Base.aO {D:List Dc} {s:Ms} (h:Mk.Base D s) {N':List Nd} (J:Tm.Inv N') (hp:s.N<+:N') (hl:N'.length<=20000):Mk.Base D { s with N:=N' }:=by
 have hle:=hp.length_le
 exact⟨J,hl,fun x I=>⟨(h.sc x I).1,fun q r=>by have:=(h.sc x I).2 q r;simp only;omega⟩,h.made,fun q r=>by have:=h.ids q r;simp only;omega⟩
theorem Mk.Wt.give {D:List Dc} {s:Ms} (h:Mk.Wt D s) {id:Int} (hid:0<=id/\id<(s.N.length:Int)):Mk.Ok D (Mk.give s id 0).1:=by
 obtain⟨bs,f,hf⟩:∃ bs f,s.fr=bs++[f]:=by
  obtain⟨g,r,e,_⟩:=h.bot
  exact⟨_,_,(IK (l:=s.fr) (by rw[e];simp)).symm⟩
 have J:(Mk.give s id 0).1={ s with fr:=bs++[{ f with ids:=f.ids++[id] }] }:=by
  unfold Mk.give
  rw[Fx rfl,hf,Mk.jH]
 rw[J]
 obtain⟨I,L⟩:=h.fr f (by rw[hf];simp)
 refine⟨⟨h.inv,h.len,h.sc,h.made,h.ids⟩,⟨bs,_,rfl,fun g J=>h.fr g (by rw[hf];exact F9 _ J),⟨by simp only[Gb,Im];omega,fun z hz=>?_,I.len,I.fine,I.th⟩⟩,?_⟩
 ·rcases F7.1 hz with hz|hz
  ·exact I.ids z hz
  ·rw[F0.1 hz];exact hid
 ·have:=h.bot
  rw[hf] at this
  exact this.last rfl rfl
theorem Mk.Wt.ext {D:List Dc} {s:Ms} (h:Mk.Wt D s) {N':List Nd} (r:Tm.Inv N') (hp:s.N<+:N') (hl:N'.length<=20000):Mk.Wt D { s with N:=N' }:=
 ⟨h.toBase.aO r hp hl,fun f hf=>⟨(h.fr f hf).1.ext hp.length_le,(h.fr f hf).2⟩,h.bot⟩
theorem Mk.Wt.aO {D:List Dc} {s s':Ms} (h:Mk.Wt D s) {o:qX Int} (L:Bd.St o s.N) (J:Bd.Ok (o s.N)) (hl:(o s.N).1.length<=20000) (hs:Mk.aO s (o s.N)=(s',0)):Mk.Ok D s':=by
 unfold Mk.aO at hs
 obtain⟨r,I,_,_⟩:=L
 by_cases he:(o s.N).2.2=0
 ·rw[he] at hs
  have:=(h.ext r I hl).give (id:=(o s.N).2.1) (J.1 he)
  rw[hs] at this
  exact this
 ·unfold Mk.give at hs
  rw[FQ he] at hs
  exact absurd (G1 Prod.snd hs) he
theorem Mk.Wt.nest {D:List Dc} {s:Ms} (h:Mk.Wt D s) {parts:List Sx} {th:Kt} (hl:parts.length<=1000) (hf:∀ y∈parts,Sx.bH y) (r:Kt.Ok D s.N.length parts.length th) (hn:th≠.none):Mk.Ok D (Mk.nest s parts th):=
 ⟨⟨h.inv,h.len,h.sc,h.made,h.ids⟩,⟨s.fr,_,rfl,h.fr,⟨Fz _,fun z hz=>(FD hz).elim,hl,hf,r⟩⟩,h.bot.snoc hn⟩
theorem Mk.Wt.body {D:List Dc} {s:Ms} (h:Mk.Wt D s) {x:Sx} {bh:Sc} {ahead:Nat} {th:Kt} (I:Sx.bH x) (ha:ahead<=D.length) (ht:∀ q∈bh,0<=q.2/\q.2<(s.N.length:Int)) (r:Kt.Ok D s.N.length 1 th) (hn:th≠.none):Mk.Ok D (Mk.body s x bh ahead th):=
 ⟨⟨h.inv,h.len,fun y hy=>by
  rcases F7.1 hy with hy|hy
  ·exact h.sc y hy
  ·rw[F0.1 hy];exact⟨ha,ht⟩,h.made,h.ids⟩,⟨s.fr,_,rfl,h.fr,⟨Fz _,fun z hz=>(FD hz).elim,by simp,fun y hy=>by rw[F0.1 hy];exact I,r⟩⟩,h.bot.snoc hn⟩
theorem Mk.Wt.call {D:List Dc} (J:Mk.vU D) {s s':Ms} (h:Mk.Wt D s) {j:Nat} {A:List Int} (I:j<D.length) (hm:(D[j]?.map (·.cL)).getD false=true) (hA:∀ a∈A,0<=a/\a<(s.N.length:Int)) (hs:Mk.call D s j A=(s',0)):Mk.Ok D s':=by
 obtain⟨d,hd⟩:∃ d,D[j]?=some d:=⟨_,Ge I⟩
 unfold Mk.call at hs
 rw[hd] at hs hm
 simp only[GZ,G0] at hs hm
 split at hs
 ·cases hs
 ·rename_i hlen
  cases r:Mk.hit s.made j A with
  |some id=>
   rw[r] at hs
   simp only at hs
   have:=h.give (h.ids _ (Mk.nR r))
   simp only at this
   rw[hs] at this
   exact this
  |none=>
   rw[r] at hs
   simp only at hs
   split at hs
   ·cases hs
   ·have e:=(G1 Prod.fst hs).symm
    simp only at e
    rw[e]
    refine h.body (J.body j d hd) (Nat.le_of_lt I) (fun q L=>hA _ (List.of_mem_zip L).2) ⟨rfl,I,?_,hA⟩ (by intro e;cases e)
    unfold Bd.arity
    rw[hd]
    simp only[hm,Hy]
    rw[Classical.not_not] at hlen
    rw[hlen]
theorem Mk.mG {D:List Dc} {t:ByteArray} {id:Int}:∀ {l:List iH},Mk.find D t l=.term id->∃ x∈l,∃ q∈x.bh,q.2=id
 |[],h=>by cases h
 |x::l,h=>by
  rw[Mk.find] at h
  split at h
  ·rename_i i hb
   cases h
   obtain⟨q,I,e⟩:=Hh.1 (Bd.kT hb)
   exact⟨x,Gc,q,I,e⟩
  ·split at h
   ·split at h <;> cases h
   ·obtain⟨y,hy,r⟩:=Mk.mG h
    exact⟨y,Gd _ hy,r⟩
theorem Mk.vG {D:List Dc} {t:ByteArray} {id:Int} {l:List iH} (h:Mk.says D l t=.term id):∃ x∈l,∃ q∈x.bh,q.2=id:=by
 obtain⟨x,I,r⟩:=Mk.mG h
 exact⟨x,Hg.1 I,r⟩
theorem Bd.gO:∀ {l:List Sx} {m:List (ByteArray×Sx)},Bd.binds l=some m->m.length=l.length
 |[],m,h=>by cases h;rfl
 |z::l,m,h=>by
  rw[Bd.binds] at h
  cases r:Bd.bI z with
  |none=>rw[r] at h;cases h
  |some q=>
   cases I:Bd.binds l with
   |none=>rw[r,I] at h;cases h
   |some m'=>
    rw[r,I] at h
    cases h
    rw[FG,FG,Bd.gO I]
theorem Mk.Wt.part {D:List Dc} (hD:Mk.vU D) {s s':Ms} (h:Mk.Wt D s) {x:Sx} (U:Sx.bH x) (hs:Mk.part D s x=(s',0)):Mk.Ok D s':=by
 unfold Mk.part at hs
 split at hs
 ·unfold Mk.list at hs
  have J:=U.all
  have V:=U.len
  cases hL:x.L with
  |nil=>rw[hL] at hs;cases hs
  |cons y r=>
   rw[hL] at hs J V
   simp only[FG] at hs V
   split at hs
   ·cases hs
   split at hs
   ·unfold Mk.il at hs
    split at hs
    ·rename_i b t
     split at hs
     ·cases hs
     cases hb:Bd.binds b.L with
     |none=>rw[hb] at hs;cases hs
     |some m=>
      rw[hb] at hs
      simp only at hs
      split at hs
      ·cases hs
      split at hs
      ·cases hs
      have e:=(G1 Prod.fst hs).symm
      simp only at e
      rw[e]
      have O:Sx.bH b:=J b (by simp)
      have hlen:m.length=b.L.length:=Bd.gO hb
      refine h.nest (by rw[Fi,hlen];exact O.len) (fun y hy=>?_) ⟨by rw[Fi,Fi],fun q Q=>?_,J t (by simp)⟩ (by intro e;cases e)
      ·obtain⟨q,Q,rfl⟩:=Hh.1 hy
       exact(Bd.eE O.all hb q Q).2
      ·obtain⟨q2,Z,rfl⟩:=Hh.1 Q
       exact(Bd.eE O.all hb q2 Z).1
    ·cases hs
   split at hs
   ·have e:=(G1 Prod.fst hs).symm
    simp only at e
    rw[e]
    exact h.nest (by omega) (fun y hy=>J y (Gd _ hy)) trivial (by intro e;cases e)
   split at hs
   ·cases hs
   split at hs
   ·rename_i j hj
    split at hs
    ·rename_i I
     have e:=(G1 Prod.fst hs).symm
     simp only at e
     rw[e]
     refine h.nest (by omega) (fun y hy=>J y (Gd _ hy)) ⟨Mk.jy s.sc.reverse (fun x U=>(h.sc x (Hg.1 U)).1) hj,I⟩ (by intro e;cases e)
    ·cases hs
   ·cases hs
 ·unfold Mk.atom at hs
  split at hs
  ·split at hs
   ·exact h.aO (o:=fun N=>Tm.num N (T.dv x.T.data.toList)) (Bd.St.num _ h.inv) (Bd.Ok.num _ _) (Tm.rr h.len _) hs
   ·cases hs
  split at hs
  ·exact h.aO (o:=fun N=>Tm.str N (Lt.aA (Lt.ir x.T.data.toList)).2) (Bd.St.str _ h.inv) (Bd.Ok.str _ _) (Tm.sF h.len _) hs
  split at hs
  ·unfold Mk.name at hs
   split at hs
   ·exact h.aO (o:=fun N=>Tm.bool N (decide (x.T.data.toList=[116,114,117,101]))) (Bd.St.bool _ h.inv) (Bd.Ok.add _ _) (Tm.oV h.len _) hs
   split at hs
   ·cases hs
   split at hs
   ·cases hs
   ·rename_i id Q
    obtain⟨y,hy,q,X,rfl⟩:=Mk.vG Q
    have:=h.give ((h.sc y hy).2 q X)
    rw[hs] at this
    exact this
   ·rename_i j Q
    split at hs
    ·cases hs
    ·rename_i d hd
     split at hs
     ·rename_i I
      exact h.call hD (Mk.jy s.sc.reverse (fun x U=>(h.sc x (Hg.1 U)).1) Q) (by rw[hd];exact I) (fun a ha=>(FD ha).elim) hs
     ·exact h.aO (o:=fun N=>Tm.const N d.name d.sort) (Bd.St.const _ _ h.inv) (Bd.Ok.const _ _ _) (Tm.kI h.len _ _) hs
  ·cases hs
theorem Bd.ck.put {D:List Dc} {K:Nat} {m:List (Nat×List Int×Int)} (h:Bd.ck D K m) {j:Nat} {A:List Int} {id:Int} (I:j<K) (ha:Bd.arity D j=some A.length) (hA:∀ a∈A,0<=a/\a<20000):Bd.ck D K (Mk.put m j A id):=by
 have hf:=h.filter fun q=> !decide (q.1=j/\q.2.1=A)
 refine⟨fun q r=>?_,fun q r=>?_,Mk.Keys.put h.once j A id⟩
 ·rcases FE.1 r with rfl|r
  ·exact⟨I,ha⟩
  ·exact hf.fn q r
 ·rcases FE.1 r with rfl|r
  ·exact hA
  ·exact hf.num q r
theorem Mk.Wt.ends {D:List Dc} (hD:Mk.vU D) {s s':Ms} (h:Mk.Wt D s) {f:Fr} (hf:Fr.Ok D s.N.length f) (J:f.parts.length<=f.ids.length) (hn:f.th≠.none) (hs:Mk.ends D s f.th f.ids=(s',0)):Mk.Ok D s':=by
 have hlen:f.ids.length=f.parts.length:=Nat.le_antisymm hf.le J
 have I:0<f.ids.length->0<=f.ids.headD 0/\f.ids.headD 0<(s.N.length:Int):=fun V=>by
  cases hi:f.ids with
  |nil=>rw[hi] at V;exact absurd V (Nat.lt_irrefl 0)
  |cons z l=>exact hf.ids z (by rw[hi];simp)
 have r:=hf.th
 cases e:f.th with
 |none=>exact absurd e hn
 |op o=>
  rw[e] at hs
  exact h.aO (o:=fun N=>Tm.app N o f.ids) (Bd.St.app _ _ h.inv) (Bd.Ok.app _ _ _) (Tm.rN h.len _ _) hs
 |fn j=>
  rw[e] at hs r
  exact h.call hD r.1 r.2 hf.ids hs
 |bind names t=>
  rw[e] at hs r
  obtain⟨h1,X,Q⟩:=r
  have U:=(G1 Prod.fst hs).symm
  simp only[Mk.ends] at U
  rw[U]
  have hw:Mk.Wt D { s with sc:=s.sc++[⟨List.zip names f.ids,false,0⟩] }:=⟨⟨h.inv,h.len,fun y hy=>by
   rcases F7.1 hy with hy|hy
   ·exact h.sc y hy
   ·rw[F0.1 hy];exact⟨Fz _,fun q O=>hf.ids _ (List.of_mem_zip O).2⟩,h.made,h.ids⟩,h.fr,h.bot⟩
  exact hw.nest (by simp) (fun y hy=>by rw[F0.1 hy];exact Q) rfl (by intro e;cases e)
 |first=>
  rw[e] at hs r
  have:=h.give (I (by rw[hlen];have:f.parts.length=1:=r;omega))
  have L:Mk.give s (f.ids.headD 0) 0=(s',0):=hs
  rw[L] at this
  exact this
 |cD j A=>
  rw[e] at hs r
  obtain⟨h1,X,Q,h4⟩:=r
  have Z:=I (by omega)
  have hN:=h.len
  have hw:Mk.Wt D { s with made:=Mk.put s.made j A (f.ids.headD 0) }:=⟨⟨h.inv,h.len,h.sc,h.made.put X Q fun a ha=>by have:=h4 a ha;omega,fun q O=>by
   rcases FE.1 O with rfl|O
   ·exact Z
   ·exact h.ids q (Io.1 O).1⟩,h.fr,h.bot⟩
  have:=hw.give (id:=f.ids.headD 0) Z
  have L:Mk.give { s with made:=Mk.put s.made j A (f.ids.headD 0) } (f.ids.headD 0) 0=(s',0):=hs
  rw[L] at this
  exact this
theorem Mk.Base.cut {D:List Dc} {s:Ms} (h:Mk.Base D s) (k:Nat) (fr:List Fr):Mk.Base D { s with sc:=s.sc.take k,fr:=fr }:=⟨h.inv,h.len,fun x r=>h.sc x (GN r),h.made,h.ids⟩
theorem Mk.Ok.ways {D:List Dc} {s:Ms} (h:Mk.Ok D s) (hl:Mk.Live s):
  (∃ bs f x,s.fr=bs++[f]/\Fr.Ok D s.N.length f/\f.parts[f.ids.length]?=some x/\Sx.bH x/\Mk.Wt D { s with sc:=s.sc.take f.sc })\/
  ∃ bs g f,s.fr=(bs++[g])++[f]/\Fr.Ok D s.N.length f/\f.parts.length<=f.ids.length/\f.th≠.none/\Mk.Wt D { s with sc:=s.sc.take f.sc,fr:=bs++[g] }:=by
 obtain⟨bs,f,hf,h1,U⟩:=h.fr
 rcases GX f.ids.length f.parts.length with e|e
 ·refine .inl ⟨bs,f,f.parts[f.ids.length],hf,U,Ge e,U.fine _ (Gf e),⟨h.toBase.cut f.sc s.fr,fun g J=>?_,h.bot⟩⟩
  have J:g∈s.fr:=J
  rw[hf] at J
  rcases F7.1 J with J|J
  ·exact h1 g J
  ·rw[F0.1 J];exact⟨U,e⟩
 ·obtain⟨g0,r,O,e1,e2⟩:=h.bot
  cases hb:bs with
  |nil=>
   exfalso
   rw[hb] at hf
   unfold Mk.Live at hl
   rw[hf] at hl O
   injection O with X Q
   have hi:f.ids=[]:=by simpa using hl
   rw[hi,X,e1] at e
   exact absurd e (by decide)
  |cons b V=>
   obtain⟨I,g,L⟩:∃ I g,bs=I++[g]:=⟨_,_,(IK (l:=bs) (by rw[hb];simp)).symm⟩
   have hn:f.th≠.none:=by
    refine e2 f ?_
    rw[hb] at hf
    rw[hf,FZ] at O
    injection O with _ Q
    rw[<-Q]
    simp
   refine .inr ⟨I,g,f,by rw[<-L];exact hf,U,e,hn,⟨h.toBase.cut f.sc _,fun x Z=>h1 x (by rw[L];exact Z),?_⟩⟩
   show Mk.AG (I++[g])
   rw[<-L,hb]
   rw[hb] at hf
   rw[hf,FZ] at O
   injection O with X Q
   refine⟨b,V,rfl,by rw[X];exact e1,fun x Z=>e2 x (by rw[<-Q];exact F9 _ Z)⟩
theorem Mk.Ok.step {D:List Dc} (J:Mk.vU D) {s s':Ms} (h:Mk.Ok D s) (hl:Mk.Live s) (hs:Mk.step D s=(s',0)):Mk.Ok D s':=by
 rcases h.ways hl with⟨bs,f,x,hf,I,L,r,hw⟩|⟨bs,g,f,hf,I,hle,hn,hw⟩
 ·rw[Mk.jJ hf L] at hs
  exact hw.part J r hs
 ·rw[Mk.ia hf hle] at hs
  exact hw.ends J I hle hn hs
theorem Mk.jm (D:List Dc) (h:∀ j p,Bd.arity D j=some p->p<=3):∀ K,Bd.je D 3 K<=8000000000000*Bd.ez D (fun _=>true) K
 |0=>by rw[Bd.je];exact Fz _
 |k+1=>by
  have r:=Mk.jm D h k
  rw[Bd.je,Bd.ez]
  cases ha:Bd.arity D k with
  |none=>simp;omega
  |some p=>
   have hp:=h k p ha
   have:20000^p<=8000000000000:=Fo (Gy (by decide) hp) (by decide)
   simp only[Fx hp]
   simp
   omega
theorem Mk.Base.few {D:List Dc} (I:Mk.vU D) {s:Ms} (h:Mk.Base D s):s.made.length<maxLen:=by
 have r:∀ j p,Bd.arity D j=some p->p<=3:=fun j p hp=>by
  obtain⟨d,hd,_,e⟩:=Bd.fk hp
  rw[<-e]
  exact(I.par j d hd).1
 have J:=Bd.ck.over 3 (fun _=>1) D.length s.made h.made
 rw[Bd.jL] at J
 have O:=Mk.jm D r D.length
 have Q:=I.ez
 have U:=Bd.lN 3 s.made
 have V:Bd.kept 3 s.made=0:=by
  unfold Bd.kept
  rw[IJ,List.filter_eq_nil_iff]
  intro q L
  have:=r _ _ (h.made.fn q L).2
  simp
  omega
 unfold maxLen
 omega
end Go.Proofs.YtdbgiijdgedggaaGreatDoor
namespace Go.Proofs.YtdbgiijdgedggaaGreatDoor
open Go.RowKit
theorem cC (s:ByteArray) (a b:Nat) (hb:b<=s.size) (ha:a<=b) (w:World):(Instr.slice 9 (.string s) (some (.int .i64 (a:Int))) (some (.int .i64 (b:Int))) none).run Tryz.prog w=.ok (.string (s.extract a b)) w:=by
 rw[run_slice_string_if _ _ _ _ _ _ _ Tryz.underlying9,Fx (by omega),Fx (by omega)]
 rfl
theorem below_alloc2 (w:World) (x y:Obj):Below w.heap.size w ((w.alloc x).alloc y):=((Gp _ w).alloc (Fm _) x).alloc (by simp) y
abbrev ZT:Array Value:=#[.int .i64 0,.string ⟨#[]⟩,.int .i64 0]
abbrev va (w:World) (R:Nat) (x y z:Value):World:=((w.setCell ⟨R,0,none⟩ x).setCell ⟨R,1,none⟩ y).setCell ⟨R,2,none⟩ z
theorem fq {w:World} {R:Nat} {v0 v1 v2:Value} (h:aa w R 24 #[v0,v1,v2]) (x y z:Value):
  aa (va w R x y z) R 24 #[x,y,z]/\(va w R x y z).cell? ⟨R,0,none⟩=some x/\(va w R x y z).cell? ⟨R,1,none⟩=some y/\(va w R x y z).cell? ⟨R,2,none⟩=some z:=by
 have l:aa (va w R x y z) R 24 #[x,y,z]:=by simpa using ((h.put 0 x).put 1 y).put 2 z
 exact⟨l,by simpa using l.cell 0,by simpa using l.cell 1,by simpa using l.cell 2⟩
theorem uP {w0 w:World} (h:Below w0.heap.size w0 w) {R:Nat} (r:w0.heap.size<=R) (x y z:Value):Below w0.heap.size w0 (va w R x y z):=
 h.trans ((((ae.refl (fun i=>i=R) w).put (p:=⟨R,0,none⟩) (.inl rfl) x).put (p:=⟨R,1,none⟩) (.inl rfl) y).put (p:=⟨R,2,none⟩) (.inl rfl) z |>.below h.size fun i e=>by rw[e];exact r)
theorem pY {W r:World} {R:Nat} (I:Below W.heap.size W r) (hl:aa W R 24 ZT):
  R<r.heap.size/\r.cell? ⟨R,0,none⟩=some (.int .i64 0)/\r.cell? ⟨R,1,none⟩=some (.string ⟨#[]⟩)/\r.cell? ⟨R,2,none⟩=some (.int .i64 0)/\
  r.frozen? ⟨R,0,none⟩=false/\r.frozen? ⟨R,1,none⟩=false/\r.frozen? ⟨R,2,none⟩=false/\Hid (aa r R 24 ZT):=by
 have h:=(ae.af (F:=fun _=>False) I).lies hl id
 exact⟨h.lt,by simpa using h.cell 0,by simpa using h.cell 1,by simpa using h.cell 2,h.free 0,h.free 1,h.free 2,h⟩
structure tW (s:ByteArray) (a:Nat) (x:Int×List UInt8×Int×List UInt8) (w:World) (e:Ending) (w':World):Prop where
 below:Below w.heap.size w w'
 ok:x.2.2.1=0->∃ (T:ByteArray) (b:Nat),e=.returned (.tuple #[.agg #[.int .i64 x.1,.string T,.int .i64 (a:Nat)],.int .i64 (b:Nat),.int .i64 0,.int .i64 0])/\T.data.toList=x.2.1/\a<b/\b<=s.size/\s.data.toList.drop b=x.2.2.2
 bad:x.2.2.1≠0->∃ p:Nat,e=.returned (.tuple #[.agg #[.int .i64 0,.string ⟨#[]⟩,.int .i64 0],.int .i64 0,.int .i64 x.2.2.1,.int .i64 (p:Nat)])/\a<=p/\p<s.size/\s.data.toList.drop p=x.2.2.2
theorem Ay (s:ByteArray) (a k:Nat) (ha:a<s.size) (O:a+1<=k) (J:k<=s.size) (L:s.data.toList.drop k=(s.data.toList.drop (a+1)).dropWhile Lx.name):
  (s.extract a k).data.toList=s[a]::(s.data.toList.drop (a+1)).takeWhile Lx.name:=by
 have h:=Lx.take_drop Lx.name (s.data.toList.drop (a+1))
 rw[(bM s a k J (by omega)).1,aD s ha,show k-a=(k-(a+1))+1 by omega,GG]
 congr 1
 rw[<-L] at h
 have hl:=G1 List.length h
 rw[Gb,FU,FU] at hl
 have r:s.data.toList.length=s.size:=by rw[Fv];rfl
 rw[r] at hl
 have:((s.data.toList.drop (a+1)).takeWhile Lx.name).length=k-(a+1):=by omega
 rw[<-this]
 have I:=G1 (List.take ((s.data.toList.drop (a+1)).takeWhile Lx.name).length) h
 rw[FN] at I
 exact I.symm
theorem vy (s:ByteArray) (a:Nat) (w:World) (hs:s.size<=1000000) (ha:a<s.size) (hc:s[a].toNat=40\/s[a].toNat=41):
  Calls Tryz.prog 177 #[.string s,.int .i64 (a:Nat)] w (tW s a (Lx.one (s.data.toList.drop a)) w):=by
 have Q:=Gn fun W=>xK s (a+1) W (by unfold maxLen;omega) (by omega)
 have r:=fun k L I=>cC s a k L I
 have X:IntKind.i64.wrap ((a:Int)+1)=((a+1:Nat):Int):=GR _ (by omega)
 have U:Lx.one (s.data.toList.drop a)=(if s[a].toNat=40 then 1 else 2,[s[a]],0,s.data.toList.drop (a+1)):=by
  rw[aD s ha]
  rcases hc with h|h <;> simp[Lx.one,h]
 rw[U]
 clear U
 rcases hc with h|h
 ·have V:((s[a].toNat:Int) == 40)=true:=Gw.2 (by omega)
  have hT:Hid ((⟨#[40]⟩:ByteArray).data.toList=[s[a]]):=by
   show[(40:UInt8)]=_
   rw[Lx.ec h];rfl
  have J:(if s[a].toNat=40 then(1:Int) else 2)=1:=by rw[Fx h]
  rw[J]
  clear h J
  go_enter Tryz.func177,Tryz.ntmps177
  go_wp2_with (go_at_call 228;refine(Q.out _).mono ?_;rintro e Z ⟨k,rfl,rfl,L,I,_⟩;have O:=r k I (by omega))
  exact GD (v:=.tuple #[.agg #[.int .i64 1,.string ⟨#[40]⟩,.int .i64 (a:Nat)],.int .i64 ((a+1:Nat):Int),.int .i64 0,.int .i64 0]) (by simp[results,Tryz.results177,go_sem]) rfl ⟨below_alloc2 _ _ _,fun _=>⟨_,a+1,rfl,hT.out,by omega,by omega,rfl⟩,fun h=>absurd rfl h⟩
 ·have V:((s[a].toNat:Int) == 40)=false:=Gx.2 (by omega)
  have b2:((s[a].toNat:Int) == 41)=true:=Gw.2 (by omega)
  have hT:Hid ((⟨#[41]⟩:ByteArray).data.toList=[s[a]]):=by
   show[(41:UInt8)]=_
   rw[Lx.ec h];rfl
  have J:(if s[a].toNat=40 then(1:Int) else 2)=2:=by rw[FQ (by omega)]
  rw[J]
  clear h J
  go_enter Tryz.func177,Tryz.ntmps177
  go_wp2_with (go_at_call 228;refine(Q.out _).mono ?_;rintro e Z ⟨k,rfl,rfl,L,I,_⟩;have O:=r k I (by omega))
  exact GD (v:=.tuple #[.agg #[.int .i64 2,.string ⟨#[41]⟩,.int .i64 (a:Nat)],.int .i64 ((a+1:Nat):Int),.int .i64 0,.int .i64 0]) (by simp[results,Tryz.results177,go_sem]) rfl ⟨below_alloc2 _ _ _,fun _=>⟨_,a+1,rfl,hT.out,by omega,by omega,rfl⟩,fun h=>absurd rfl h⟩
end Go.Proofs.YtdbgiijdgedggaaGreatDoor
