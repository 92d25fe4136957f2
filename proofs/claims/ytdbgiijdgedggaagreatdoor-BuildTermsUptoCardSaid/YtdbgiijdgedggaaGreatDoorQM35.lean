import Derived.Test.YtdbgiijdgedggaaGreatDoorQM34
import Derived.Deep.RegionHeld3
set_option linter.unusedSimpArgs false
set_option linter.unusedVariables false
set_option maxRecDepth 100000
set_option maxHeartbeats 25600000
namespace Go.Proofs.YtdbgiijdgedggaaGreatDoor
open Go.RowKit
def xC (a:Nat) (o:Option (Nat×Nat)) (e:Ending):Prop:=
 match o with
 |none=>∃ z:Int,e=.returned (.tuple #[.int .i64 (-1),.int .i64 z])
 |some (s,d)=>∃ z m:Int,e=.returned (.tuple #[.int .i64 z,.int .i64 m])/\z=((a+s-1:Nat):Int)/\m=(d:Nat)
theorem qs (w:World) (A:Option Addr) (n c:Nat) (l:List aG) (a:Nat) (t:aG) (h:oQ w A n l) (ht:l[a]?=some t) (h1:t.1=1) (hn:n<=1000000):
  Calls Tryz.prog 178 #[.slice A n c,.int .i64 (a:Nat)] w fun e w'=>xC a (cJ 0 0 (l.drop a)) e/\w'=w:=by
 obtain⟨X,V⟩:∃ X,cJ 0 0 (l.drop a)=X:=⟨_,rfl⟩
 rw[V]
 have HX:=Gn V
 have HH:=Gn h
 have ah:a<n:=by rw[<-h.len];exact(Fg.1 ht).1
 have HT:=Gn ht
 have H1:=Gn h1
 clear V h ht h1
 go_enter Tryz.func178,Tryz.ntmps178
 go_wp2
 go_loopw [6,7,8] (fun nv mv iv wr=>∃ i r most:Nat,a<=i/\i<=n/\r<=i/\most<=i/\r<=most/\iv=.int .i64 (i:Nat)/\nv=.int .i64 (r:Nat)/\mv=.int .i64 (most:Nat)/\w=wr/\(r=0->i=a)/\Hid ((cJ r most (l.drop i)).map (fun x=>(x.1+(i-a),x.2))=X)) (fun _ _ iv _=>n-(intOf iv).toNat)
 case atStart=>exact⟨a,0,0,Fm _,Nat.le_of_lt ah,Fz _,Fz _,Fm _,rfl,rfl,rfl,rfl,fun _=>rfl,by show _=_;rw[HX.out];cases X <;> simp⟩
 case round=>
  obtain⟨i,r,most,a1,hi,bl,bo,bn,rfl,rfl,rfl,rfl,h0,HI⟩:=hrel
  by_cases ao:i<n
  ·obtain⟨b,off,x,rfl,hx,Z,hc⟩:=HH.out.get ao
   obtain⟨z0,z1,z2,z3⟩:=hc _ (Gp _ _)
   obtain⟨I,xt,xa⟩:=x
   have ad:r=0->I=1:=fun e=>by
    have L:=h0 e
    subst L
    rw[HT.out] at hx
    injection hx with hx
    have:=H1.out
    rw[hx] at this
    exact this
   have hd:=HI.out
   rw[Z] at hd
   have av:(i:Int)<(n:Int):=by omega
   have a7:(0:Int)<=(i:Int):=by omega
   clear HI hc hx Z h0 z2 z3
   have U:(I=1/\most<r+1/\Hid ((cJ (r+1) (r+1) (l.drop (i+1))).map (fun x=>(x.1+(i+1-a),x.2))=X))\/(I=1/\¬most<r+1/\Hid ((cJ (r+1) most (l.drop (i+1))).map (fun x=>(x.1+(i+1-a),x.2))=X))\/
     (I=2/\r=1/\X=some (i-a+1,most))\/(I=2/\(∃ k,r=k+2)/\Hid ((cJ (r-1) most (l.drop (i+1))).map (fun x=>(x.1+(i+1-a),x.2))=X))\/
     (I≠1/\I≠2/\0<r/\Hid ((cJ r most (l.drop (i+1))).map (fun x=>(x.1+(i+1-a),x.2))=X)):=by
    have e:1+(i-a)=i+1-a:=by omega
    by_cases L:I=1
    ·rw[fm _ (show((I,xt,xa):aG).1=1 from L),dz,e] at hd
     by_cases J:most<r+1
     ·rw[Nat.max_eq_right (by omega)] at hd
      exact .inl ⟨L,J,hd⟩
     ·rw[Nat.max_eq_left (by omega)] at hd
      exact .inr (.inl ⟨L,J,hd⟩)
    ·have bb:0<r:=H8 fun e=>L (ad e)
     by_cases J:I=2
     ·by_cases e3:r=1
      ·subst e3
       rw[mS _ (show((I,xt,xa):aG).1=2 from J)] at hd
       exact .inr (.inr (.inl ⟨J,rfl,by rw[<-hd];simp;omega⟩))
      ·obtain⟨k,rfl⟩:∃ k,r=k+2:=⟨r-2,by omega⟩
       rw[iV _ (show((I,xt,xa):aG).1=2 from J) (by omega),dz,e] at hd
       exact .inr (.inr (.inr (.inl ⟨J,⟨k,rfl⟩,hd⟩)))
     ·obtain⟨k,rfl⟩:∃ k,r=k+1:=⟨r-1,by omega⟩
      rw[jV _ (show((I,xt,xa):aG).1≠1 from L) J (by omega),dz,e] at hd
      exact .inr (.inr (.inr (.inr ⟨L,J,by omega,hd⟩)))
   clear hd ad
   rcases U with⟨rfl,hm,Q⟩|⟨rfl,hm,Q⟩|⟨rfl,rfl,rfl⟩|⟨rfl,⟨k,rfl⟩,Q⟩|⟨L,J,e3,Q⟩
   ·have O:(most:Int)<(r:Int)+1:=by omega
    have hz:((r:Int)+1 == 0)=false:=Gx.2 (by omega)
    go_wp2
    go_roundw
    case rel=>exact⟨i+1,r+1,r+1,by omega,by omega,by omega,by omega,by omega,by go_num,by go_num,by go_num,by first|trivial|rfl,fun e=>absurd e (by omega),Q⟩
    case measure=>simp[intOf];omega
   ·have O:¬(most:Int)<(r:Int)+1:=by omega
    have hz:((r:Int)+1 == 0)=false:=Gx.2 (by omega)
    go_wp2
    go_roundw
    case rel=>exact⟨i+1,r+1,most,by omega,by omega,by omega,by omega,by omega,by go_num,by go_num,by go_num,by first|trivial|rfl,fun e=>absurd e (by omega),Q⟩
    case measure=>simp[intOf];omega
   ·have O:¬(most:Int)<0:=by omega
    go_wp2
    go_ret2
    exact⟨⟨_,_,rfl,by omega,rfl⟩,rfl⟩
   ·have O:¬(most:Int)<(k:Int)+1:=by omega
    have hz:((k:Int)+1 == 0)=false:=Gx.2 (by omega)
    have ba:((k+2:Nat):Int)-1=(k:Int)+1:=by omega
    go_wp2
    go_roundw
    case rel=>exact⟨i+1,k+1,most,by omega,by omega,by omega,by omega,by omega,by go_num,by go_num,by go_num,by first|trivial|rfl,fun e=>absurd e (by omega),Q⟩
    case measure=>simp[intOf];omega
   ·have b1:(I == 1)=false:=Gx.2 L
    have b2:(I == 2)=false:=Gx.2 J
    have O:¬(most:Int)<(r:Int):=by omega
    have hz:((r:Int) == 0)=false:=Gx.2 (by omega)
    go_wp2
    go_roundw
    case rel=>exact⟨i+1,r,most,by omega,by omega,by omega,by omega,by omega,by go_num,by go_num,by go_num,by first|trivial|rfl,fun e=>absurd e (by omega),Q⟩
    case measure=>simp[intOf];omega
  ·obtain rfl:i=n:=by omega
   have V:X=none:=by
    have:=HI.out
    rw[Gz (by rw[HH.out.len];exact Fm _),cJ] at this
    exact this.symm
   subst V
   clear HI
   go_wp2
   go_ret2
   exact⟨⟨_,rfl⟩,rfl⟩
abbrev oZ:=Sx×Option Addr×Nat
abbrev iL (x:oZ):List Value:=gm x.1 x.2.1 x.2.2
abbrev cU (l:List oZ):List Value:=l.flatMap iL
theorem DI:(Tryz.prog.info? 27).map (fun i=>(i.zero,i.size,i.bytes))=some (some (.agg #[.bool false,.int .i64 0,.string ByteArray.empty,.int .i64 0,.int .i64 0,.slice none 0 0]),6,72):=by kernel_rfl
theorem zg:∀ (l:List oZ) (i:Nat) (x:oZ),l[i]?=some x->∀ j,j<6->(cU l)[i*6+j]?=(iL x)[j]?
 |[],i,x,h=>by simp at h
 |y::l,0,x,h=>by
  obtain rfl:y=x:=by simpa using h
  intro j r
  rw[cU,GI,Hx,FA,FO (by simp;omega)]
 |y::l,i+1,x,h=>by
  intro j r
  rw[<-zg l i x (by simpa using h) j r,cU,GI,show(i+1)*6+j=(iL y).length+(i*6+j) by simp;omega,Ga (by omega),II]
theorem C0 (l:List oZ):∀ u∈cU l,u.oneCell'=true:=by
 intro u hu
 obtain⟨x,_,hu⟩:=GJ.1 hu
 simp[iL,gm] at hu
 rcases hu with rfl|rfl|rfl|rfl|rfl|rfl <;> rfl
abbrev eV (B:Nat) (A:Option Addr) (n c:Nat):Nat->Nat->Prop:=fun b _=>B<=b/\(Value.slice A n c).ownBlock≠some b
structure eF (w:World) (B:Nat) (A:Option Addr) (c:Nat) (l:List oZ):Prop where
 row:w.ownsRow B 27 6 (.slice A l.length c) l.length (cU l)
 trees:∀ x∈l,aJ w (eV B A l.length c) x.1 x.2.1 x.2.2
theorem eF.nil (w:World) (B:Nat):eF w B none 0 []:=⟨Gg _ _ _ _,fun _ h=>absurd h FD⟩
theorem eF.kept {w w':World} {B:Nat} {A:Option Addr} {c:Nat} {l:List oZ} (h:eF w B A c l) (hb:Below w.heap.size w w'):eF w' B A c l:=
 ⟨(ae.af (F:=fun _=>False) hb).own h.row (fun _ _=>id),fun x r=>(h.trees x r).kept hb⟩
theorem eF.lt {w:World} {B:Nat} {A:Option Addr} {c n:Nat} {l:List oZ} (h:eF w B A c l) (hn:l.length=n) {q:Nat} (r:(Value.slice A n c).ownBlock=some q):B<=q/\q<w.heap.size:=by
 subst hn
 exact h.row.lt q r
theorem eF.parts {w:World} {B:Nat} {A:Option Addr} {c:Nat} {l:List oZ} (h:eF w B A c l):l.length<=c/\c<=maxLen/\((A=none/\l=[])\/∃ g,A=some ⟨g,0,none⟩/\B<=g/\g<w.heap.size):=by
 rcases h.row.2 with⟨e,hn⟩|⟨g,cap,cur,e,hb,L,hc,hm,_⟩
 ·injection e with r J I
  exact⟨by omega,by rw[I];exact Fz _,.inl ⟨r,FV hn⟩⟩
 ·injection e with r J I
  subst I
  exact⟨hc,hm,.inr ⟨g,r,hb,(Fl.1 L).1⟩⟩
theorem eF.at_ {w:World} {B g:Nat} {c:Nat} {l:List oZ} (h:eF w B (some ⟨g,0,none⟩) c l) {i:Nat} {x:oZ} (L:l[i]?=some x):mh w g (i*6) x.1 x.2.1 x.2.2:=by
 have r:=fun j (J:j<6) u (hu:(iL x)[j]?=some u)=>h.row.cells (g:=g) rfl (i*6+j) u ((zg l i x L j J).trans hu)
 have I:g<w.heap.size:=(h.row.lt g rfl).2
 have a:∀ j,(⟨g,0,none⟩:Addr).add j=⟨g,j,none⟩:=fun j=>by rw[addr_add,FA]
 simp only[a] at r
 exact⟨I,r 0 (by decide) _ rfl,r 1 (by decide) _ rfl,r 2 (by decide) _ rfl,r 3 (by decide) _ rfl,r 4 (by decide) _ rfl,r 5 (by decide) _ rfl⟩
theorem eF.uy {w:World} {B g:Nat} {c:Nat} {l:List oZ} (h:eF w B (some ⟨g,0,none⟩) c l) (I:B<=g):∀ (k i:Nat),l.length-i<=k->au w (fun b _=>B<=b) (some ⟨g,i*6,none⟩) ((l.drop i).map (·.1)):=by
 intro k
 induction k with
 |zero=>
  intro i hi
  rw[Gz (by omega)]
  exact .nil _
 |succ k L=>
  intro i hi
  by_cases r:i<l.length
  ·have J:=Ge r
   rw[FC r,GK]
   have ht:=h.trees _ (Gf r)
   refine .cons g (i*6) _ _ _ _ (h.at_ J) I ht.le (ht.tree.mono fun _ _ _ q=>q.1) ?_
   have:=L (i+1) (by omega)
   rw[show(i+1)*6=i*6+6 by omega] at this
   exact this
  ·rw[Gz (by omega)]
   exact .nil _
theorem eF.tree {w:World} {B:Nat} {A:Option Addr} {c:Nat} {l:List oZ} (h:eF w B A c l):au w (fun b _=>B<=b) A (l.map (·.1)):=by
 rcases h.parts with⟨_,_,⟨rfl,rfl⟩|⟨g,rfl,r,_⟩⟩
 ·exact .nil _
 ·have:=h.uy r l.length 0 (by omega)
  rw[Hx,Hw] at this
  exact this
theorem oT (w:World) (x0 h r I J L:Value) (t:TypeId):∀ j u,[x0,h,r,I,J,L][j]?=some u->(w.alloc (.cells #[x0,h,r,I,J,L] t)).cell? ((⟨w.heap.size,0,none⟩:Addr).add j)=some u:=by
 intro j u hu
 have l:=aa.new w t #[x0,h,r,I,J,L]
 rw[addr_add,FA,l.cell j,<-hu]
 simp
theorem pZ (w:World) (ty:TypeId) (B:Nat) (A:Option Addr) (c:Nat) (l:List oZ) (n:Nat) (hn:l.length=n) (d:oZ) (g:Nat) (hg:w.heap.size=g) (r:eF w B A c l) (hd:aJ w (eV B A n c) d.1 d.2.1 d.2.2) (hl:n<=1000000) (hB:B<=w.heap.size):
  ∃ A' Q w',(Builtin.append_ #[25,25] ty #[.slice A n c,.slice (some ⟨g,0,none⟩) 1 1]).run Tryz.prog (w.alloc (dr d.1 d.2.1 d.2.2))=.ok (.slice A' (n+1) Q) w'/\eF w' B A' Q (l++[d])/\w.grownBy w' (Value.slice A n c).ownBlock:=by
 subst hn
 subst hg
 obtain⟨i0,hi,X,Z,ad⟩:=Gj DI
 obtain⟨v',w',hr,q1,L,_,O⟩:=Fy (P:=Tryz.prog) (w.alloc (dr d.1 d.2.1 d.2.2)) B 25 ty 27 i0 (.agg #[.bool false,.int .i64 0,.string ByteArray.empty,.int .i64 0,.int .i64 0,.slice none 0 0]) 6 72 Tryz.underlying25 hi X Z ad rfl (by decide) (.slice A l.length c) l.length (cU l)
  (Gk r.row _) ⟨w.heap.size,0,none⟩ 1 1 (iL d) rfl (oT _ _ _ _ _ _ _ _) (fun u hu=>C0 [d] u (by simpa [cU] using hu)) (by unfold maxLen;omega) (by omega) (by simp;omega)
 obtain⟨A',Q,rfl⟩:=aI q1
 have J:w.grownBy w' (Value.slice A l.length c).ownBlock:=⟨L.os,L.tape,L.output,Fo (by simp) L.size,fun k hk V=>(L.block k (by simp;omega) V).trans (Fq w _ k hk)⟩
 refine⟨A',Q,w',hr,⟨?_,?_⟩,J⟩
 ·have e:cU l++iL d=cU (l++[d]):=by simp[cU]
  rw[e] at q1
  rw[Gb]
  exact q1
 ·have h:∀ x∈l++[d],aJ w (eV B A l.length c) x.1 x.2.1 x.2.2:=by
   intro x I
   rcases F7.1 I with I|I
   ·exact r.trees x I
   ·rw[F0.1 I]
    exact hd
  intro x I
  refine⟨(h x I).le,(h x I).tree.imp J.size (fun b off hb U j _=>?_) (fun b off hb U=>⟨U.1,?_⟩)⟩
  ·exact Fu (w:=w) (J.block b hb fun e=>U.2 e.symm)
  ·rw[Gb]
   rcases O with O|O
   ·intro e
    exact U.2 (O.symm.trans e)
   ·intro e
    have:=O.symm.trans e
    injection this with this
    simp at this
    omega
theorem BJ (w:World) {ops:Array Oper} {o:Oper} {a:Act} {K:Act->World->Prop} {Q:Exit->Act->World->Prop} {E:Prop} (J:o.guard=none) (s x:Operand)
  (X:o.op=.call { callee:=.builtin .append,args:=#[s,x],argTypes:=#[25,25] }) (B:Nat) (A:Option Addr) (c:Nat) (l:List oZ) (n:Nat) (hn:l.length=n) (d:oZ) (g:Nat) (V:w.heap.size=g)
  (hs:a.eval s=.slice A n c) (r:eF w B A c l) (hd:aJ w (eV B A n c) d.1 d.2.1 d.2.2) (hx:a.eval x=.slice (some ⟨g,0,none⟩) 1 1) (hl:n<=1000000) (U:B<=w.heap.size)
  (h:∀ A' I w',eF w' B A' I (l++[d])->w.grownBy w' (Value.slice A n c).ownBlock->K (a.put o.dst (.slice A' (n+1) I)) w'):
  if Region.wanted o (yielded ops a.tmps)=true then Oper.wp Tryz.prog o a (w.alloc (dr d.1 d.2.1 d.2.2)) K Q else E:=by
 have hw:Region.wanted o (yielded ops a.tmps)=true:=by simp[Region.wanted,J]
 rw[Fx hw]
 obtain⟨A',I,w',Z,L,O⟩:=pZ w o.type B A c l n hn d g V r hd hl U
 unfold Oper.wp
 simp[execOp,X,resolve,invoke,builtin,hs,hx,Z,Result.andThen]
 exact h A' I w' L O
theorem take_cons {α:Type} {l:List α} {i j:Nat} {t:α} {r:List α} (I:i<j) (h:l.drop i=t::r):(l.drop i).take (j-i)=t::(r.take (j-(i+1)))/\r=l.drop (i+1):=by
 have e:r=l.drop (i+1):=by
  have:=G1 (List.drop 1) h
  rw[GF] at this
  simpa using this.symm
 refine⟨?_,e⟩
 rw[h,show j-i=(j-(i+1))+1 by omega,GG]
theorem yf {α:Type} {l m l':List α} {c:α} {i j:Nat} (L:j<=l.length) (h:(l.drop i).take (j-i)=m++c::l'):i+m.length+1<=j/\(l.drop i).take m.length=m/\(l.drop (i+m.length+1)).take (j-(i+m.length+1))=l'/\l.drop i=m++c::l.drop (i+m.length+1):=by
 have hl:=G1 List.length h
 rw[FK,FU,Gb,FG] at hl
 have I:i+m.length+1<=j:=by omega
 have J:(l.drop i).take m.length=m:=by
  have:=G1 (List.take m.length) h
  rw[List.take_take,G6 (by omega),FN] at this
  exact this
 have r:(l.drop (i+m.length+1)).take (j-(i+m.length+1))=l':=by
  have:=G1 (List.drop (m.length+1)) h
  rw[List.drop_take,GF,show m.length+1=(m++[c]).length by simp,show m++c::l'=(m++[c])++l' by simp,List.drop_left] at this
  rw[<-this]
  simp only[Gb,FG,He]
  rw[show i+m.length+1=i+(m.length+(0+1)) by omega,show j-(i+(m.length+(0+1)))=j-i-(m.length+(0+1)) by omega]
 refine⟨I,J,r,?_⟩
 rw[<-FM (j-i) (l.drop i),h,GF,F3,FZ]
 congr 2
 have:=FM (j-(i+m.length+1)) (l.drop (i+m.length+1))
 rw[r,GF] at this
 rw[<-this]
 congr 2
 omega
theorem Ck:∀ (k:Nat) (w:World) (A:Option Addr) (n c:Nat) (l:List aG) (a z:Nat) (M:List Sx),z-a<=k->oQ w A n l->n<=1000000->a<=z->z<=n->Reads ((l.drop a).take (z-a)) M->
  Calls Tryz.prog 179 #[.slice A n c,.int .i64 (a:Nat),.int .i64 (z:Nat)] w fun e w'=>
   (∃ A' O,e=.returned (.slice A' M.length O)/\M.length<=O/\O<=maxLen/\au w' (fun b _=>w.heap.size<=b) A' M)/\Below w.heap.size w w':=by
 intro k
 induction k using Nat.strongRecOn with
 |_ k ih=>
  intro w A n c l a z M hk h hn ha hz hr
  have HH:=Gn h
  have HR:=Gn hr
  have HK:=Gn hk
  clear h hr hk
  go_enter Tryz.func179,Tryz.ntmps179
  go_wp2
  go_loopw [7,8] (fun ov iv wr=>∃ (i m:Nat) (A':Option Addr) (O:Nat) (lx:List oZ) (L:List Sx),a<=i/\i<=z/\m<=i/\iv=.int .i64 (i:Nat)/\ov=.slice A' m O/\Below w.heap.size w wr/\
   Hid (eF wr w.heap.size A' O lx/\lx.length=m/\lx.map (·.1)++L=M/\Reads ((l.drop i).take (z-i)) L)) (fun _ iv _=>z-(intOf iv).toNat)
  case atStart=>exact⟨a,0,none,0,[],M,Fm _,ha,Fz _,rfl,rfl,Gp _ _,eF.nil _ _,rfl,rfl,HR.out⟩
  case round=>
   obtain⟨i,m,A',O,lx,L,bP,b4,b6,rfl,rfl,hb,HI⟩:=hrel
   have HB:=Gn hb
   by_cases a1:i<z
   ·obtain⟨b,off,x,rfl,hx,ad,hc⟩:=HH.out.get (i:=i) (by omega)
    obtain⟨z0,z1,z2,z3⟩:=hc wr hb
    obtain⟨I,Q,J,r⟩:=HI.out
    have ao:=r
    obtain⟨ba,ah⟩:=take_cons a1 ad
    rw[ba] at r
    have b3:(i:Int)<(n:Int):=by omega
    have bT:(0:Int)<=(i:Int):=by omega
    have bL:(i:Int)<(z:Int):=by omega
    have HO:=Gn I
    have HM:=Gn Q
    have HL:=Gn J
    rcases r.inv with⟨e1,e2,L',rfl,V⟩|⟨e1,cb,m',M',l',L',e,bo,a7,rfl,V⟩
    ·have b1:(x.1 != 1)=true:=bne_iff_ne.2 e1
     rw[ah] at V
     have HN:=Gn V
     have bz:Hid (∀ W,Below wr.heap.size wr W->eF W w.heap.size A' O lx/\w.heap.size<=W.heap.size/\Below w.heap.size w W):=fun W X=>⟨HO.out.kept X,Fo HB.out.size X.size,HB.out.trans (X.mono HB.out.size)⟩
     have U:Below wr.heap.size wr wr.drew:=⟨rfl,rfl,rfl,Fm _,fun _ _=>rfl⟩
     obtain⟨o2,s2,b2⟩:=bz.out _ U
     have O2:=Gn o2
     have B2:=Gn b2
     have KS:Hid (∀ W,Below w.heap.size w W->W.cell? ⟨b,off+i*3,none⟩=some (.int .i64 x.1)/\W.cell? ⟨b,off+i*3+1,none⟩=some (.string x.2.1)/\W.cell? ⟨b,off+i*3+2,none⟩=some (.int .i64 x.2.2)/\b<W.heap.size):=fun W X=>by obtain⟨q0,q1,q2,q3⟩:=hc W X;exact⟨q1,q2,q3,q0⟩
     have HS:=Gn (KS.out _ b2)
     clear r ao I Q J HI hb ba ah V hx ad hc e1 e2 a1 o2 b2 U s2
     go_wp2
     go_region_held3 (fun W'=>W'.cell? ⟨b,off+i*3,none⟩=some (.int .i64 x.1)/\W'.cell? ⟨b,off+i*3+1,none⟩=some (.string x.2.1)/\W'.cell? ⟨b,off+i*3+2,none⟩=some (.int .i64 x.2.2)/\b<W'.heap.size)
      (first|(with_reducible exact HS.out)|exact KS.out _ (B2.out.alloc B2.out.size _)|exact KS.out _ B3.out)
      ((refine BJ wr.drew rfl (.tmp 23) (.tmp 34) (by rfl) w.heap.size A' O lx m HM.out (Sx.atom x,none,0) wr.heap.size rfl (by rfl) O2.out ⟨⟨Fm _,Fz _⟩,.nil _⟩ (by rfl) (by omega) B2.out.size ?_;intro A3 c3 w3 o3 g3;have O3:=Gn o3;have B3:=Gn (B2.out.grown g3 B2.out.size (fun q hq=>(O2.out.lt HM.out hq).1));clear o3))
     go_wp2
     go_roundw
     case rel=>exact⟨i+1,m+1,A3,c3,lx++[(Sx.atom x,none,0)],L',by omega,by omega,by omega,by go_num,rfl,B3.out,⟨O3.out,by rw[Gb,HM.out];rfl,by rw[Hf,F3];exact HL.out,HN.out⟩⟩
     case measure=>simp[intOf];omega
    ·have b1:(x.1 != 1)=false:=by simp[e1]
     have hw:=yf (l:=l) (j:=z) (by rw[HH.out.len];exact hz) (show(l.drop (i+1)).take (z-(i+1))=m'++cb::l' by rw[<-ah];exact e)
     obtain⟨w1,w2,w3,w4⟩:=hw
     have bp:cJ 0 0 (l.drop i)=some (m'.length+2,Sx.bf M'+1):=by
      rw[ad,w4]
      exact a7.closing e1 bo _
     have HC:=Gn fun W (X:Below wr.heap.size wr W)=>qs W (some ⟨b,off,none⟩) n c l i x (HH.out.below (hb.trans (X.mono hb.size))) hx e1 hn
     rw[bp] at HC
     obtain⟨p,hp⟩:∃ p,m'.length=p:=⟨_,rfl⟩
     have Z:=fun W (X:Below w.heap.size w W)=>ih p (by have:=HK.out;omega) W (some ⟨b,off,none⟩) n c l (i+1) (i+1+p) M' (by omega) (HH.out.below X) hn (by omega) (by omega) (by rw[show i+1+p-(i+1)=p by omega,<-hp,w2];exact a7)
     rw[hp] at HC w1 w3 w4
     have bE:((i+1:Nat):Int)=(i:Int)+1:=by omega
     have hq:((i+1+p:Nat):Int)=(i:Int)+((p:Int)+1):=by omega
     have b7:IntKind.i64.wrap ((i:Int)+1)=(i:Int)+1:=GR _ (by omega)
     obtain⟨dd,bx⟩:∃ d,Sx.bf M'+1=d:=⟨_,rfl⟩
     rw[bx] at HC
     rw[bE,hq] at Z
     have bn:=Gn Z
     have HN:=Gn V
     have bB:=Gn w3
     have U:Below wr.heap.size wr wr.drew:=⟨rfl,rfl,rfl,Fm _,fun _ _=>rfl⟩
     have B2:=Gn (HB.out.trans (U.mono HB.out.size))
     have bl:=Gn U
     have KS:Hid (∀ W,Below w.heap.size w W->W.cell? ⟨b,off+i*3+2,none⟩=some (.int .i64 x.2.2)/\b<W.heap.size):=fun W X=>by obtain⟨q0,q1,q2,q3⟩:=hc W X;exact⟨q3,q0⟩
     have HS:=Gn (KS.out _ B2.out)
     have HG:Hid (∀ W:World,∀ b _off,b<W.heap.size->wr.drew.heap.size<=b->eV w.heap.size A' m O b _off):=fun W b _ _ hb=>⟨Fo B2.out.size hb,fun e=>absurd (HO.out.lt HM.out e).2 (Nat.not_lt.2 hb)⟩
     clear r ao I Q J HI hb ba ah V hx ad hc e1 a1 e bo a7 bp hp Z bx w2 w3 w4 U
     go_wp2_with (go_at_call 178;refine(HC.out _ (Gp _ _)).mono ?_;rintro e w4 ⟨⟨y,y',rfl,rfl,rfl⟩,rfl⟩)
     go_region_held3 (fun W'=>W'.cell? ⟨b,off+i*3+2,none⟩=some (.int .i64 x.2.2)/\b<W'.heap.size)
      (first|(with_reducible exact HS.out)|(with_reducible exact KS.out _ B3.out)|(with_reducible exact KS.out _ (B3.out.alloc B3.out.size _))|(with_reducible exact KS.out _ B4.out))
      (first
       |(go_at_call 179;(with_reducible refine(bn.out _ ?_).mono ?_);(with_reducible exact B2.out);rintro e w5 ⟨⟨A2,c2,rfl,bC,bD,t2⟩,b5⟩;have B3:=Gn (B2.out.trans (b5.mono B2.out.size));have O2:=Gn (HO.out.kept (bl.out.trans (b5.mono bl.out.size)));have T2:=Gn (Ig (Ig bC bD) t2);clear b5 t2)
       |(refine BJ w5 rfl (.tmp 42) (.tmp 54) (by rfl) w.heap.size A' O lx m HM.out (Sx.node x.2.2 M',A2,c2) _ rfl (by rfl) O2.out ⟨T2.out.1,T2.out.2.mono (HG.out _)⟩ (by rfl) (by omega) B3.out.size ?_;intro A3 c3 w3 o3 g3;have O3:=Gn o3;have B4:=Gn (B3.out.grown g3 B3.out.size (fun q hq=>(O2.out.lt HM.out hq).1));clear o3))
     go_wp2
     go_roundw
     case rel=>exact⟨i+1+p+1,m+1,A3,c3,lx++[(Sx.node x.2.2 M',A2,c2)],L',by omega,by omega,by omega,by go_num,rfl,B4.out,⟨O3.out,by rw[Gb,HM.out];rfl,by rw[Hf,F3];exact HL.out,by rw[bB.out];exact HN.out⟩⟩
     case measure=>simp[intOf];omega
   ·obtain rfl:i=z:=by omega
    obtain⟨I,Q,J,r⟩:=HI.out
    rw[Nat.sub_self,G8] at r
    have hL:L=[]:=by cases r;rfl
    subst hL
    rw[GH] at J
    have HE:Hid ((∃ bb av,Ending.returned (.slice A' m O)=.returned (.slice bb M.length av)/\M.length<=av/\av<=maxLen/\au wr (fun b _=>w.heap.size<=b) bb M)/\Below w.heap.size w wr):=by
     have hlen:m=M.length:=by rw[<-J,Fi,Q]
     refine⟨⟨A',O,by rw[hlen],?_,I.parts.2.1,?_⟩,hb⟩
     ·have:=I.parts.1;omega
     ·rw[<-J];exact I.tree
    clear I Q J r HI hb
    go_wp2
    go_ret
    exact HE.out
structure aE where
 X:Sx
 A:Option Addr
 c:Nat
 E:Int
 at_:Int
abbrev aE.pure (x:aE):bZ:=⟨x.X,x.E,x.at_⟩
abbrev gj (x:aE):List Value:=[.bool x.X.list,.int .i64 x.X.k,.string x.X.T,.int .i64 x.X.ta,.int .i64 x.X.at_,.slice x.A x.X.L.length x.c,.int .i64 x.E,.int .i64 x.at_]
abbrev CD (x:aE):Obj:=.cells #[.bool x.X.list,.int .i64 x.X.k,.string x.X.T,.int .i64 x.X.ta,.int .i64 x.X.at_,.slice x.A x.X.L.length x.c,.int .i64 x.E,.int .i64 x.at_] 163
abbrev aL (l:List aE):List Value:=l.flatMap gj
theorem uG (l:List aE):(aL l).length=l.length*8:=by
 induction l with
 |nil=>rfl
 |cons x l h=>rw[aL,GI,Gb,<-aL,h,FG];simp;omega
theorem DH:(Tryz.prog.info? 163).map (fun i=>(i.zero,i.size,i.bytes))=some (some (.agg #[.bool false,.int .i64 0,.string ByteArray.empty,.int .i64 0,.int .i64 0,.slice none 0 0,.int .i64 0,.int .i64 0]),8,88):=by kernel_rfl
theorem wv:∀ (l:List aE) (i:Nat) (x:aE),l[i]?=some x->∀ j,j<8->(aL l)[i*8+j]?=(gj x)[j]?
 |[],i,x,h=>by simp at h
 |y::l,0,x,h=>by
  obtain rfl:y=x:=by simpa using h
  intro j r
  rw[aL,GI,Hx,FA,FO (by simp;omega)]
 |y::l,i+1,x,h=>by
  intro j r
  rw[<-wv l i x (by simpa using h) j r,aL,GI,show(i+1)*8+j=(gj y).length+(i*8+j) by simp;omega,Ga (by omega),II]
theorem C5 (l:List aE):∀ u∈aL l,u.oneCell'=true:=by
 intro u hu
 obtain⟨x,_,hu⟩:=GJ.1 hu
 simp[gj] at hu
 rcases hu with rfl|rfl|rfl|rfl|rfl|rfl|rfl|rfl <;> rfl
structure dm (w:World) (B:Nat) (A:Option Addr) (c:Nat) (l:List aE):Prop where
 row:w.ownsRow B 163 8 (.slice A l.length c) l.length (aL l)
 trees:∀ x∈l,aJ w (eV B A l.length c) x.X x.A x.c
theorem dm.nil (w:World) (B:Nat):dm w B none 0 []:=⟨Gg _ _ _ _,fun _ h=>absurd h FD⟩
theorem dm.kept {w w':World} {B:Nat} {A:Option Addr} {c:Nat} {l:List aE} (h:dm w B A c l) (hb:Below w.heap.size w w'):dm w' B A c l:=
 ⟨(ae.af (F:=fun _=>False) hb).own h.row (fun _ _=>id),fun x r=>(h.trees x r).kept hb⟩
theorem dm.lt {w:World} {B:Nat} {A:Option Addr} {c n:Nat} {l:List aE} (h:dm w B A c l) (hn:l.length=n) {q:Nat} (r:(Value.slice A n c).ownBlock=some q):B<=q/\q<w.heap.size:=by
 subst hn
 exact h.row.lt q r
theorem dm.parts {w:World} {B:Nat} {A:Option Addr} {c:Nat} {l:List aE} (h:dm w B A c l):l.length<=c/\c<=maxLen/\((A=none/\l=[])\/∃ g,A=some ⟨g,0,none⟩/\B<=g/\g<w.heap.size):=by
 rcases h.row.2 with⟨e,hn⟩|⟨g,cap,cur,e,hb,L,hc,hm,_⟩
 ·injection e with r J I
  exact⟨by omega,by rw[I];exact Fz _,.inl ⟨r,FV hn⟩⟩
 ·injection e with r J I
  subst I
  exact⟨hc,hm,.inr ⟨g,r,hb,(Fl.1 L).1⟩⟩
theorem dm.its {w:World} {B:Nat} {A:Option Addr} {c n:Nat} {l:List aE} (h:dm w B A c l) (hn:l.length=n):Es w A n (l.map aE.pure):=by
 subst hn
 refine⟨by rw[Fi],fun L=>?_⟩
 rcases h.parts with⟨_,_,⟨rfl,rfl⟩|⟨g,rfl,Q,I⟩⟩
 ·exact absurd L (by simp)
 ·refine⟨g,0,rfl,fun i x J=>?_⟩
  rw[Fj] at J
  obtain⟨y,hy,rfl⟩:=FT.1 J
  have r:=fun j (O:j<8) u (hu:(gj y)[j]?=some u)=>h.row.cells (g:=g) rfl (i*8+j) u ((wv l i y hy j O).trans hu)
  have a:∀ j,(⟨g,0,none⟩:Addr).add j=⟨g,0+j,none⟩:=fun j=>addr_add g 0 j
  simp only[a] at r
  have ht:=h.trees y (FP hy)
  refine⟨y.A,y.c,⟨I,r 0 (by decide) _ rfl,?_,?_,?_,?_,?_⟩,⟨ht.le,ht.tree.mono fun _ _ _ _=>trivial⟩,?_,?_⟩
  ·rw[Ie];exact r 1 (by decide) _ rfl
  ·rw[Ie];exact r 2 (by decide) _ rfl
  ·rw[Ie];exact r 3 (by decide) _ rfl
  ·rw[Ie];exact r 4 (by decide) _ rfl
  ·rw[Ie];exact r 5 (by decide) _ rfl
  ·rw[Ie];exact r 6 (by decide) _ rfl
  ·rw[Ie];exact r 7 (by decide) _ rfl
theorem lO (w:World) (x0 h r I J L O Q:Value) (t:TypeId):∀ j u,[x0,h,r,I,J,L,O,Q][j]?=some u->(w.alloc (.cells #[x0,h,r,I,J,L,O,Q] t)).cell? ((⟨w.heap.size,0,none⟩:Addr).add j)=some u:=by
 intro j u hu
 have l:=aa.new w t #[x0,h,r,I,J,L,O,Q]
 rw[addr_add,FA,l.cell j,<-hu]
 simp
theorem qR (w:World) (ty:TypeId) (B:Nat) (A:Option Addr) (c:Nat) (l:List aE) (n:Nat) (hn:l.length=n) (d:aE) (g:Nat) (hg:w.heap.size=g) (r:dm w B A c l) (hd:aJ w (eV B A n c) d.X d.A d.c) (hl:n<=1000000) (hB:B<=w.heap.size):
  ∃ A' Q w',(Builtin.append_ #[160,160] ty #[.slice A n c,.slice (some ⟨g,0,none⟩) 1 1]).run Tryz.prog (w.alloc (CD d))=.ok (.slice A' (n+1) Q) w'/\dm w' B A' Q (l++[d])/\w.grownBy w' (Value.slice A n c).ownBlock:=by
 subst hn
 subst hg
 obtain⟨i0,hi,Z,ad,ah⟩:=Gj DH
 obtain⟨v',w',hr,q1,L,_,O⟩:=Fy (P:=Tryz.prog) (w.alloc (CD d)) B 160 ty 163 i0 (.agg #[.bool false,.int .i64 0,.string ByteArray.empty,.int .i64 0,.int .i64 0,.slice none 0 0,.int .i64 0,.int .i64 0]) 8 88 Tryz.underlying160 hi Z ad ah rfl (by decide) (.slice A l.length c) l.length (aL l)
  (Gk r.row _) ⟨w.heap.size,0,none⟩ 1 1 (gj d) rfl (lO _ _ _ _ _ _ _ _ _ _) (fun u hu=>C5 [d] u (by simpa [aL] using hu)) (by unfold maxLen;omega) (by omega) (by simp;omega)
 obtain⟨A',Q,rfl⟩:=aI q1
 have J:w.grownBy w' (Value.slice A l.length c).ownBlock:=⟨L.os,L.tape,L.output,Fo (by simp) L.size,fun k hk V=>(L.block k (by simp;omega) V).trans (Fq w _ k hk)⟩
 refine⟨A',Q,w',hr,⟨?_,?_⟩,J⟩
 ·have e:aL l++gj d=aL (l++[d]):=by simp[aL]
  rw[e] at q1
  rw[Gb]
  exact q1
 ·have h:∀ x∈l++[d],aJ w (eV B A l.length c) x.X x.A x.c:=by
   intro x I
   rcases F7.1 I with I|I
   ·exact r.trees x I
   ·rw[F0.1 I]
    exact hd
  intro x I
  refine⟨(h x I).le,(h x I).tree.imp J.size (fun b off hb U j _=>?_) (fun b off hb U=>⟨U.1,?_⟩)⟩
  ·exact Fu (w:=w) (J.block b hb fun e=>U.2 e.symm)
  ·rw[Gb]
   rcases O with O|O
   ·intro e
    exact U.2 (O.symm.trans e)
   ·intro e
    have:=O.symm.trans e
    injection this with this
    simp at this
    omega
theorem eJ (w:World) {ops:Array Oper} {rest:List Oper} {o:Oper} {a:Act} {Q:Exit->Act->World->Prop} (J:o.guard=none) (s x:Operand)
  (ho:o.op=.call { callee:=.builtin .append,args:=#[s,x],argTypes:=#[160,160] }) (B:Nat) (A:Option Addr) (c:Nat) (l:List aE) (n:Nat) (hn:l.length=n) (d:aE) (g:Nat) (Z:w.heap.size=g)
  (hs:a.eval s=.slice A n c) (r:dm w B A c l) (hd:aJ w (eV B A n c) d.X d.A d.c) (hx:a.eval x=.slice (some ⟨g,0,none⟩) 1 1) (hl:n<=1000000) (U:B<=w.heap.size)
  (h:∀ A' I w',dm w' B A' I (l++[d])->w.grownBy w' (Value.slice A n c).ownBlock->wpList Tryz.prog ops Q rest (a.put o.dst (.slice A' (n+1) I)) w'):
  wpList Tryz.prog ops Q (o::rest) a (w.alloc (CD d)):=by
 refine wpList_plain J fun K V=>?_
 obtain⟨A',I,w',hr,L,O⟩:=qR w o.type B A c l n hn d g Z r hd hl U
 unfold Oper.wp execOp
 simp only[ho,resolve,invoke,builtin,Sem.run_bind,Sem.run_pure,Result.andThen_ok,List.map_toArray,GK,GL,hs,hx,hr]
 exact V _ _ (h A' I w' L O)
end Go.Proofs.YtdbgiijdgedggaaGreatDoor
