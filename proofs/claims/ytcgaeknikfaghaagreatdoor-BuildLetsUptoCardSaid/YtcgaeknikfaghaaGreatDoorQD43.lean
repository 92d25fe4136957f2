/- What the proofs of this claim use, text by text. -/
import Derived.Test.YtcgaeknikfaghaaGreatDoorQD36
import Derived.StillTailTactics
set_option linter.unusedSimpArgs false
set_option linter.unusedVariables false
set_option maxRecDepth 100000
set_option maxHeartbeats 25600000
namespace Go.Proofs.YtcgaeknikfaghaaGreatDoor
mutual
def Bd.repl (s:ByteArray) (b:Sx):Sx→Option Sx
 |⟨list,k,T,ta,a,L⟩=>if list=true then(match Bd.repls s b true L with
  |some m=>some ⟨true,0,ByteArray.empty,0,a,m⟩
  |none=>none) else if k=3∧T=s then some b else some ⟨list,k,T,ta,a,L⟩
def Bd.repls (s:ByteArray) (b:Sx) (first:Bool):List Sx→Option (List Sx)
 |[]=>some []
 |x::l=>if first=true∧x.list=false∧(x.T=s∨x.T.data.toList=[108,101,116]) then none else match Bd.repl s b x with
  |some y=>match Bd.repls s b false l with
   |some m=>some (y::m)
   |none=>none
  |none=>none
end
theorem Bd.repl_list {s:ByteArray} {b x y:Sx} (hl:x.list=true) (h:Bd.repl s b x=some y):∃ m,Bd.repls s b true x.L=some m∧y.list=true∧y.L=m:=by
 obtain⟨l,k,T,ta,a,L⟩:=x
 simp only at hl
 subst hl
 rw[Bd.repl,if_pos rfl] at h
 cases hm:Bd.repls s b true L with
 |none=>rw[hm] at h;cases h
 |some m=>rw[hm] at h;cases h;exact⟨m,rfl,rfl,rfl⟩
theorem Bd.repl_atom {s:ByteArray} {b x y:Sx} (hl:x.list=false) (h:Bd.repl s b x=some y):(x.k=3∧x.T=s∧y=b)∨(¬(x.k=3∧x.T=s)∧y=x):=by
 obtain⟨l,k,T,ta,a,L⟩:=x
 simp only at hl
 subst hl
 rw[Bd.repl,if_neg (by decide)] at h
 split at h
 ·rename_i e;cases h;exact .inl ⟨e.1,e.2,rfl⟩
 ·rename_i e;cases h;exact .inr ⟨e,rfl⟩
theorem Bd.repls_cons {s:ByteArray} {b x:Sx} {f:Bool} {l m:List Sx} (h:Bd.repls s b f (x::l)=some m):¬(f=true∧x.list=false∧(x.T=s∨x.T.data.toList=[108,101,116]))∧∃ y m',Bd.repl s b x=some y∧Bd.repls s b false l=some m'∧m=y::m':=by
 rw[Bd.repls] at h
 split at h
 ·cases h
 ·rename_i hn
  cases h1:Bd.repl s b x with
  |none=>rw[h1] at h;cases h
  |some y=>
   cases h2:Bd.repls s b false l with
   |none=>rw[h1,h2] at h;cases h
   |some m'=>rw[h1,h2] at h;cases h;exact⟨hn,y,m',rfl,rfl,rfl⟩
theorem Bd.repls_len {s:ByteArray} {b:Sx}:∀ {f:Bool} {l m:List Sx},Bd.repls s b f l=some m→m.length=l.length
 |f,[],m,h=>by rw[Bd.repls] at h;cases h;rfl
 |f,x::l,m,h=>by
  obtain⟨_,y,m',_,h2,rfl⟩:=Bd.repls_cons h
  rw[List.length_cons,List.length_cons,Bd.repls_len h2]
theorem Bd.each_repl {f g:List Nd→Sx→Bans} {s:ByteArray} {b:Sx} {N1:List Nd}:∀ (l m:List Sx) (M:List Nd),Tm.Inv M→N1<+:M→Bd.repls s b false l=some m→
  (∀ x∈l,∀ y,Bd.repl s b x=some y→∀ M,Tm.Inv M→N1<+:M→f M x=g M y∧Bd.St (fun N=>f N x) M)→Bd.each f M l=Bd.each g M m
 |[],m,M,_,_,h,_=>by rw[Bd.repls] at h;cases h;rfl
 |x::l,m,M,hM,hp,h,hf=>by
  obtain⟨_,y,m',h1,h2,rfl⟩:=Bd.repls_cons h
  obtain⟨e1,q1,q2,_⟩:=hf x List.mem_cons_self y h1 M hM hp
  rw[Bd.each,Bd.each,←e1]
  cases ho:f M x with
  |mk N' r=>
   obtain⟨id,e⟩:=r
   simp only[ho] at q1 q2 ⊢
   rw[Bd.each_repl l m' N' q1 (hp.trans q2) h2 fun z hz=>hf z (List.mem_cons_of_mem _ hz)]
theorem Bd.not_true {s:ByteArray} (h:Bd.reserved s.data.toList=false):¬(s.data.toList=[116,114,117,101]∨s.data.toList=[102,97,108,115,101]):=by
 rintro(e|e) <;> rw[e] at h <;> exact absurd h (by decide)
theorem Bd.placed (D:List Dc) (k:Nat) (s:ByteArray) (b:Sx) (t:Int) (N1:List Nd) (hs:Bd.reserved s.data.toList=false) (ht:0≤t∧t<N1.length)
  (hb:∀ M,Tm.Inv M→N1<+:M→Bd.tm D k [] M b=(M,t,0)):
  ∀ (n:Nat) (x y:Sx),x.size≤n→Bd.repl s b x=some y→∀ M,Tm.Inv M→N1<+:M→Bd.tm D k [(s,t)] M x=Bd.tm D k [] M y
 |0,x,_,hx,_,_,_,_=>absurd x.size_pos (by omega)
 |n+1,x,y,hx,h,M,hM,hp=>by
  have ih:∀ a,a.size<x.size→∀ c,Bd.repl s b a=some c→∀ M,Tm.Inv M→N1<+:M→Bd.tm D k [(s,t)] M a=Bd.tm D k [] M c∧Bd.St (fun N=>Bd.tm D k [(s,t)] N a) M:=fun a ha c hc M hM hp=>
   ⟨Bd.placed D k s b t N1 hs ht hb n a c (by omega) hc M hM hp,(Bd.good D k a [(s,t)] M hM fun p hm=>by
    obtain rfl:p=t:=by simpa using hm
    have:=hp.length_le
    omega).1⟩
  by_cases hl:x.list=true
  ·obtain⟨m,hm,hl2,hL2⟩:=Bd.repl_list hl h
   rw[Bd.tm_eq,Bd.tm_eq]
   unfold Bd.step
   rw[if_pos hl,if_pos hl2,hL2]
   unfold Bd.listF
   cases hL:x.L with
   |nil=>
    rw[hL,Bd.repls] at hm
    cases hm
    rfl
   |cons h r=>
    rw[hL] at hm
    obtain⟨hn,h',r',e1,e2,rfl⟩:=Bd.repls_cons hm
    simp only
    by_cases hh:h.list=true
    ·obtain⟨_,_,hh2,_⟩:=Bd.repl_list hh e1
     rw[if_pos (.inl hh),if_pos (.inl hh2)]
    ·have hh:h.list=false:=by simpa using hh
     have hT:¬h.T=s∧¬h.T.data.toList=[108,101,116]:=by
      rw[←not_or]
      exact fun e=>hn ⟨rfl,hh,e⟩
     rcases Bd.repl_atom hh e1 with⟨_,e,_⟩|⟨_,rfl⟩
     ·exact absurd e hT.1
     ·have hr:∀ y∈r,y.size<x.size:=fun y hy=>Sx.size_lt (by rw[hL];exact List.mem_cons_of_mem _ hy)
      rw[if_neg hT.2,if_neg hT.2,Bd.repls_len e2,Bd.each_repl r r' M hM hp e2 fun a ha c hc M hM hp=>ih a (hr a ha) c hc M hM hp]
      have hbd:Bd.bound [(s,t)] h'.T=none:=by
       rw[Bd.bound,Bd.bound]
       exact if_neg fun e=>hT.1 e.symm
      rw[hbd]
      rfl
  ·have hl:x.list=false:=by simpa using hl
   rcases Bd.repl_atom hl h with⟨h1,h2,rfl⟩|⟨h1,rfl⟩
   ·rw[hb M hM hp,Bd.tm_eq]
    unfold Bd.step Bd.atomF Bd.nameF
    rw[if_neg (by rw[hl];decide),h1,h2,if_neg (by decide),if_neg (by decide),if_pos rfl,if_neg (Bd.not_true hs),hs,if_neg (by decide)]
    have hbd:Bd.bound [(s,t)] s=some t:=by
     rw[Bd.bound,Bd.bound]
     exact if_pos rfl
    rw[hbd]
   ·rw[Bd.tm_eq,Bd.tm_eq]
    unfold Bd.step Bd.atomF Bd.nameF
    have hl':¬y.list=true:=by rw[hl];decide
    rw[if_neg hl',if_neg hl']
    by_cases h3:y.k=3
    ·have hbd:Bd.bound [(s,t)] y.T=none:=by
      rw[Bd.bound,Bd.bound]
      exact if_neg fun e=>h1 ⟨h3,e.symm⟩
     rw[hbd]
     rfl
    ·rw[if_neg h3,if_neg h3]
theorem Bd.lets (D:List Dc) (k:Nat) (s:ByteArray) (b x y w:Sx) (N:List Nd) (hI:Tm.Inv N) (hs:Bd.reserved s.data.toList=false) (hr:Bd.repl s b x=some y)
  (hw:∃ h l q n,w.list=true∧w.L=[h,l,x]∧h.list=false∧h.k=3∧h.T.data.toList=[108,101,116]∧l.list=true∧l.L=[q]∧q.list=true∧q.L=[n,b]∧n.list=false∧n.k=3∧n.T=s)
  (he:(Bd.tm D k [] N b).2.2=0):
  Bd.tm D k [] (Bd.tm D k [] (Bd.tm D k [] N b).1 w).1 y=Bd.tm D k [] (Bd.tm D k [] N b).1 w:=by
 obtain⟨⟨g1,g2,g3,g4⟩,g5⟩:=Bd.good D k b [] N hI (fun p hp=>by simp at hp)
 cases ho:Bd.tm D k [] N b with
 |mk N1 r=>
  obtain⟨t,e⟩:=r
  simp only[ho] at g1 g2 g3 he ⊢
  have g5:=g5.1 (by rw[ho];exact he)
  rw[ho] at g5
  simp only at g5
  subst he
  have hb:∀ M,Tm.Inv M→N1<+:M→Bd.tm D k [] M b=(M,t,0):=g3 rfl
  obtain⟨h,l,q,n,w1,w2,w3,w4,w5,w6,w7,w8,w9,w10,w11,w12⟩:=hw
  have hm:Bd.binds l.L=some [(s,b)]:=by
   rw[w7]
   unfold Bd.binds Bd.binds Bd.bind1
   rw[w9]
   simp only[w8,w10,w11,w12]
   rfl
  have hlet:Bd.tm D k [] N1 w=Bd.tm D k [(s,t)] N1 x:=by
   rw[Bd.tm_eq]
   unfold Bd.step Bd.listF
   rw[if_pos w1,w2]
   simp only
   rw[if_neg (by rw[w3,w4];decide),if_pos w5,Bd.letF_eq (Bd.tm D k) [] N1 l x w6 hm (by simp[hs]) (by simp[Bd.twice])]
   have hE:Bd.each (Bd.tm D k []) N1 (List.map (·.2) [(s,b)])=(N1,[t],0):=by
    show Bd.each (Bd.tm D k []) N1 [b]=_
    rw[Bd.each,hb N1 g1 (List.prefix_refl _)]
    rfl
   rw[Bd.andThen_ok (o:=fun N=>Bd.each (Bd.tm D k []) N (List.map (·.2) [(s,b)])) hE]
   rfl
  rw[hlet]
  have hin:Bd.In N1 (List.map (·.2) [(s,t)]):=fun p hm=>by
   obtain rfl:p=t:=by simpa using hm
   exact g5
  obtain⟨⟨k1,k2,_,_⟩,_⟩:=Bd.good D k x [(s,t)] N1 g1 hin
  have:=Bd.again D k [(s,t)] N1 x g1 hin
  rw[←Bd.placed D k s b t N1 hs g5 hb x.size x y (Nat.le_refl _) hr _ k1 k2]
  exact this
end Go.Proofs.YtcgaeknikfaghaaGreatDoor
namespace Go.Proofs.YtcgaeknikfaghaaGreatDoor
open Go.RowKit
theorem Bd.repl_l {s:ByteArray} {b x:Sx} (h:x.list=true):Bd.repl s b x=match Bd.repls s b true x.L with
  |some m=>some ⟨true,0,ByteArray.empty,0,x.at_,m⟩
  |none=>none:=by
 obtain⟨l,k,T,ta,a,L⟩:=x
 simp only at h ⊢
 subst h
 rw[Bd.repl,if_pos rfl] <;> (cases Bd.repls s b true L <;> rfl)
theorem Bd.repl_a {s:ByteArray} {b x:Sx} (h:x.list=false):Bd.repl s b x=if x.k=3∧x.T=s then some b else some x:=by
 obtain⟨l,k,T,ta,a,L⟩:=x
 simp only at h
 subst h
 rw[Bd.repl,if_neg (by decide)]
theorem STree.mono' {w:World} {G G':Nat→Nat→Prop} {x:Sx} {A:Option Addr} {c:Nat} (h:STree w G x A c) (hG:∀ b off,b<w.heap.size→G b off→G' b off):STree w G' x A c:=⟨h.le,h.tree.mono hG⟩
theorem three (w:World) (a b c:Obj):Below w.heap.size w (((w.alloc a).alloc b).alloc c):=by
 have h1:=(Below.refl w.heap.size w).alloc (Nat.le_refl _) a
 have h2:=h1.alloc h1.size b
 exact h2.alloc h2.size c
def RepSaid (B:Nat) (w:World) (s:ByteArray) (b x:Sx) (A:Option Addr) (c:Nat) (e:Ending) (w':World):Prop:=
 ((∃ y yA yc,e=.returned (.tuple #[sval y yA yc,.bool true])∧Bd.repl s b x=some y∧STree w' (fun g _=>g<B∨w.heap.size≤g) y yA yc)∨
  (e=.returned (.tuple #[sval x A c,.bool false])∧Bd.repl s b x=none))∧Below w.heap.size w w'
abbrev Z6:Array Value:=#[.bool false,.int .i64 0,.string ⟨#[]⟩,.int .i64 0,.int .i64 0,.slice none 0 0]
structure RepInv (B z:Nat) (s:ByteArray) (b x:Sx) (X Y:Array Value) (xa:Int) (i:Nat) (qA:Option Addr) (qc:Nat) (W:World) (Q:List PSx):Prop where
 l0:Lies W z 27 X
 l1:Lies W (z+1) 27 Y
 l2:Lies W (z+1+1) 27 Z6
 l3:Lies W (z+1+1+1) 27 #[.bool true,.int .i64 0,.string ⟨#[]⟩,.int .i64 0,.int .i64 xa,.slice qA i qc]
 own:W.ownsRow (z+4) 27 6 (.slice qA i qc) i (Q.flatMap pcells)
 len:Q.length=i
 tree:∀ q∈Q,(q.2.L.length≤q.1.2∧q.1.2≤maxLen)∧TreeL W (fun g _=>g<B∨(z+4≤g∧(Value.slice qA i qc).ownBlock≠some g)) q.1.1 q.2.L
 rep:Bd.repls s b true x.L=match Bd.repls s b (decide (i=0)) (x.L.drop i) with
  |some m=>some (Q.map (·.2)++m)
  |none=>none
theorem RepInv.below {B z:Nat} {s:ByteArray} {b x:Sx} {X Y:Array Value} {xa:Int} {i:Nat} {qA:Option Addr} {qc:Nat} {W W':World} {Q:List PSx} (h:RepInv B z s b x X Y xa i qA qc W Q) (hb:Below W.heap.size W W'):RepInv B z s b x X Y xa i qA qc W' Q:=by
 have ht:Turn (fun _=>False) W W':=Turn.of_below hb
 exact⟨ht.lies h.l0 id,ht.lies h.l1 id,ht.lies h.l2 id,ht.lies h.l3 id,ht.own h.own fun _ _=>id,h.len,fun q hq=>⟨(h.tree q hq).1,(h.tree q hq).2.kept hb⟩,h.rep⟩
theorem RepInv.snoc {B z:Nat} {s:ByteArray} {b x:Sx} {X Y:Array Value} {xa:Int} {i:Nat} {qA:Option Addr} {qc:Nat} {W W1 W2:World} {Q:List PSx} (h:RepInv B z s b x X Y xa i qA qc W Q) (hB:B≤z) (hb:Below W.heap.size W W1) {y v:Sx} {vA:Option Addr} {vc:Nat}
  (hd:x.L.drop i=y::x.L.drop (i+1)) (hbad:¬(decide (i=0)=true∧y.list=false∧(y.T=s∨y.T.data.toList=[108,101,116]))) (hv:Bd.repl s b y=some v) (ht:STree W1 (fun g _=>g<B∨W.heap.size≤g) v vA vc)
  {A':Option Addr} {c':Nat} (ho:W2.ownsRow (z+4) 27 6 (.slice A' (i+1) c') (i+1) (Q.flatMap pcells++scells v vA vc)) (hg:W1.grownBy W2 (Value.slice qA i qc).ownBlock) (hbl:(Value.slice A' (i+1) c').ownBlock=(Value.slice qA i qc).ownBlock∨(Value.slice A' (i+1) c').ownBlock=some W1.heap.size):
  RepInv B z s b x X Y xa (i+1) A' c' (W2.setCell ⟨z+1+1+1,5,none⟩ (.slice A' (i+1) c')) (Q++[((vA,vc),v)])∧Below z W1 (W2.setCell ⟨z+1+1+1,5,none⟩ (.slice A' (i+1) c')):=by
 have h1:=h.below hb
 have hown:=fun g hg=>h.own.lt g hg
 have T12:Turn (fun k=>(Value.slice qA i qc).ownBlock=some k) W1 W2:=Turn.of_grown hg fun g e _=>e
 have T13:Turn (fun k=>(Value.slice qA i qc).ownBlock=some k∨k=z+1+1+1) W1 (W2.setCell ⟨z+1+1+1,5,none⟩ (.slice A' (i+1) c')):=(T12.mono fun k _ e=> .inl e).put (.inl (.inr rfl)) _
 have T23:Turn (fun k=>k=z+1+1+1) W2 (W2.setCell ⟨z+1+1+1,5,none⟩ (.slice A' (i+1) c')):=(Turn.refl (fun k=>k=z+1+1+1) W2).put (p:=⟨z+1+1+1,5,none⟩) (.inl rfl) _
 have hz3:=h.l3.lt
 have hsz:=hb.size
 have hnew:∀ k,k<W1.heap.size→(Value.slice qA i qc).ownBlock≠some k→(Value.slice A' (i+1) c').ownBlock≠some k:=fun k hk hn=>by
  rcases hbl with e|e
  ·rw[e];exact hn
  ·rw[e];intro e2;injection e2 with e2;omega
 refine⟨⟨T13.lies h1.l0 ?_,T13.lies h1.l1 ?_,T13.lies h1.l2 ?_,?_,?_,?_,?_,?_⟩,T13.below (Nat.le_of_lt h1.l0.lt) fun k e=>e.elim (fun e=>by have:=(hown _ e).1;omega) fun e=>by omega⟩
 ·rintro(e|e)
  ·have:=(hown _ e).1;omega
  ·omega
 ·rintro(e|e)
  ·have:=(hown _ e).1;omega
  ·omega
 ·rintro(e|e)
  ·have:=(hown _ e).1;omega
  ·omega
 ·exact(T12.lies h1.l3 fun e=>by have:=(hown _ e).1;omega).put 5 _
 ·rw[List.flatMap_append]
  exact T23.own (by simpa using ho) fun g hg e=>by have:=(ho.lt g hg).1;omega
 ·rw[List.length_append,h.len];rfl
 ·intro q hq
  rcases List.mem_append.1 hq with hq|hq
  ·refine⟨(h1.tree q hq).1,(h1.tree q hq).2.turn9 T13 fun k hk e=>⟨?_,?_⟩⟩
   ·rintro(e2|e2)
    ·rcases e with e|e
     ·have:=(hown _ e2).1;omega
     ·exact e.2 e2
    ·rcases e with e|e <;> omega
   ·exact e.imp id fun e=>⟨e.1,hnew k hk e.2⟩
  ·obtain rfl:=List.mem_singleton.1 hq
   refine⟨ht.le,ht.tree.turn9 T13 fun k hk e=>⟨?_,?_⟩⟩
   ·rintro(e2|e2)
    ·have:=hown _ e2;omega
    ·omega
   ·refine e.imp id fun e=>⟨by omega,hnew k hk fun e2=>by have:=hown _ e2;omega⟩
 ·rw[h.rep,hd,Bd.repls,if_neg hbad,hv,decide_eq_false (Nat.succ_ne_zero i),List.map_append]
  simp only
  cases Bd.repls s b false (List.drop (i+1) x.L) with
  |none=>rfl
  |some m=>simp
theorem RepInv.done {B:Nat} {w:World} {s:ByteArray} {b x:Sx} {X Y:Array Value} {xa:Int} {n:Nat} {qA:Option Addr} {qc:Nat} {W W':World} {Q:List PSx} {A:Option Addr} {c:Nat} (h:RepInv B w.heap.size s b x X Y xa n qA qc W Q) (hB:B≤w.heap.size) (hx:x.L.length=n) (hl:x.list=true) (ha:x.at_=xa)
  (hb:Below w.heap.size w W) (ht:Turn (fun k=>k=w.heap.size+1+1) W W'):RepSaid B w s b x A c (.returned (.tuple #[.agg #[.bool true,.int .i64 0,.string ⟨#[]⟩,.int .i64 0,.int .i64 xa,.slice qA n qc],.bool true])) W':=by
 have hr:=h.rep
 rw[List.drop_of_length_le (by omega),Bd.repls] at hr
 simp only[List.append_nil] at hr
 have hO:=TreeL.of_own (G:=fun g _=>g<B∨w.heap.size+4≤g) h.own h.len (fun g _ e=> .inr e) fun q hq=>⟨(h.tree q hq).1,(h.tree q hq).2.mono fun _ _ _ e=>e.imp id (·.1)⟩
 have hl2:=h.l2.lt
 refine⟨.inl ⟨⟨true,0,ByteArray.empty,0,xa,Q.map (·.2)⟩,qA,qc,?_,?_,?_⟩,hb.trans ((ht.below (B:=w.heap.size) hb.size fun k e=>by omega).mono (Nat.le_refl _))⟩
 ·unfold sval
  simp only[List.length_map,h.len]
  rfl
 ·rw[Bd.repl_l hl,hr,ha]
 ·exact⟨by simpa [h.len] using hO.1,hO.2.turn9 ht fun k hk e=>⟨fun e2=>by rcases e with e|e <;> omega,e.imp id fun e=>by omega⟩⟩
abbrev World.sixP (W:World) (g:Nat) (a0 a1 a2 a3 a4 a5:Value):World:=(((((W.setCell ⟨g,0,none⟩ a0).setCell ⟨g,1,none⟩ a1).setCell ⟨g,2,none⟩ a2).setCell ⟨g,3,none⟩ a3).setCell ⟨g,4,none⟩ a4).setCell ⟨g,5,none⟩ a5
theorem sixP_lies {W:World} {g:Nat} {t:TypeId} (h:Lies W g t Z6) (a0 a1 a2 a3 a4 a5:Value):Lies (World.sixP W g a0 a1 a2 a3 a4 a5) g t #[a0,a1,a2,a3,a4,a5]:=
 (((((h.put 0 a0).put 1 a1).put 2 a2).put 3 a3).put 4 a4).put 5 a5
theorem sixP_turn (W:World) (g:Nat) (a0 a1 a2 a3 a4 a5:Value):Turn (fun k=>k=g) W (World.sixP W g a0 a1 a2 a3 a4 a5):=
 ((((((Turn.refl (fun k=>k=g) W).put (p:=⟨g,0,none⟩) (.inl rfl) a0).put (p:=⟨g,1,none⟩) (.inl rfl) a1).put (p:=⟨g,2,none⟩) (.inl rfl) a2).put (p:=⟨g,3,none⟩) (.inl rfl) a3).put (p:=⟨g,4,none⟩) (.inl rfl) a4).put (p:=⟨g,5,none⟩) (.inl rfl) a5
theorem RepInv.start (B:Nat) (w:World) (s:ByteArray) (b x:Sx) (X Y:Array Value) (xa:Int):Below w.heap.size w ((((w.alloc (.cells X 27)).alloc (.cells Y 27)).alloc (.cells Z6 27)).alloc (.cells #[.bool true,.int .i64 0,.string ⟨#[]⟩,.int .i64 0,.int .i64 xa,.slice none 0 0] 27))∧
  RepInv B w.heap.size s b x X Y xa 0 none 0 ((((w.alloc (.cells X 27)).alloc (.cells Y 27)).alloc (.cells Z6 27)).alloc (.cells #[.bool true,.int .i64 0,.string ⟨#[]⟩,.int .i64 0,.int .i64 xa,.slice none 0 0] 27)) []:=by
 have h3:=three w (.cells X 27) (.cells Y 27) (.cells Z6 27)
 have n1:=Lies.new w 27 X
 have n2:=Lies.new (w.alloc (.cells X 27)) 27 Y
 have n3:=Lies.new ((w.alloc (.cells X 27)).alloc (.cells Y 27)) 27 Z6
 have n4:=Lies.new (((w.alloc (.cells X 27)).alloc (.cells Y 27)).alloc (.cells Z6 27)) 27 #[.bool true,.int .i64 0,.string ⟨#[]⟩,.int .i64 0,.int .i64 xa,.slice none 0 0]
 have s1:(w.alloc (.cells X 27)).heap.size=w.heap.size+1:=Array.size_push ..
 have s2:((w.alloc (.cells X 27)).alloc (.cells Y 27)).heap.size=w.heap.size+1+1:=(Array.size_push ..).trans (by rw[s1])
 have s3:(((w.alloc (.cells X 27)).alloc (.cells Y 27)).alloc (.cells Z6 27)).heap.size=w.heap.size+1+1+1:=(Array.size_push ..).trans (by rw[s2])
 rw[s1] at n2
 rw[s2] at n3
 rw[s3] at n4
 have a:=fun(W:World) (o:Obj)=>(Turn.refl (fun _=>False) W).alloc o
 refine⟨h3.alloc h3.size _,(a _ _).lies ((a _ _).lies ((a _ _).lies n1 id) id) id,(a _ _).lies ((a _ _).lies n2 id) id,(a _ _).lies n3 id,n4,World.ownsRow_nil _ _ _ _,rfl,fun q hq=>(List.not_mem_nil hq).elim,?_⟩
 rw[List.drop_zero,decide_eq_true rfl]
 cases Bd.repls s b true x.L <;> rfl
theorem RepInv.row {B z:Nat} {s:ByteArray} {b x:Sx} {X Y:Array Value} {xa:Int} {i:Nat} {qA:Option Addr} {qc:Nat} {W W':World} {Q:List PSx} (h:RepInv B z s b x X Y xa i qA qc W Q) (o:Obj) (hg:(W.alloc o).grownBy W' (Value.slice qA i qc).ownBlock):
  Lies W' (z+1+1+1) 27 #[.bool true,.int .i64 0,.string ⟨#[]⟩,.int .i64 0,.int .i64 xa,.slice qA i qc]:=
 (Turn.of_grown (F:=fun k=>(Value.slice qA i qc).ownBlock=some k) hg fun _ e _=>e).lies (((Turn.refl (fun _=>False) W).alloc o).lies h.l3 id) fun e=>by have:=(h.own.lt _ e).1;omega
theorem krepl10 (s:ByteArray) (b:Sx) (bA:Option Addr) (bc B:Nat):∀ (k:Nat) (x:Sx) (A:Option Addr) (c:Nat) (w:World),x.size≤k→k≤1000000→B≤w.heap.size→STree w (fun g _=>g<B) x A c→STree w (fun g _=>g<B) b bA bc→
  Calls Tryz.prog 23 #[sval x A c,.string s,sval b bA bc] w fun e w'=>RepSaid B w s b x A c e w':=by
 intro k
 induction k with
 |zero=>
  intro x A c w hk
  exact absurd hk (by have:=x.size_pos;omega)
 |succ k ih=>
  intro x A c w hk hk9 hB h hb
  obtain⟨xn,hxn⟩:∃ xn,x.L.length=xn:=⟨_,rfl⟩
  obtain⟨bn,hbn⟩:∃ bn,b.L.length=bn:=⟨_,rfl⟩
  obtain⟨bl,hbl⟩:∃ bl,b.list=bl:=⟨_,rfl⟩
  obtain⟨bk,hbk⟩:∃ bk,b.k=bk:=⟨_,rfl⟩
  obtain⟨bT,hbT⟩:∃ bT,b.T=bT:=⟨_,rfl⟩
  obtain⟨bta,hbta⟩:∃ bta,b.ta=bta:=⟨_,rfl⟩
  obtain⟨ba,hba⟩:∃ ba,b.at_=ba:=⟨_,rfl⟩
  have hbv:sval b bA bc=.agg #[.bool bl,.int .i64 bk,.string bT,.int .i64 bta,.int .i64 ba,.slice bA bn bc]:=by unfold sval;rw[hbn,hbl,hbk,hbT,hbta,hba]
  have HBv:=Lib.hid hbv
  rw[hbv]
  have hbl2:∀ o,Below w.heap.size w (w.alloc o):=fun o=>(Below.refl _ w).alloc (Nat.le_refl _) _
  by_cases hl:x.list=true
  case neg=>
   have hl:x.list=false:=by simpa using hl
   have hr:=Bd.repl_a (s:=s) (b:=b) hl
   obtain⟨xl,xk,xT,xta,xa,L⟩:=x
   simp only at hl hr hxn
   subst hl
   have HX:Hid (Bd.repl s b ⟨false,xk,xT,xta,xa,L⟩=if xk=3∧xT=s then some b else some ⟨false,xk,xT,xta,xa,L⟩):=hr
   have ht:=text_eq xT s
   unfold sval
   simp only
   rw[hxn]
   have hxv:sval ⟨false,xk,xT,xta,xa,L⟩ A c=.agg #[.bool false,.int .i64 xk,.string xT,.int .i64 xta,.int .i64 xa,.slice A xn c]:=by unfold sval;simp only;rw[hxn]
   have HX':Hid (∀ W,Below w.heap.size w W→¬(xk=3∧xT=s)→RepSaid B w s b ⟨false,xk,xT,xta,xa,L⟩ A c (.returned (.tuple #[.agg #[.bool false,.int .i64 xk,.string xT,.int .i64 xta,.int .i64 xa,.slice A xn c],.bool true])) W):=fun W hW hn=>⟨.inl ⟨_,A,c,by rw[hxv],by rw[HX.out,if_neg hn],(h.kept hW).mono' fun _ _ _ h=> .inl h⟩,hW⟩
   have HB':Hid (∀ W,Below w.heap.size w W→(xk=3∧xT=s)→RepSaid B w s b ⟨false,xk,xT,xta,xa,L⟩ A c (.returned (.tuple #[.agg #[.bool bl,.int .i64 bk,.string bT,.int .i64 bta,.int .i64 ba,.slice bA bn bc],.bool true])) W):=fun W hW hn=>⟨.inl ⟨b,bA,bc,by rw[hbv],by rw[HX.out,if_pos hn],(hb.kept hW).mono' fun _ _ _ h=> .inl h⟩,hW⟩
   have hrb:bl=bl:=rfl
   clear h hb hk hr ih hbv hxv hxn hbn hbl hbk hbT hbta hba HX HBv hrb hbl2
   by_cases h3:xk=3
   ·have e3:(xk == 3)=true:=by simp[h3]
    by_cases hT:xT=s
    ·rw[decide_eq_true hT] at ht
     have H:=Lib.hid fun W hW=>HB'.out W hW ⟨h3,hT⟩
     clear HX' HB' h3 hT
     go_enter Tryz.func23,Tryz.ntmps23
     go_wp2
     exact bodyPost_ret (v:=.tuple #[.agg #[.bool bl,.int .i64 bk,.string bT,.int .i64 bta,.int .i64 ba,.slice bA bn bc],.bool true]) (by simp[results,Tryz.results23,go_sem]) rfl (H.out _ (three _ _ _ _))
    ·rw[decide_eq_false hT] at ht
     have H:=Lib.hid fun W hW=>HX'.out W hW (fun e=>hT e.2)
     clear HX' HB' h3 hT
     go_enter Tryz.func23,Tryz.ntmps23
     go_wp2
     exact bodyPost_ret (v:=.tuple #[.agg #[.bool false,.int .i64 xk,.string xT,.int .i64 xta,.int .i64 xa,.slice A xn c],.bool true]) (by simp[results,Tryz.results23,go_sem]) rfl (H.out _ (three _ _ _ _))
   ·have e3:(xk == 3)=false:=by simp[h3]
    have H:=Lib.hid fun W hW=>HX'.out W hW (fun e=>h3 e.1)
    clear HX' HB' h3 ht
    go_enter Tryz.func23,Tryz.ntmps23
    go_wp2
    exact bodyPost_ret (v:=.tuple #[.agg #[.bool false,.int .i64 xk,.string xT,.int .i64 xta,.int .i64 xa,.slice A xn c],.bool true]) (by simp[results,Tryz.results23,go_sem]) rfl (H.out _ (three _ _ _ _))
  case pos=>
   have hr:=Bd.repl_l (s:=s) (b:=b) hl
   have hlm:xn≤1000000:=by have:=x.size_eq;have:=Sx.sizes_length x.L;omega
   have HTr:=Lib.hid h
   have HTb:=Lib.hid hb
   have HSz:Hid (∀ y∈x.L,y.size≤k):=fun y hy=>by have:=Sx.size_lt hy;omega
   have HXn:=Lib.hid hxn
   have HLs:=Lib.hid hl
   have HR:=Lib.hid hr
   have HIH:=Lib.hid ih
   obtain⟨xk,hxk⟩:∃ xk,x.k=xk:=⟨_,rfl⟩
   obtain⟨xT,hxT⟩:∃ xT,x.T=xT:=⟨_,rfl⟩
   obtain⟨xta,hxta⟩:∃ xta,x.ta=xta:=⟨_,rfl⟩
   obtain⟨xa,hxa⟩:∃ xa,x.at_=xa:=⟨_,rfl⟩
   have hxv:sval x A c=.agg #[.bool true,.int .i64 xk,.string xT,.int .i64 xta,.int .i64 xa,.slice A xn c]:=by unfold sval;rw[hxn,hl,hxk,hxT,hxta,hxa]
   have HXv:=Lib.hid hxv
   have HXa:=Lib.hid hxa
   rw[hxv]
   clear h hb hk hr ih hbv hxv hxn hbn hbl hbk hbT hbta hba hbl2 hxk hxT hxta hxa hl
   obtain⟨Post,hPost⟩:∃ Post:Ending→World→Prop,Post=fun e w'=>RepSaid B w s b x A c e w':=⟨_,rfl⟩
   rw[←hPost]
   have HPo:=Lib.hid hPost
   clear hPost
   go_enter Tryz.func23,Tryz.ntmps23
   go_wp2
   have hst:=RepInv.start B w s b x #[.bool true,.int .i64 xk,.string xT,.int .i64 xta,.int .i64 xa,.slice A xn c] #[.bool bl,.int .i64 bk,.string bT,.int .i64 bta,.int .i64 ba,.slice bA bn bc] xa
   have HSt:=Lib.hid hst
   clear hst
   go_loopw [9,10,11,12] (fun iv av zv kv wr=>∃ (i:Nat) (qA:Option Addr) (qc:Nat),i≤xn∧iv=.int .i64 (i:Nat)∧Hid (Below w.heap.size w wr∧∃ Q,RepInv B w.heap.size s b x #[.bool true,.int .i64 xk,.string xT,.int .i64 xta,.int .i64 xa,.slice A xn c] #[.bool bl,.int .i64 bk,.string bT,.int .i64 bta,.int .i64 ba,.slice bA bn bc] xa i qA qc wr Q)) (fun iv _ _ _ _=>xn-(intOf iv).toNat)
   case atStart=>exact⟨0,none,0,Nat.zero_le _,rfl,HSt.out.1,[],HSt.out.2⟩
   case round=>
    obtain⟨i,qA,qc,hi,rfl,HI⟩:=hrel
    clear HSt
    obtain⟨hbw,Q,hinv⟩:=HI.out
    have HBw:=Lib.hid hbw
    have HInv:=Lib.hid hinv
    have r0:=hinv.l0.cell 0
    have r1:=hinv.l0.cell 1
    have r2:=hinv.l0.cell 2
    have r3:=hinv.l0.cell 3
    have r4:=hinv.l0.cell 4
    have r5:=hinv.l0.cell 5
    simp at r0 r1 r2 r3 r4 r5
    by_cases hlt:i<xn
    ·obtain⟨b2,off2,y,A2,c2,rfl,hy,hdr,hym,hs,hty⟩:=HTr.out.get (i:=i) (by rw[HXn.out];exact hlt)
     have hlt':(i:Int)<(xn:Int):=by omega
     have hi0:(0:Int)≤(i:Int):=by omega
     have hiw:IntKind.i64.wrap ((i:Int)+1)=(i:Int)+1:=IntWalk.i64_in _ (by omega)
     have HNo:Hid (∀ W,Below w.heap.size w W→((decide (i=0)=true∧y.list=false∧(y.T=s∨y.T.data.toList=[108,101,116]))∨Bd.repl s b y=none)→RepSaid B w s b x (some ⟨b2,off2,none⟩) c (.returned (.tuple #[.agg #[.bool true,.int .i64 xk,.string xT,.int .i64 xta,.int .i64 xa,.slice (some ⟨b2,off2,none⟩) xn c],.bool false])) W):=fun W hW hb=>by
      refine⟨.inr ⟨by rw[HXv.out],?_⟩,hW⟩
      have hz:Bd.repls s b (decide (i=0)) (y::x.L.drop (i+1))=none:=by
       rw[Bd.repls]
       rcases hb with hb|hb
       ·rw[if_pos hb]
       ·rw[hb]
        split <;> rfl
      rw[HR.out,hinv.rep,hdr,hz]
     have HIy:=Lib.hid fun(W:World) (hW:Below w.heap.size w W)=>HIH.out y A2 c2 W (HSz.out y hym) (by omega) (Nat.le_trans hB hW.size) (hty.kept hW) (HTb.out.kept hW)
     have HSn:=Lib.hid fun(W W1:World) (Q:List PSx) (hQ:RepInv B w.heap.size s b x #[.bool true,.int .i64 xk,.string xT,.int .i64 xta,.int .i64 xa,.slice (some ⟨b2,off2,none⟩) xn c] #[.bool bl,.int .i64 bk,.string bT,.int .i64 bta,.int .i64 ba,.slice bA bn bc] xa i qA qc W Q) (hb:Below W.heap.size W W1) (v:Sx) (vA:Option Addr) (vc:Nat) hbad hv ht W2 A' c' ho hg hbl=>hQ.snoc (W2:=W2) (A':=A') (c':=c') hB hb (y:=y) (v:=v) (vA:=vA) (vc:=vc) hdr hbad hv ht ho hg hbl
     obtain⟨hb2,y0,y1,y2,y3,y4,y5⟩:=hs.below hbw
     have hb2w:=hs.lt
     obtain⟨yn,hyn⟩:∃ yn,y.L.length=yn:=⟨_,rfl⟩
     obtain⟨yl,hyl⟩:∃ yl,y.list=yl:=⟨_,rfl⟩
     obtain⟨yk,hyk⟩:∃ yk,y.k=yk:=⟨_,rfl⟩
     obtain⟨yT,hyT⟩:∃ yT,y.T=yT:=⟨_,rfl⟩
     obtain⟨yta,hyta⟩:∃ yta,y.ta=yta:=⟨_,rfl⟩
     obtain⟨ya,hya⟩:∃ ya,y.at_=ya:=⟨_,rfl⟩
     have hyv:sval y A2 c2=.agg #[.bool yl,.int .i64 yk,.string yT,.int .i64 yta,.int .i64 ya,.slice A2 yn c2]:=by unfold sval;rw[hyn,hyl,hyk,hyT,hyta,hya]
     have HYv:=Lib.hid hyv
     rw[hyl] at y0 HNo HSn
     rw[hyk] at y1
     rw[hyT] at y2 HNo HSn
     rw[hyta] at y3
     rw[hya] at y4
     rw[hyn] at y5
     obtain⟨zr,hzr⟩:∃ zr,wr.heap.size=zr:=⟨_,rfl⟩
     obtain⟨E1,hE1⟩:∃ E1,wr.alloc (.cells #[.bool yl,.int .i64 yk,.string yT,.int .i64 yta,.int .i64 ya,.slice A2 yn c2] 27)=E1:=⟨_,rfl⟩
     have hBE:Below wr.heap.size wr E1:=by rw[←hE1];exact(Below.refl _ wr).alloc (Nat.le_refl _) _
     have hBw:Below w.heap.size w E1:=hbw.trans (hBE.mono hbw.size)
     have hLE:Lies E1 zr 27 #[.bool yl,.int .i64 yk,.string yT,.int .i64 yta,.int .i64 ya,.slice A2 yn c2]:=by rw[←hE1,←hzr];exact Lies.new wr _ _
     have e0:=hLE.cell 0
     have e1:=hLE.cell 1
     have e2:=hLE.cell 2
     have e3:=hLE.cell 3
     have e4:=hLE.cell 4
     have e5:=hLE.cell 5
     simp at e0 e1 e2 e3 e4 e5
     have i1:=hinv.below hBE
     have HI1:=Lib.hid i1
     have HE1:=Lib.hid (HIy.out E1 hBw)
     rw[hyv,HBv.out] at HE1
     have ht:=text_eq yT s
     have hrb:=()
     clear HR HIH HTr HTb HSz hyv hym hty hs hy hdr hyl hyk hyT hyta hya hyn hb2w HInv HBw HI HIy
     by_cases hbad:(decide (i=0)=true∧yl=false∧(yT=s∨yT.data.toList=[108,101,116]))
     ·have HFin0:=Lib.hid fun(W:World) (hW:Below w.heap.size w W)=>HNo.out W hW (.inl hbad)
      obtain⟨h0,rfl,hTT⟩:=hbad
      have ei:((i:Int) == 0)=true:=by rw[of_decide_eq_true h0];rfl
      have r0:=i1.l0.cell 0
      have r1:=i1.l0.cell 1
      have r2:=i1.l0.cell 2
      have r3:=i1.l0.cell 3
      have r4:=i1.l0.cell 4
      have r5:=i1.l0.cell 5
      simp at r0 r1 r2 r3 r4 r5
      have p0:=i1.l2.cell 0
      have p1:=i1.l2.cell 1
      have p2:=i1.l2.cell 2
      have p3:=i1.l2.cell 3
      have p4:=i1.l2.cell 4
      have p5:=i1.l2.cell 5
      simp at p0 p1 p2 p3 p4 p5
      have f0:=i1.l2.free 0
      have f1:=i1.l2.free 1
      have f2:=i1.l2.free 2
      have f3:=i1.l2.free 3
      have f4:=i1.l2.free 4
      have f5:=i1.l2.free 5
      have hlt2:=i1.l2.lt
      have hl6:=sixP_lies i1.l2 (.bool true) (.int .i64 xk) (.string xT) (.int .i64 xta) (.int .i64 xa) (.slice (some ⟨b2,off2,none⟩) xn c)
      have s0:=hl6.cell 0
      have s1:=hl6.cell 1
      have s2:=hl6.cell 2
      have s3:=hl6.cell 3
      have s4:=hl6.cell 4
      have s5:=hl6.cell 5
      simp at s0 s1 s2 s3 s4 s5
      have ht6:=sixP_turn E1 (w.heap.size+1+1) (.bool true) (.int .i64 xk) (.string xT) (.int .i64 xta) (.int .i64 xa) (.slice (some ⟨b2,off2,none⟩) xn c)
      have HFin:=Lib.hid (HFin0.out _ (hBw.trans ((ht6.below (B:=w.heap.size) hBw.size fun k e=>by omega))))
      by_cases hT:yT=s
      ·rw[decide_eq_true hT] at ht
       clear HFin0 HNo HSn HE1 HI1 i1 hinv hbw hBE hBw hLE hTT hT ht6 hl6 h0 e3 e4 e5 HXn HLs HXv HXa HBv HYv
       go_wp2
       rw[HPo.out]
       exact bodyPost_ret (v:=.tuple #[.agg #[.bool true,.int .i64 xk,.string xT,.int .i64 xta,.int .i64 xa,.slice (some ⟨b2,off2,none⟩) xn c],.bool false]) (by simp[results,Tryz.results23,go_sem,s0,s1,s2,s3,s4,s5]) rfl HFin.out
      ·rw[decide_eq_false hT] at ht
       have hlt9:=lit_yes (hTT.resolve_left hT)
       clear HFin0 HNo HSn HE1 HI1 i1 hinv hbw hBE hBw hLE hTT hT ht6 hl6 h0 e3 e4 e5 HXn HLs HXv HXa HBv HYv
       go_wp2
       rw[HPo.out]
       exact bodyPost_ret (v:=.tuple #[.agg #[.bool true,.int .i64 xk,.string xT,.int .i64 xta,.int .i64 xa,.slice (some ⟨b2,off2,none⟩) xn c],.bool false]) (by simp[results,Tryz.results23,go_sem,s0,s1,s2,s3,s4,s5]) rfl HFin.out
     ·have HNb:=Lib.hid hbad
      have b0:=i1.l1.cell 0
      have b1:=i1.l1.cell 1
      have b2':=i1.l1.cell 2
      have b3:=i1.l1.cell 3
      have b4:=i1.l1.cell 4
      have b5':=i1.l1.cell 5
      simp at b0 b1 b2' b3 b4 b5'
      have HBw1:=Lib.hid hBw
      have hgood:(((i:Int) == 0)=false)∨(((i:Int) == 0)=true∧yl=true)∨(((i:Int) == 0)=true∧yl=false∧(yT.toList == s.toList)=false∧(yT.toList == [108,101,116])=false):=by
       by_cases h0:i=0
       ·have ez:((i:Int) == 0)=true:=by rw[h0];rfl
        cases yl with
        |true=>exact .inr (.inl ⟨ez,rfl⟩)
        |false=>exact .inr (.inr ⟨ez,rfl,by rw[ht];exact decide_eq_false fun e=>hbad ⟨decide_eq_true h0,rfl,.inl e⟩,lit_no fun e=>hbad ⟨decide_eq_true h0,rfl,.inr e⟩⟩)
       ·exact .inl (by simp;omega)
      clear ht hbad i1 hinv hbw hBE hBw hLE r0 r1 r2 r3 r4
      obtain⟨Yc,hYc⟩:∃ Yc:Array Value,#[.bool yl,.int .i64 yk,.string yT,.int .i64 yta,.int .i64 ya,.slice A2 yn c2]=Yc:=⟨_,rfl⟩
      have HYc:=Lib.hid hYc
      clear hYc
      rcases hgood with ei|⟨ei,rfl⟩|⟨ei,rfl,hT1,hT2⟩
      all_goals
       go_wp2_with fail
       refine HE1.out.mono ?_
       rintro e w5 ⟨(⟨v,vA,vc,rfl,hv,ht5⟩|⟨rfl,hv⟩),b5⟩
       ·obtain⟨vn,hvn⟩:∃ vn,v.L.length=vn:=⟨_,rfl⟩
        obtain⟨vl,hvl⟩:∃ vl,v.list=vl:=⟨_,rfl⟩
        obtain⟨vk,hvk⟩:∃ vk,v.k=vk:=⟨_,rfl⟩
        obtain⟨vT,hvT⟩:∃ vT,v.T=vT:=⟨_,rfl⟩
        obtain⟨vta,hvta⟩:∃ vta,v.ta=vta:=⟨_,rfl⟩
        obtain⟨va,hva⟩:∃ va,v.at_=va:=⟨_,rfl⟩
        have hvv:sval v vA vc=.agg #[.bool vl,.int .i64 vk,.string vT,.int .i64 vta,.int .i64 va,.slice vA vn vc]:=by unfold sval;rw[hvn,hvl,hvk,hvT,hvta,hva]
        have hvc:scells v vA vc=[.bool vl,.int .i64 vk,.string vT,.int .i64 vta,.int .i64 va,.slice vA vn vc]:=by unfold scells;rw[hvn,hvl,hvk,hvT,hvta,hva]
        rw[hvv]
        obtain⟨E2,hE2⟩:∃ E2,w5.alloc (.cells #[.bool vl,.int .i64 vk,.string vT,.int .i64 vta,.int .i64 va,.slice vA vn vc] 27)=E2:=⟨_,rfl⟩
        obtain⟨z5,hz5⟩:∃ z5,w5.heap.size=z5:=⟨_,rfl⟩
        have hb25:Below w5.heap.size w5 E2:=by rw[←hE2];exact(Below.refl _ w5).alloc (Nat.le_refl _) _
        have hL2:Lies E2 z5 27 #[.bool vl,.int .i64 vk,.string vT,.int .i64 vta,.int .i64 va,.slice vA vn vc]:=by rw[←hE2,←hz5];exact Lies.new w5 _ _
        have hbE2:=b5.trans (hb25.mono b5.size)
        have i2:=HI1.out.below hbE2
        have d0:=hL2.cell 0
        have d1:=hL2.cell 1
        have d2:=hL2.cell 2
        have d3:=hL2.cell 3
        have d4:=hL2.cell 4
        have d5:=hL2.cell 5
        have q5:=i2.l3.cell 5
        simp at d0 d1 d2 d3 d4 d5 q5
        have HI2:=Lib.hid i2
        have HSn2:Hid (∀ W1 W2 A' c',Below E2.heap.size E2 W1→_→_→_→_):=fun W1 W2 A' c' hW ho hg hbl=>HSn.out E1 W1 Q HI1.out (hbE2.trans (hW.mono hbE2.size)) v vA vc HNb.out hv ((ht5.kept hb25).kept (hW)) W2 A' c' (by rw[hvc];exact ho) hg hbl
        have HB2:Hid (Below w.heap.size w E2):=HBw1.out.trans (hbE2.mono HBw1.out.size)
        have hlt3:=i2.l3.lt
        have hz4:w.heap.size+4≤E2.heap.size:=by omega
        obtain⟨iX,hx0',hx0,hx1,hx2⟩:=info_parts infoX9
        have hone:∀ u∈([.bool vl,.int .i64 vk,.string vT,.int .i64 vta,.int .i64 va,.slice vA vn vc]:List Value),u.oneCell'=true:=by
         intro u hu
         simp at hu
         rcases hu with rfl|rfl|rfl|rfl|rfl|rfl <;> rfl
        have hi1:i+1≤maxLen:=by unfold maxLen;omega
        have hi72:(i+1)*72≤140737488355328:=by omega
        clear HNo HSn HE1 HI1 i2 hb25 hL2 hbE2 hv ht5 b5 hvn hvl hvk hvT hvta hva hvv hvc HXn HLs HXv HXa HBv HYv HNb HBw1 b0 b1 b2' b3 b4 b5' e0 e1 e2 e3 e4 e5
        clear HYc
        go_wp2_with (at_builtin;refine wpList_append_own_at _ rfl (.tmp 76) (.tmp 78) 25 rfl (w.heap.size+4) 27 iX (.agg #[.bool false,.int .i64 0,.string ByteArray.empty,.int .i64 0,.int .i64 0,.slice none 0 0]) 6 72 Tryz.underlying25 hx0' hx0 hx1 hx2 rfl (by decide) (.slice qA i qc) i (Q.flatMap pcells) (by simp[Act.eval]) (HI2.out.own.alloc _) _ 1 1 [.bool vl,.int .i64 vk,.string vT,.int .i64 vta,.int .i64 va,.slice vA vn vc] (by simp[Act.eval]) rfl (new_at rfl) hone hi1 hi72 (by simp;omega) ?_;intro V6 w6 o6 g6 _ k6;obtain⟨A6,c6,rfl⟩:=own_form o6;have hL6:=HI2.out.row _ g6;have f5:=hL6.free 5;have p5:=hL6.cell 5;have hlt6:=hL6.lt;have hz6:=g6.size;simp at p5;have HFin:=Lib.hid (HSn2.out _ _ _ _ ((Below.refl _ E2).alloc (Nat.le_refl _) _) o6 g6 k6);have HA:=Lib.hid ((HB2.out.alloc HB2.out.size _).trans ((HFin.out.2).mono (Nat.le_refl _)));clear o6 g6 k6 hL6 q5)
        go_roundw
        case rel=>exact⟨i+1,A6,c6,by omega,by go_num,HA.out,_,HFin.out.1⟩
        case measure=>simp[intOf];omega
       ·rw[HYv.out]
        have i5:=HI1.out.below b5
        have hb5:=HBw1.out.trans (b5.mono HBw1.out.size)
        have HFin0:=Lib.hid fun(W:World) (hW:Below w.heap.size w W)=>HNo.out W hW (.inr hv)
        obtain⟨E2,hE2⟩:∃ E2,w5.alloc (.cells Yc 27)=E2:=⟨_,rfl⟩
        have hb25:Below w5.heap.size w5 E2:=by rw[←hE2];exact(Below.refl _ w5).alloc (Nat.le_refl _) _
        have hb2:=hb5.trans (hb25.mono hb5.size)
        have i2:=i5.below hb25
        rw[←HYc.out] at hE2
        have r0:=i2.l0.cell 0
        have r1:=i2.l0.cell 1
        have r2:=i2.l0.cell 2
        have r3:=i2.l0.cell 3
        have r4:=i2.l0.cell 4
        have r5:=i2.l0.cell 5
        simp at r0 r1 r2 r3 r4 r5
        have p0:=i2.l2.cell 0
        have p1:=i2.l2.cell 1
        have p2:=i2.l2.cell 2
        have p3:=i2.l2.cell 3
        have p4:=i2.l2.cell 4
        have p5:=i2.l2.cell 5
        simp at p0 p1 p2 p3 p4 p5
        have f0:=i2.l2.free 0
        have f1:=i2.l2.free 1
        have f2:=i2.l2.free 2
        have f3:=i2.l2.free 3
        have f4:=i2.l2.free 4
        have f5:=i2.l2.free 5
        have hlt2:=i2.l2.lt
        have hl6:=sixP_lies i2.l2 (.bool true) (.int .i64 xk) (.string xT) (.int .i64 xta) (.int .i64 xa) (.slice (some ⟨b2,off2,none⟩) xn c)
        have s0:=hl6.cell 0
        have s1:=hl6.cell 1
        have s2:=hl6.cell 2
        have s3:=hl6.cell 3
        have s4:=hl6.cell 4
        have s5:=hl6.cell 5
        simp at s0 s1 s2 s3 s4 s5
        have ht6:=sixP_turn E2 (w.heap.size+1+1) (.bool true) (.int .i64 xk) (.string xT) (.int .i64 xta) (.int .i64 xa) (.slice (some ⟨b2,off2,none⟩) xn c)
        have HFin:=Lib.hid (HFin0.out _ (hb2.trans ((ht6.below (B:=w.heap.size) hb2.size fun k e=>by omega))))
        clear HFin0 HNo HSn HE1 HI1 i5 i2 hb5 hb25 hb2 ht6 hl6 hv b5 HXn HLs HXv HXa HBv HYv HNb HBw1 b0 b1 b2' b3 b4 b5' e0 e1 e2 e3 e4 e5
        go_wp2
        rw[HPo.out]
        exact bodyPost_ret (v:=.tuple #[.agg #[.bool true,.int .i64 xk,.string xT,.int .i64 xta,.int .i64 xa,.slice (some ⟨b2,off2,none⟩) xn c],.bool false]) (by simp[results,Tryz.results23,go_sem,s0,s1,s2,s3,s4,s5]) rfl HFin.out
    ·obtain rfl:i=xn:=by omega
     have hlt':¬(i:Int)<(i:Int):=by omega
     have q0:=hinv.l3.cell 0
     have q1:=hinv.l3.cell 1
     have q2:=hinv.l3.cell 2
     have q3:=hinv.l3.cell 3
     have q4:=hinv.l3.cell 4
     have q5:=hinv.l3.cell 5
     have p0:=hinv.l2.cell 0
     have p1:=hinv.l2.cell 1
     have p2:=hinv.l2.cell 2
     have p3:=hinv.l2.cell 3
     have p4:=hinv.l2.cell 4
     have p5:=hinv.l2.cell 5
     simp at q0 q1 q2 q3 q4 q5 p0 p1 p2 p3 p4 p5
     have f0:=hinv.l2.free 0
     have f1:=hinv.l2.free 1
     have f2:=hinv.l2.free 2
     have f3:=hinv.l2.free 3
     have f4:=hinv.l2.free 4
     have f5:=hinv.l2.free 5
     have hlt2:=hinv.l2.lt
     have hl6:=sixP_lies hinv.l2 (.bool true) (.int .i64 0) (.string ⟨#[]⟩) (.int .i64 0) (.int .i64 xa) (.slice qA i qc)
     have s0:=hl6.cell 0
     have s1:=hl6.cell 1
     have s2:=hl6.cell 2
     have s3:=hl6.cell 3
     have s4:=hl6.cell 4
     have s5:=hl6.cell 5
     simp at s0 s1 s2 s3 s4 s5
     have HFin:=Lib.hid (hinv.done (A:=A) (c:=c) hB HXn.out HLs.out HXa.out hbw (sixP_turn wr (w.heap.size+1+1) (.bool true) (.int .i64 0) (.string ⟨#[]⟩) (.int .i64 0) (.int .i64 xa) (.slice qA i qc)))
     clear HTr HTb HSz HXn HLs HR HIH HXv HXa HBv HI HBw HInv hinv hbw hl6
     go_wp2
     rw[HPo.out]
     exact bodyPost_ret (v:=.tuple #[.agg #[.bool true,.int .i64 0,.string ⟨#[]⟩,.int .i64 0,.int .i64 xa,.slice qA i qc],.bool true]) (by simp[results,Tryz.results23,go_sem,s0,s1,s2,s3,s4,s5]) rfl HFin.out
end Go.Proofs.YtcgaeknikfaghaaGreatDoor
namespace Go.Proofs.YtcgaeknikfaghaaGreatDoor
open Go.RowKit
theorem Bd.repls_each {s:ByteArray} {b:Sx} {P:Sx→Prop}:∀ {f:Bool} {l m:List Sx},Bd.repls s b f l=some m→(∀ x∈l,∀ y,Bd.repl s b x=some y→P y)→∀ y∈m,P y
 |f,[],m,h,_=>by rw[Bd.repls] at h;cases h;intro y hy;cases hy
 |f,x::l,m,h,hP=>by
  obtain⟨_,y,m',h1,h2,rfl⟩:=Bd.repls_cons h
  intro z hz
  rcases List.mem_cons.1 hz with rfl|hz
  ·exact hP x List.mem_cons_self z h1
  ·exact Bd.repls_each h2 (fun a ha=>hP a (List.mem_cons_of_mem _ ha)) z hz
theorem Bd.repl_fine {s:ByteArray} {b:Sx} (hb:Sx.Fine b):∀ (n:Nat) (x y:Sx),x.size≤n→Sx.Fine x→Bd.repl s b x=some y→Sx.Fine y
 |0,x,_,h,_,_=>absurd x.size_pos (by omega)
 |n+1,x,y,h,hf,hr=>by
  by_cases hl:x.list=true
  ·rw[Bd.repl_l hl] at hr
   cases hm:Bd.repls s b true x.L with
   |none=>rw[hm] at hr;cases hr
   |some m=>
    rw[hm] at hr
    cases hr
    cases hf with
    |mk _ h1 h2 h3=>
    refine .mk _ (by show ByteArray.empty.size≤_;exact Nat.zero_le _) (by show m.length≤_;rw[Bd.repls_len hm];exact h2) fun z hz=>?_
    exact Bd.repls_each hm (fun a ha c hc=>Bd.repl_fine hb n a c (by have:=Sx.size_lt ha;omega) (h3 a ha) hc) z hz
  ·rcases Bd.repl_atom (by simpa using hl) hr with⟨_,_,rfl⟩|⟨_,rfl⟩
   ·exact hb
   ·exact hf
theorem Bd.repls_sizes {s:ByteArray} {b:Sx} {B:Nat}:∀ {f:Bool} {l m:List Sx},Bd.repls s b f l=some m→(∀ x∈l,∀ y,Bd.repl s b x=some y→y.size≤x.size*B)→Sx.sizes m≤Sx.sizes l*B
 |f,[],m,h,_=>by rw[Bd.repls] at h;cases h;exact Nat.zero_le _
 |f,x::l,m,h,hP=>by
  obtain⟨_,y,m',h1,h2,rfl⟩:=Bd.repls_cons h
  have q1:=hP x List.mem_cons_self y h1
  have q2:=Bd.repls_sizes h2 (fun a ha=>hP a (List.mem_cons_of_mem _ ha))
  rw[Sx.sizes,Sx.sizes,Nat.add_mul]
  omega
theorem Bd.repl_size {s:ByteArray} {b:Sx}:∀ (n:Nat) (x y:Sx),x.size≤n→Bd.repl s b x=some y→y.size≤x.size*b.size
 |0,x,_,h,_=>absurd x.size_pos (by omega)
 |n+1,x,y,h,hr=>by
  have hbp:=b.size_pos
  by_cases hl:x.list=true
  ·rw[Bd.repl_l hl] at hr
   cases hm:Bd.repls s b true x.L with
   |none=>rw[hm] at hr;cases hr
   |some m=>
    rw[hm] at hr
    cases hr
    have q:=Bd.repls_sizes (B:=b.size) hm fun a ha c hc=>Bd.repl_size n a c (by have:=Sx.size_lt ha;omega) hc
    rw[Sx.size_eq,x.size_eq,Nat.add_mul]
    show Sx.sizes m+1≤_
    omega
  ·have hx:=x.size_pos
   rcases Bd.repl_atom (by simpa using hl) hr with⟨_,_,rfl⟩|⟨_,rfl⟩
   ·exact Nat.le_mul_of_pos_left _ hx
   ·exact Nat.le_mul_of_pos_right _ hbp
abbrev atomS (s:ByteArray):Sx:=⟨false,3,s,0,0,[]⟩
theorem katomS (w:World) (s:ByteArray):Calls Tryz.prog 25 #[.string s] w fun e w'=>e=.returned (.agg #[.bool false,.int .i64 3,.string s,.int .i64 0,.int .i64 0,.slice none 0 0])∧Below w.heap.size w w':=by
 go_enter Tryz.func25,Tryz.ntmps25
 go_wp2
 exact bodyPost_ret (v:=.agg #[.bool false,.int .i64 3,.string s,.int .i64 0,.int .i64 0,.slice none 0 0]) (by simp[results,Tryz.results25,go_sem]) rfl ⟨rfl,(Below.refl _ w).alloc (Nat.le_refl _) _⟩
end Go.Proofs.YtcgaeknikfaghaaGreatDoor
namespace Go.Proofs.YtcgaeknikfaghaaGreatDoor
open Go.RowKit
structure Three (w w8:World) (t:TypeId) (g1 g2 g3:Nat) (c1 c2 c3:Array Value):Prop where
 below:Below w.heap.size w w8
 l1:Lies w8 g1 t c1
 l2:Lies w8 g2 t c2
 l3:Lies w8 g3 t c3
 new:w.heap.size≤g1∧w.heap.size≤g2∧w.heap.size≤g3
theorem Three.of {w w7:World} (h:Below w.heap.size w w7) (t:TypeId) (c1 c2 c3:Array Value):Three w (((w7.alloc (.cells c1 t)).alloc (.cells c2 t)).alloc (.cells c3 t)) t w7.heap.size (w7.heap.size+1) (w7.heap.size+1+1) c1 c2 c3:=by
 have n1:=Lies.new w7 t c1
 have n2:=Lies.new (w7.alloc (.cells c1 t)) t c2
 have n3:=Lies.new ((w7.alloc (.cells c1 t)).alloc (.cells c2 t)) t c3
 have s1:(w7.alloc (.cells c1 t)).heap.size=w7.heap.size+1:=Array.size_push ..
 have s2:((w7.alloc (.cells c1 t)).alloc (.cells c2 t)).heap.size=w7.heap.size+1+1:=(Array.size_push ..).trans (by rw[s1])
 rw[s1] at n2
 rw[s2] at n3
 have a:=fun(W:World) (o:Obj)=>(Turn.refl (fun _=>False) W).alloc o
 have hs:=h.size
 exact⟨h.trans ((three w7 _ _ _).mono hs),(a _ _).lies ((a _ _).lies n1 id) id,(a _ _).lies n2 id,n3,hs,by omega,by omega⟩
theorem Three.put {w w7:World} (h:Below w.heap.size w w7) {g:Nat} (hl:Lies w7 g 27 Z6) (hg:w.heap.size≤g) (a0 a1 a2 a3 a4 a5:Value) (c1 c2:Array Value):
  Three w (((World.sixP w7 g a0 a1 a2 a3 a4 a5).alloc (.cells c1 27)).alloc (.cells c2 27)) 27 w7.heap.size (w7.heap.size+1) g c1 c2 #[a0,a1,a2,a3,a4,a5]:=by
 have t6:=sixP_turn w7 g a0 a1 a2 a3 a4 a5
 have l6:=sixP_lies hl a0 a1 a2 a3 a4 a5
 have s0:(World.sixP w7 g a0 a1 a2 a3 a4 a5).heap.size=w7.heap.size:=by simp[World.sixP,World.setCell]
 have b6:Below w.heap.size w (World.sixP w7 g a0 a1 a2 a3 a4 a5):=h.trans (t6.below h.size fun k e=>by omega)
 generalize World.sixP w7 g a0 a1 a2 a3 a4 a5=W at*
 have n1:=Lies.new W 27 c1
 have n2:=Lies.new (W.alloc (.cells c1 27)) 27 c2
 have s1:(W.alloc (.cells c1 27)).heap.size=W.heap.size+1:=Array.size_push ..
 rw[s1] at n2
 rw[s0] at n1 n2
 have a:=fun(W:World) (o:Obj)=>(Turn.refl (fun _=>False) W).alloc o
 have b1:=b6.alloc b6.size (.cells c1 27)
 have hs:=h.size
 exact⟨b1.alloc b1.size _,(a _ _).lies n1 id,n2,(a _ _).lies ((a _ _).lies l6 id) id,hs,by omega,hg⟩
end Go.Proofs.YtcgaeknikfaghaaGreatDoor
