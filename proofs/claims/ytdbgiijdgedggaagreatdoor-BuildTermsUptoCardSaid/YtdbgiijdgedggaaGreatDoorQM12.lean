import Derived.Test.YtdbgiijdgedggaaGreatDoorQM03
import Derived.Test.YtdbgiijdgedggaaGreatDoorQM04
import Derived.Lib.ItoaLen
import Derived.WalkSpells
import Derived.WalkLawsBesides
import Derived.Defers
import Derived.Recover
import Derived.Lib.SlicesS
import Derived.Maps.OwnOps
import Derived.Laws.StructEq
import Derived.DeepKeys4
import Derived.MapViews
import Derived.StillTailTactics
import Derived.Outline
import Derived.OwnWalk
import Derived.Deep.RegionLaw
import Derived.WalkKit
set_option linter.unusedSimpArgs false
set_option linter.unusedVariables false
set_option maxRecDepth 100000
set_option maxHeartbeats 25600000
namespace Go.Proofs.YtdbgiijdgedggaaGreatDoor
theorem fi (u:Nat):∀ b∈Lib.decDigits u,48<=b.toNat/\b.toNat<=57:=by
 induction u using Nat.strongRecOn with
 |_ u h=>
  intro b hb
  rw[Lib.decDigits] at hb
  split at hb
  ·rw[F0.1 hb]
   rw[UInt8.toNat_ofNat']
   omega
  ·rcases F7.1 hb with hb|hb
   ·exact h (u/10) (by omega) b hb
   ·rw[F0.1 hb]
    rw[UInt8.toNat_ofNat']
    omega
def ot (l:List UInt8):Nat:=l.foldl (fun a b=>a*10+(b.toNat-48)) 0
theorem qu (l:List UInt8) (b:UInt8):ot (l++[b])=ot l*10+(b.toNat-48):=by unfold ot;rw[List.foldl_append];rfl
theorem lu (u:Nat):ot (Lib.decDigits u)=u:=by
 induction u using Nat.strongRecOn with
 |_ u h=>
  rw[Lib.decDigits]
  split
  ·show 0*10+((UInt8.ofNat (48+u)).toNat-48)=u
   rw[UInt8.toNat_ofNat']
   omega
  ·rw[qu,h (u/10) (by omega),UInt8.toNat_ofNat']
   omega
theorem uc {u v:Nat} (h:Lib.decDigits u=Lib.decDigits v):u=v:=by rw[<-lu u,h,lu]
theorem lE (z:Int):(44:UInt8)∉Lib.itoa z:=by
 intro h
 unfold Lib.itoa at h
 split at h
 ·rcases FE.1 h with h|h
  ·exact absurd h (by decide)
  ·have:=fi _ _ h
   exact absurd this.1 (by decide)
 ·have:=fi _ _ h
  exact absurd this.1 (by decide)
theorem lg {z y:Int} (h:Lib.itoa z=Lib.itoa y):z=y:=by
 have hm:∀ u:Nat,(45:UInt8)∉Lib.decDigits u:=fun u hu=>absurd (fi u _ hu).1 (by decide)
 unfold Lib.itoa at h
 by_cases hz:z<0
 ·by_cases hy:y<0
  ·rw[Fx hz,Fx hy] at h
   have:=uc (Ip h).2
   omega
  ·rw[Fx hz,FQ hy] at h
   exact absurd (by rw[<-h];simp) (hm y.toNat)
 ·by_cases hy:y<0
  ·rw[FQ hz,Fx hy] at h
   exact absurd (by rw[h];simp) (hm z.toNat)
  ·rw[FQ hz,FQ hy] at h
   have:=uc h
   omega
theorem j5 {c:UInt8}:∀ {a b r s:List UInt8},c∉a->c∉b->a++c::r=b++c::s->a=b/\r=s
 |[],[],r,s,_,_,h=>⟨rfl,(Ip h).2⟩
 |[],y::b,r,s,_,hb,h=>by
  have:=(Ip h).1
  exact absurd (by rw[this];simp) hb
 |x::a,[],r,s,ha,_,h=>by
  have:=(Ip h).1
  exact absurd (by rw[<-this];simp) ha
 |x::a,y::b,r,s,ha,hb,h=>by
  obtain⟨I,J⟩:=Ip h
  obtain⟨L,O⟩:=j5 (fun e=>ha (Gd _ e)) (fun e=>hb (Gd _ e)) J
  exact⟨by rw[I,L],O⟩
def Tm.spell:List Int->List UInt8
 |[]=>[]
 |z::l=>Lib.itoa z++44::Tm.spell l
theorem Tm.ij:∀ {l m:List Int},Tm.spell l=Tm.spell m->l=m
 |[],[],_=>rfl
 |[],y::m,h=>by
  rw[Tm.spell,Tm.spell] at h
  have:(44:UInt8)∈([]:List UInt8):=by rw[h];simp
  cases this
 |z::l,[],h=>by
  rw[Tm.spell,Tm.spell] at h
  have:(44:UInt8)∈([]:List UInt8):=by rw[<-h];simp
  cases this
 |z::l,y::m,h=>by
  rw[Tm.spell,Tm.spell] at h
  obtain⟨r,I⟩:=j5 (lE z) (lE y) h
  rw[lg r,Tm.ij I]
theorem Tm.nO:∀ (l m:List Int),Tm.spell (l++m)=Tm.spell l++Tm.spell m
 |[],m=>rfl
 |z::l,m=>by rw[FZ,Tm.spell,Tm.spell,Tm.nO l m];simp
theorem Tm.jN (l:List Int) (z:Int):Tm.spell (l++[z])=Tm.spell l++Lib.itoa z++[44]:=by rw[Tm.nO];simp[Tm.spell]
theorem Tm.jY:∀ {l:List Int},(∀ z∈l,(Lit.int .i64 z).wf=true)->(Tm.spell l).length<=l.length*22
 |[],_=>Fm _
 |z::l,h=>by
  have I:=Tm.jY (l:=l) fun y hy=>h y (Gd _ hy)
  have r:=h z (by simp)
  have hw: -9223372036854775808<=z/\z<=9223372036854775807:=bounds_i64 r
  have J:=Iq z hw.1 hw.2
  rw[Tm.spell,Gb,FG,FG,Nat.succ_mul]
  omega
def Tm.limbs (N:Nat):List Nat:=if _h:N=0 then[] else N % M.BB::Tm.limbs (N/M.BB)
termination_by N
decreasing_by exact Nat.div_lt_self (by omega) (by decide)
theorem Tm.jG (N:Nat):M.val (Tm.limbs N)=N:=by
 induction N using Nat.strongRecOn with
 |_ N r=>
  rw[Tm.limbs]
  split
  ·rename_i h;rw[h];rfl
  ·rename_i h
   rw[M.val,r (N/M.BB) (Nat.div_lt_self (by omega) (by decide))]
   have:=Nat.mod_add_div N M.BB
   omega
theorem Tm.vJ {N K:Nat} (h:Tm.limbs N=Tm.limbs K):N=K:=by rw[<-Tm.jG N,h,Tm.jG]
theorem Tm.mZ (N:Nat):∀ x∈Tm.limbs N,x<M.BB:=by
 induction N using Nat.strongRecOn with
 |_ N I=>
  intro x r
  rw[Tm.limbs] at r
  split at r
  ·cases r
  ·rename_i h
   rcases FE.1 r with rfl|r
   ·exact Nat.mod_lt _ (by decide)
   ·exact I (N/M.BB) (Nat.div_lt_self (by omega) (by decide)) x r
theorem Tm.qh:∀ {l:List Nat},M.Fit l->M.cS l->Tm.limbs (M.val l)=l
 |[],_,_=>by
  show Tm.limbs 0=[]
  rw[Tm.limbs,dif_pos rfl]
 |x::r,hf,ht=>by
  have X:x<M.BB:=hf 0
  have J:M.Fit r:=fun j=>hf (j+1)
  have Q:M.cS r:=fun L=>by
   have:=ht (by simp)
   cases r with
   |nil=>exact absurd rfl L
   |cons y r=>simpa using this
  have V:=Tm.qh J Q
  have hv:M.val (x::r)=x+M.BB*M.val r:=rfl
  have I:M.val (x::r)≠0:=fun e=>by
   have U:x=0:=by omega
   have O:M.val r=0:=by
    rcases Nat.mul_eq_zero.1 (show M.BB*M.val r=0 by omega) with h|h
    ·exact absurd h (by decide)
    ·exact h
   have:r=[]:=by
    rw[O,Tm.limbs,dif_pos rfl] at V
    exact V.symm
   subst this
   exact ht (by simp) (by simpa using U)
  rw[Tm.limbs,dif_neg I,hv,Nat.add_mul_mod_self_left,G9 X,Nat.add_mul_div_left _ _ (by decide),Nat.div_eq_of_lt X,FA,V]
structure Ky where
 op:Int
 sort:Int
 name:ByteArray
 list:ByteArray
def Tm.flat:List (Int×Int)->List Int
 |[]=>[]
 |r::t=>r.1::r.2::Tm.flat t
theorem Tm.qa:∀ {t u:List (Int×Int)},Tm.flat t=Tm.flat u->t=u
 |[],[],_=>rfl
 |[],_::_,h=>by cases h
 |_::_,[],h=>by cases h
 |r::t,s::u,h=>by
  rw[Tm.flat,Tm.flat] at h
  obtain⟨I,h⟩:=Ip h
  obtain⟨J,h⟩:=Ip h
  rw[Tm.qa h,Prod.ext I J]
theorem Tm.bX:∀ t:List (Int×Int),(Tm.flat t).length=2*t.length
 |[]=>rfl
 |r::t=>by rw[Tm.flat,FG,FG,Tm.bX t,FG];omega
theorem Tm.qe:∀ t u:List (Int×Int),Tm.flat (t++u)=Tm.flat t++Tm.flat u
 |[],_=>rfl
 |r::t,u=>by rw[FZ,Tm.flat,Tm.flat,Tm.qe t u];rfl
def Tm.vW (x:Nd):List Int:=x.a++((Tm.limbs x.num).map fun(n:Nat)=>(n:Int))++Tm.flat x.str
def Tm.key (x:Nd):Ky:=⟨x.op,x.sort,x.name,⟨(Tm.spell (Tm.vW x)).toArray⟩⟩
def Tm.Good (x:Nd):Prop:=(x.op=4/\x.a=[]/\x.str=[])\/(x.op=5/\x.a=[]/\x.num=0)\/(x.op≠4/\x.op≠5/\x.num=0/\x.str=[])
theorem Tm.eu:Tm.limbs 0=[]:=by rw[Tm.limbs,dif_pos rfl]
theorem lW:∀ {l m:List Nat},(l.map fun(n:Nat)=>(n:Int))=m.map (fun(n:Nat)=>(n:Int))->l=m
 |[],[],_=>rfl
 |[],_::_,h=>by cases h
 |_::_,[],h=>by cases h
 |x::l,y::m,h=>by
  rw[GK,GK] at h
  obtain⟨r,I⟩:=Ip h
  rw[lW I,Int.ofNat.inj r]
theorem Tm.key_inj {x y:Nd} (O:Tm.Good x) (hy:Tm.Good y) (h:Tm.key x=Tm.key y):x=y:=by
 have Q:x.op=y.op:=G1 Ky.op h
 have U:x.sort=y.sort:=G1 Ky.sort h
 have V:x.name=y.name:=G1 Ky.name h
 have I:Tm.vW x=Tm.vW y:=by
  have:=G1 (fun k:Ky=>k.list.data.toList) h
  exact Tm.ij (by simpa [Tm.key] using this)
 obtain⟨op,sort,a,name,num,str⟩:=x
 obtain⟨Z,sort',a',name',J,L⟩:=y
 simp only at Q U V
 subst Q U V
 unfold Tm.Good at O hy
 simp only at O hy
 unfold Tm.vW at I
 simp only at I
 rcases O with⟨e,rfl,rfl⟩|⟨e,rfl,rfl⟩|⟨e,X,rfl,rfl⟩
 ·rcases hy with⟨_,rfl,rfl⟩|⟨r,_⟩|⟨r,_⟩
  ·have:Tm.limbs num=Tm.limbs J:=lW (by simpa [Tm.flat] using I)
   rw[Tm.vJ this]
  ·omega
  ·exact absurd e r
 ·rcases hy with⟨r,_⟩|⟨_,rfl,rfl⟩|⟨_,r,_⟩
  ·omega
  ·have:Tm.flat str=Tm.flat L:=by simpa [Tm.eu] using I
   rw[Tm.qa this]
  ·exact absurd e r
 ·rcases hy with⟨r,_⟩|⟨r,_⟩|⟨_,_,rfl,rfl⟩
  ·exact absurd r e
  ·exact absurd r X
  ·have:a=a':=by simpa [Tm.eu,Tm.flat] using I
   rw[this]
theorem Tm.AZ {l:List Nd} {x:Nd} (r:∀ x∈l,Tm.Good x) (I:Tm.Good x):Tm.key x∈l.map Tm.key↔x∈l:=by
 constructor
 ·intro h
  obtain⟨y,hy,e⟩:=Hh.1 h
  rw[<-Tm.key_inj (r _ hy) I e]
  exact hy
 ·exact fun h=>Ir h
end Go.Proofs.YtdbgiijdgedggaaGreatDoor
namespace Go.Proofs.YtdbgiijdgedggaaGreatDoor
open Go.RowKit
abbrev Ky.cells (x:Ky):Array Value:=#[.int .i64 x.op,.int .i64 x.sort,.string x.name,.string x.list]
abbrev Ky.v (x:Ky):Value:=.agg #[.int .i64 x.op,.int .i64 x.sort,.string x.name,.string x.list]
structure Ky.Ok (x:Ky):Prop where
 op:(Lit.int .i64 x.op).wf=true
 sort:(Lit.int .i64 x.sort).wf=true
 name:x.name.size<=maxLen
 list:x.list.size<=maxLen
def ja (x:Ky):Lit:=.string (keyBytes [.int .i64 x.op,.int .i64 x.sort,.string x.name.data.toList,.string x.list.data.toList])
theorem wC:laidOutB Tryz.prog=true:=by kernel_rfl
theorem BW:(match Tryz.prog.underlying 208 with|some (.array _ _)|some (.struct _)=>true|_=>false)=true:=by kernel_rfl
theorem Eb:Tryz.prog.keyTypeAt (Tryz.prog.types.size+1) 208=true:=by kernel_rfl
theorem EL:(208:TypeId)<Tryz.prog.types.size:=FX (by kernel_rfl)
theorem uS:Maps.Keyed Tryz.prog 208:=Maps.Keyed.of_law (deep_law_laid wC (m:=3) (by omega) EL (by kernel_rfl) BW)
theorem qO:Tryz.prog.cellsOf 208=4:=by kernel_rfl
theorem pw:Tryz.prog.cellsOf 3=1:=by kernel_rfl
theorem lr:Tryz.prog.cellsOf 9=1:=by kernel_rfl
theorem Cm (x:Ky) (L:x.Ok) (w:World):DataW.Trod (H:=Unit) (fun _=>()) Tryz.prog w 0 (fun _=>true) true 208 x.v (.agg [.lit (.int .i64 x.op),.lit (.int .i64 x.sort),.lit (.string x.name.data.toList),.lit (.string x.list.data.toList)]) []:=by
 obtain⟨h,r,I,J⟩:=L
 exact⟨3,by simp[DataW.trod,Value.cells,Tryz.underlying208,Tryz.underlying3,Tryz.underlying9,qO,pw,lr,h,r,I,J]⟩
theorem zZ (x:Ky):x.v.formed Tryz.prog 208=true:=by simp[Value.formed,Tryz.underlying208,qO]
theorem yg (x:Ky) (h:x.Ok):keyOf Tryz.prog 208 x.v=some (ja x):=by
 have:=(keyOf_asKey Eb BW (zZ x) (Cm x h (World.settled Tryz.prog default))).1
 rw[this]
 rfl
theorem xX {x y:Ky} (r:x.Ok) (hy:y.Ok) (h:ja x=ja y):x=y:=by
 have:=uS.inj (yg x r) (by rw[h];exact yg y hy)
 obtain⟨a,b,c,d⟩:=x
 obtain⟨a',b',I,d'⟩:=y
 simp only[Ky.v,Value.agg.injEq] at this
 simp at this
 obtain⟨rfl,rfl,rfl,rfl⟩:=this
 rfl
theorem EY (x:Ky) (w:World):(binOp .eql 208 x.v x.v).run Tryz.prog w=.ok (.bool true) w:=by
 have hs:=Tryz.underlying9
 have hi:=Tryz.underlying3
 have h:=Tryz.underlying208
 simp[go_sem,hs,hi,h]
theorem DK (p:Addr) (w:World):
  CallsD Tryz.prog 226 #[.pointer (some p)] .returning w fun e r w'=>e=.returned (.tuple #[])/\r=.returning/\w'=w:=by
 refine callsD_of_wpS Tryz.func226 rfl fun h cs hu=>?_
 apply wpS_seq
 apply wpS_region
 simp[wpOpsS,go_sem,recoverD,hu,Tryz.ntmps226,Exit.thenS]
 refine wpS_cond (t:=false) (by simp[Act.eval,Array.replicate]) ?_
 simp only[Bool.false_eq_true,if_false]
 refine wpS_of_wp (wp_skip ?_)
 cases h
 simp_all [bodyPostS,results,Tryz.results226]
theorem BR (x:Ky) (w:World):
  Calls Tryz.prog 173 #[x.v,x.v] w fun e w'=>e=.returned (.bool true)/\Below w.heap.size w w':=by
 have h:∀ (fn:Fn) (first cap:Array Value) (w:World),(Instr.makeFunc fn first cap).run Tryz.prog w=.ok (.func fn first cap) w:=fun _ _ _ _=>rfl
 have I:=fun w=>EY x w
 go_enter_defers Tryz.func173,Tryz.ntmps173
 go_wp2
 refine leaves_cons (f:=226) (args:=#[.pointer (some ⟨w.heap.size+1+1,0,none⟩)]) (by simp) (by simp[go_sem]) ?_
 refine(DK ⟨w.heap.size+1+1,0,none⟩ _).mono ?_
 rintro e J r ⟨rfl,rfl,rfl⟩
 have hb:Below w.heap.size w (((w.alloc (.cells x.cells 208)).alloc (.cells x.cells 208)).alloc (.cells #[.bool true] 4)):=(((Gp _ _).alloc (Fm _) _).alloc (by simp) _).alloc (by simp;omega) _
 simp[Leaves,settle,results,Tryz.results173,go_sem]
 exact hb
structure j0 (D:DataW Unit) (ks:List Ky):Prop where
 hit:∀ (i:Nat) x,ks[i]?=some x->Maps.has D (ja x)=true/\D.atKey (ja x) (.lit (.int .i64 0))=.lit (.int .i64 (i:Int))
 miss:∀ x:Ky,x.Ok->x∉ks->Maps.has D (ja x)=false
 size:Maps.size D=ks.length
def nB (w:World) (F:Nat->Prop) (m:Value) (h:List Ky):Prop:=
 (m=.map none/\h=[])\/∃ b D,m=.map (some b)/\F b/\w.ownsMap Tryz.prog 208 (plainElem Tryz.prog 3) b h.length D/\j0 D h
abbrev kz (x:Ky):List Value:=x.cells.toList
abbrev bU (ks:List Ky):List Value:=ks.flatMap kz
structure fJ (w:World) (F:Nat->Prop) (tb:Nat) (ks:List Ky) (V:Value):Prop where
 lies:∃ m v,aa w tb 37 #[m,v,V]/\w.ownsRow 0 208 4 v ks.length (bU ks)/\(∀ g,v.ownBlock=some g->F g)/\nB w F m ks
 ok:∀ x∈ks,x.Ok
 jP:F tb
 lt:∀ i,F i->i<w.heap.size
 few:ks.length<=1000000
theorem nB.turn {w w':World} {F G:Nat->Prop} {m:Value} {I:List Ky} (h:nB w F m I) (ht:ae G w w') (J:∀ i,F i->¬G i):nB w' F m I:=by
 rcases h with h|⟨b,D,rfl,hF,L,r⟩
 ·exact .inl h
 ·exact .inr ⟨b,D,rfl,hF,ht.map L (J b hF),r⟩
theorem fJ.turn {w w':World} {F G:Nat->Prop} {I:Nat} {L:List Ky} {V:Value} (h:fJ w F I L V) (ht:ae G w w') (r:∀ i,F i->¬G i):fJ w' F I L V:=by
 obtain⟨⟨m,v,O,Q,J,U⟩,ok,jP,lt,few⟩:=h
 exact⟨⟨m,v,ht.lies O (r I jP),ht.own Q (fun g X=>r g (J g X)),J,U.turn ht r⟩,ok,jP,fun i hi=>Fp (lt i hi) ht.size,few⟩
theorem fJ.below {w w':World} {F:Nat->Prop} {I:Nat} {r:List Ky} {V:Value} (h:fJ w F I r V) (hb:Below w.heap.size w w'):fJ w' F I r V:=
 h.turn (G:=fun _=>False) (ae.af hb) (fun _ _ e=>e)
theorem fJ.new (w:World) (V:Value):fJ (w.alloc (.cells #[.map none,.slice none 0 0,V] 37)) (fun i=>i=w.heap.size) w.heap.size [] V:=
 ⟨⟨_,_,aa.new _ _ _,Gg _ _ _ _,(fun g r=>by cases r),.inl ⟨rfl,rfl⟩⟩,fun _ h=>absurd h FD,rfl,fun i hi=>by subst hi;simp,by simp⟩
theorem Cn (h:List Ky):∀ u∈bU h,u.oneCell'=true:=by
 intro u hu
 obtain⟨q,_,hu⟩:=GJ.1 hu
 simp[kz] at hu
 rcases hu with rfl|rfl|rfl|rfl <;> rfl
def xF (h:List Ky) (x:Ky) (i:Int) (b:Bool):Prop:=(b=true/\∃ n:Nat,h[n]?=some x/\i=n)\/(b=false/\x∉h/\i=0)
theorem D1 {w:World} {mb q:Nat} {D:DataW Unit} {x:Ky} {i:Int} {b:Bool} (L:w.ownsMap Tryz.prog 208 (plainElem Tryz.prog 3) mb q D) (O:x.Ok) (J:Maps.has D (ja x)=b) (hc:D.atKey (ja x) (.lit (.int .i64 0))=.lit (.int .i64 i)):
  (Instr.lookup 31 (.map (some mb)) x.v true).run Tryz.prog w=.ok (.tuple #[.int .i64 i,.bool b]) w:=by
 obtain⟨v,ps,h,hv⟩:=L.look_ok uS Tryz.underlying31 (ik w) (Iu Tryz.underlying3 (by decide)) (yg x O)
 obtain⟨c,rfl,I,_⟩:=plainElem_int_inv Tryz.underlying3 hv
 rw[h,J]
 have r:=G1 Prod.fst I
 simp only at r
 rw[hc] at r
 rw[eM r]
theorem Ca (w:World) (F:Nat->Prop) (tb:Nat) (ks:List Ky) (V:Value) (x:Ky) (i:Int) (b:Bool) (hb:xF ks x i b) (hx:x.Ok) (h:fJ w F tb ks V):
  Calls Tryz.prog 125 #[.pointer (some ⟨tb,0,none⟩),x.v] w fun e w'=>e=.returned (.tuple #[.int .i64 i,.bool b])/\Below w.heap.size w w':=by
 obtain⟨⟨m,v,h1,h2,h3,h4⟩,ok,jP,lt,few⟩:=h
 have L:=yg x hx
 have ah:=h1.lt
 have c0:=h1.cell 0
 simp at c0
 have X:Hid (∀ W,Below w.heap.size w W->(Instr.lookup 31 m x.v true).run Tryz.prog W=.ok (.tuple #[.int .i64 i,.bool b]) W):=fun W hW=>by
  rcases h4 with⟨rfl,rfl⟩|⟨mb,D,rfl,hF,ho,ht⟩
  ·obtain⟨rfl,rfl⟩:b=false/\i=0:=by
    rcases hb with⟨_,n,hn,_⟩|⟨h1,_,h2⟩
    ·simp at hn
    ·exact⟨h1,h2⟩
   have:=Maps.look_nil (w:=W) (P:=Tryz.prog) true uS Tryz.underlying31 (ik W) L
   simpa using this
  ·refine D1 ((ae.af (F:=fun _=>False) hW).map ho id) hx ?_ ?_
   ·rcases hb with⟨rfl,n,hn,_⟩|⟨rfl,hn,_⟩
    ·exact(ht.hit n x hn).1
    ·exact ht.miss x hx hn
   ·rcases hb with⟨rfl,n,hn,rfl⟩|⟨rfl,hn,rfl⟩
    ·exact(ht.hit n x hn).2
    ·exact Maps.atKey_of_not_has (ht.miss x hx hn) _
 clear h1 h2 h3 h4 ok jP lt few hb hx L
 obtain⟨Z,U⟩:∃ Z,w.alloc (.cells x.cells 208)=Z:=⟨_,rfl⟩
 have ad:Below w.heap.size w Z:=by rw[<-U];exact(Gp _ w).alloc (Fm _) _
 have r:aa Z w.heap.size 208 x.cells:=by rw[<-U];exact aa.new w _ _
 have HS:=Gn (BR x Z)
 have O:=Gn ad
 have Q:=Gn r
 have l0:=r.cell 0
 have l1:=r.cell 1
 have l2:=r.cell 2
 have l3:=r.cell 3
 simp at l0 l1 l2 l3
 have HC:Hid (w.cell? ⟨tb,0,none⟩=some m):=c0
 clear c0 ad r
 go_enter Tryz.func125,Tryz.ntmps125
 go_wp2_with fail
 refine HS.out.mono ?_
 rintro e w1 ⟨rfl,b1⟩
 have J:=O.out.trans (b1.mono O.out.size)
 have I:aa w1 w.heap.size 208 x.cells:=(b1.block _ Q.out.lt).trans Q.out
 have c0:w1.cell? ⟨tb,0,none⟩=some m:=(J.cell (p:=⟨tb,0,none⟩) ah).trans HC.out
 have av:∀ n,(Instr.lookup 31 m (.agg #[.int .i64 x.op,.int .i64 x.sort,.string x.name,.string x.list]) true).run Tryz.prog (w1.drewN n)=.ok (.tuple #[.int .i64 i,.bool b]) (w1.drewN n):=fun n=>X.out _ (below_drewN J n)
 clear l0 l1 l2 l3
 have l0:=I.cell 0
 have l1:=I.cell 1
 have l2:=I.cell 2
 have l3:=I.cell 3
 simp at l0 l1 l2 l3
 have ao:=Gn J
 clear HS O Q HC X b1 J I U ah
 go_wp2_with fail
 go_quiet (fail)
 go_wp2
 go_ret2
 exact⟨rfl,below_drewN ao.out _⟩
def cM (w:World) (F:Nat->Prop) (r:Nat) (h:List Ky) (V:Value) (w':World):Prop:=
 ∃ F':Nat->Prop,fJ w' F' r h V/\ae F w w'/\(∀ i,F i->F' i)/\∀ i,F' i->F i\/w.heap.size<=i
theorem cM.after {w O Q:World} {F I:Nat->Prop} {L:Nat} {J:List Ky} {V:Value} (h:cM O I L J V Q) (ht:ae F w O) (hF:∀ i,F i->I i) (r:∀ i,I i->F i\/w.heap.size<=i):cM w F L J V Q:=by
 obtain⟨U,X,Z,h3,h4⟩:=h
 exact⟨U,X,ht.trans Z r,fun i hi=>h3 i (hF i hi),fun i hi=>(h4 i hi).elim (r i) (fun e=> .inr (Fo ht.size e))⟩
structure mW (w:World) (F:Nat->Prop) (tb:Nat) (ks:List Ky) (x:Ky) (m V:Value):Prop where
 lies:∃ v,aa w tb 37 #[m,v,V]/\w.ownsRow 0 208 4 v (ks.length+1) (bU (ks++[x]))/\(∀ g,v.ownBlock=some g->F g)
 notes:nB w F m ks
 ok:∀ x∈ks,x.Ok
 jP:F tb
 lt:∀ i,F i->i<w.heap.size
 few:ks.length<1000000
theorem mW.below {w w':World} {F:Nat->Prop} {I:Nat} {r:List Ky} {x:Ky} {m V:Value} (h:mW w F I r x m V) (hb:Below w.heap.size w w'):mW w' F I r x m V:=by
 obtain⟨⟨v,J,L,O⟩,Q,ok,jP,lt,few⟩:=h
 have ht:=ae.af (F:=fun _=>False) hb
 exact⟨⟨v,ht.lies J id,ht.own L (fun _ _=>id),O⟩,Q.turn ht (fun _ _=>id),ok,jP,fun i hi=>Fp (lt i hi) hb.size,few⟩
theorem j0.put {D:DataW Unit} {J:List Ky} {x:Ky} (h:j0 D J) (ht:Maps.Tidy D) (U:x∉J) (O:x.Ok) (r:∀ y∈J,y.Ok):j0 (D.put (ja x) (.lit (.int .i64 (J.length:Nat)))) (J++[x]):=by
 have L:WideAt.IsKeyLit (ja x):=by trivial
 have I:∀ y:Ky,y.Ok->y≠x->ja y≠ja x:=fun y hy hn e=>hn (xX hy O e)
 refine⟨fun i y hy=>?_,fun y Q hy=>?_,?_⟩
 ·rcases GX i J.length with e|e
  ·rw[FO e] at hy
   have hm:=FP hy
   have hn:y≠x:=fun e=>U (e▸hm)
   obtain⟨V,X⟩:=h.hit i y hy
   exact⟨by rw[Iv (I y (r y hm) hn)];exact V,by rw[Maps.atKey_put_other (I y (r y hm) hn)];exact X⟩
  ·have hi:=(Fg.1 hy).1
   simp at hi
   obtain rfl:i=J.length:=by omega
   obtain rfl:x=y:=by simpa using hy
   exact⟨by rw[Maps.has_put_same ht.isMap L],by rw[Maps.atKey_put_same ht.isMap L]⟩
 ·simp at hy
  rw[Iv (I y Q hy.2)]
  exact h.miss y Q hy.1
 ·rw[Maps.size_put ht,h.miss x O U]
  simp[h.size]
theorem j0.none_:j0 (.map []) []:=⟨fun i x h=>by simp at h,fun x _ _=>by simp[Maps.has],rfl⟩
theorem Ee (w:World) (F:Nat->Prop) (I:Nat) (L:List Ky) (x:Ky) (m V:Value) (hx:x∉L) (ad:x.Ok) (h:mW w F I L x m V):
  Calls Tryz.prog 174 #[.pointer (some ⟨I,0,none⟩),x.v,.int .i64 (L.length:Nat)] w fun e w'=>e=.returned (.tuple #[])/\cM w F I (L++[x]) V w':=by
 obtain⟨W,hW⟩:∃ W,w.alloc (.cells x.cells 208)=W:=⟨_,rfl⟩
 have hB:Below w.heap.size w W:=by rw[<-hW];exact(Gp _ w).alloc (Fm _) _
 have hL:aa W w.heap.size 208 x.cells:=by rw[<-hW];exact aa.new w _ _
 have bb:Hid (∀ w',cM W F I (L++[x]) V w'->cM w F I (L++[x]) V w'):=fun w' q=>q.after (ae.af hB) (fun _ e=>e) (fun _ e=> .inl e)
 have h0:=h.below hB
 have bo:w.heap.size<W.heap.size:=hL.lt
 have a7:I≠w.heap.size:=fun e=>by have:=h.lt I h.jP;omega
 have bl:∀ i,F i->i≠w.heap.size:=fun i hi e=>by have:=h.lt i hi;omega
 obtain⟨⟨v,h1,h2,h3⟩,h4,ok,jP,lt,few⟩:=h0
 have ao:=yg x ad
 have bC:=h1.lt
 have c0:=h1.cell 0
 have f0:=h1.free 0
 simp at c0
 have ba:∀ y∈L++[x],y.Ok:=fun y hy=>by
  rw[F7,F0] at hy
  rcases hy with hy|rfl
  ·exact ok y hy
  ·exact ad
 have Q:∀ (F':Nat->Prop) (mb:Nat) (D:DataW Unit) (w':World),aa w' I 37 #[.map (some mb),v,V]->w'.ownsRow 0 208 4 v (L.length+1) (bU (L++[x]))->
   w'.ownsMap Tryz.prog 208 (plainElem Tryz.prog 3) mb (L.length+1) D->j0 D (L++[x])->F' mb->ae F W w'->(∀ i,F i->F' i)->(∀ i,F' i->(F i\/W.heap.size<=i)/\i<w'.heap.size)->cM W F I (L++[x]) V w':=
  fun F' mb D w' q1 q2 q3 q4 q5 q6 q7 q8=>⟨F',⟨⟨_,v,q1,by simpa using q2,fun g Z=>q7 g (h3 g Z),.inr ⟨mb,D,rfl,q5,by simpa using q3,q4⟩⟩,ba,q7 I jP,fun i hi=>(q8 i hi).2,by simp;omega⟩,q6,q7,fun i hi=>(q8 i hi).1⟩
 have l0:=hL.cell 0
 have l1:=hL.cell 1
 have l2:=hL.cell 2
 have l3:=hL.cell 3
 simp at l0 l1 l2 l3
 have bD:=@run_makeMap Tryz.prog
 have bB:∀ (w:World) (r:Option Nat),(binOp .eql 31 (.map r) (.map none)).run Tryz.prog w=.ok (.bool r.isNone) w:=fun w r=>run_eql_map_nil w 31 208 3 r Tryz.underlying31
 rcases h4 with⟨rfl,rfl⟩|⟨mb,D,rfl,hF,ho,ht⟩
 ·have av:=h1
  have a1:=h2
  obtain⟨U,X⟩:∃ U,(W.setCell ⟨I,0,none⟩ (.map (some W.heap.size))).alloc (.map #[] 0)=U:=⟨_,rfl⟩
  have bn:(W.setCell ⟨I,0,none⟩ (.map (some W.heap.size))).heap.size=W.heap.size:=by simp[World.setCell]
  have q1:U.ownsMap Tryz.prog 208 (plainElem (H:=Unit) Tryz.prog 3) W.heap.size 0 (.map []):=by
   have:=World.ownsMap_made (W.setCell ⟨I,0,none⟩ (.map (some W.heap.size))) Tryz.prog 208 (plainElem (H:=Unit) Tryz.prog 3)
   rw[bn,X] at this
   exact this
  have t1:ae F W U:=by rw[<-X];exact((ae.refl F W).put (p:=⟨I,0,none⟩) (.inl jP) _).alloc _
  have ah:aa U I 37 #[.map (some W.heap.size),v,V]:=by
   have l1:aa (W.setCell ⟨I,0,none⟩ (.map (some W.heap.size))) I 37 #[.map (some W.heap.size),v,V]:=av.put 0 _
   rw[<-X]
   exact((ae.refl (fun _=>False) (W.setCell ⟨I,0,none⟩ (.map (some W.heap.size)))).alloc (.map #[] 0)).lies l1 id
  have s1:U.heap.size=W.heap.size+1:=by rw[<-X];simp[World.setCell]
  have o1:U.ownsRow 0 208 4 v (([]:List Ky).length+1) (bU ([]++[x])):=by
   have bx:∀ g,v.ownBlock=some g->g≠I:=fun g Z e=>aT a1 av (by decide) (e▸Z)
   rw[<-X]
   exact(((ae.refl (fun i=>i=I) W).put (p:=⟨I,0,none⟩) (.inl rfl) (.map (some W.heap.size))).alloc (.map #[] 0)).own a1 bx
  have HF:Hid (∀ W2,W2.ownsMap Tryz.prog 208 (plainElem (H:=Unit) Tryz.prog 3) W.heap.size (0+1) ((DataW.map []).put (ja x) (.lit (.int .i64 ((([]:List Ky).length:Nat):Int))))->U.drew.grownBy W2 (some W.heap.size)->cM W F I ([]++[x]) V W2):=fun W2 g1 g2=>by
   have t2:ae F W W2:=t1.drew.trans (G:=fun i=>i=W.heap.size) (ae.aB g2 (fun g e _=>(Fk e).symm)) (fun i e=> .inr (Nat.le_of_eq e.symm))
   have hs:W.heap.size+1<=W2.heap.size:=Fo (Nat.le_of_eq s1.symm) g2.size
   have l3:aa W2 I 37 #[.map (some W.heap.size),v,V]:=(ae.aB (F:=fun i=>i=W.heap.size) g2 (fun g e _=>(Fk e).symm)).lies ah (by omega)
   have hv:∀ g,v.ownBlock=some g->g<W.heap.size:=fun g Z=>lt g (h3 g Z)
   have o3:=(ae.aB (F:=fun i=>i=W.heap.size) g2 (fun g e _=>(Fk e).symm)).own (show U.drew.ownsRow 0 208 4 v (([]:List Ky).length+1) (bU ([]++[x])) from o1) (fun g Z e=>by have:=hv g Z;omega)
   exact Q (fun i=>F i\/i=W.heap.size) W.heap.size _ W2 l3 o3 g1 (j0.none_.put Maps.tidy_empty FD ad (fun y hy=>absurd hy FD)) (.inr rfl) t2 (fun i hi=> .inl hi)
    (fun i hi=>by
     rcases hi with hi|hi
     ·exact⟨.inl hi,by have:=lt i hi;omega⟩
     ·exact⟨.inr (Nat.le_of_eq hi.symm),by omega⟩)
  have HK:Hid (U.cell? ⟨I,0,none⟩=some (.map (some W.heap.size))/\aa U w.heap.size 208 x.cells/\I<U.heap.size):=by
   refine⟨by rw[ah.cell];rfl,?_,ah.lt⟩
   rw[<-X]
   exact(((ae.refl (fun i=>i=I) W).put (p:=⟨I,0,none⟩) (.inl rfl) (.map (some W.heap.size))).alloc (.map #[] 0)).lies hL (fun e=>a7 e.symm)
  have Q1:=Gn q1
  clear Q h1 h2 h3 ok ba jP lt few hx av a1 bn q1 t1 ah s1 o1 h hL hB bo a7 bl
  go_enter Tryz.func174,Tryz.ntmps174
  go_wp2_with fail
  obtain⟨k0,kL,bE⟩:=HK.out
  clear l0 l1 l2 l3 c0 f0
  have l0:=kL.cell 0
  have l1:=kL.cell 1
  have l2:=kL.cell 2
  have l3:=kL.cell 3
  simp at l0 l1 l2 l3
  clear HK kL
  go_still_tail 6,(by kernel_rfl)
  change wpList _ _ _ _ _ U.drew
  refine Iw _ rfl _ _ _ 31 rfl 208 3 uS Tryz.underlying31 _ W.heap.size 0 _ rfl Q1.out.drew (by unfold maxLen;omega) _ _ _ rfl rfl ao _ [] (Iu Tryz.underlying3 (om (by simp))) ?_
  intro w1 O J
  go_wp2
  go_end0
  exact⟨rfl,bb.out _ (HF.out _ O J)⟩
 ·have HF:Hid (∀ W2,W2.ownsMap Tryz.prog 208 (plainElem (H:=Unit) Tryz.prog 3) mb (L.length+1) (D.put (ja x) (.lit (.int .i64 (L.length:Nat))))->W.drew.grownBy W2 (some mb)->cM W F I (L++[x]) V W2):=fun W2 g1 g2=>by
   have t2:ae F W W2:=((ae.refl F W).drew).trans (G:=F) (ae.aB g2 (fun g e _=>Fk e▸hF)) (fun _ e=> .inl e)
   have l3:=(ae.aB (F:=fun i=>i=mb) g2 (fun g e _=>(Fk e).symm)).lies (show aa W.drew I 37 _ from h1) (fun e=>ed h1 ho e)
   have o3:=(ae.aB (F:=fun i=>i=mb) g2 (fun g e _=>(Fk e).symm)).own (show W.drew.ownsRow 0 208 4 v (L.length+1) (bU (L++[x])) from h2) (fun g Z e=>dW h2 ho (e▸Z))
   exact Q F mb _ W2 l3 o3 g1 (ht.put (ho.tidy uS) hx ad ok) hF t2 (fun i hi=>hi) (fun i hi=>⟨.inl hi,Fp (lt i hi) g2.size⟩)
  obtain⟨n,hn⟩:∃ n,n=L.length:=⟨_,rfl⟩
  rw[<-hn] at ho few HF ⊢
  have bp:n<maxLen:=by unfold maxLen;omega
  have bz:(Lit.int .i64 (n:Int)).wf=true:=om (by omega)
  have HO:=Gn ho
  clear Q h1 h2 h3 ok ba jP lt hx ht hn h hL hB bo a7 bl ho
  go_enter Tryz.func174,Tryz.ntmps174
  go_wp2_with fail
  go_still_tail 6,(by kernel_rfl)
  change wpList _ _ _ _ _ W.drew
  refine Iw _ rfl _ _ _ 31 rfl 208 3 uS Tryz.underlying31 _ mb n _ rfl HO.out.drew bp _ _ _ rfl rfl ao _ [] (Iu Tryz.underlying3 bz) ?_
  intro w1 O J
  go_wp2
  go_end0
  exact⟨rfl,bb.out _ (HF.out _ O J)⟩
theorem ay {P:Program} {w:World} {ops:Array Oper} {o:Oper} {a:Act} {K:Act->World->Prop} {Q:Exit->Act->World->Prop} {E:Prop} (ah:o.guard=none) (s x:Operand) (t:TypeId)
  (ho:o.op=.call { callee:=.builtin .append,args:=#[s,x],argTypes:=#[t,t] })
  (base:Nat) (e:TypeId) (i:TypeInfo) (z:Value) (size bytes:Nat) (ht:P.underlying t=some (.slice e)) (hi:P.info? e=some i) (hz:i.zero=some z)
  (L:i.size=size) (Z:i.bytes=bytes) (av:z.cells.size=size) (ao:0<size)
  (v:Value) (n:Nat) (xs:List Value) (hs:a.eval s=v) (U:w.ownsRow base e size v n xs)
  (V:Addr) (m c:Nat) (news:List Value) (hx:a.eval x=.slice (some V) m c) (hl:news.length=m*size) (J:∀ j u,news[j]?=some u->w.cell? (V.add j)=some u) (h1:∀ u∈news,u.oneCell'=true)
  (X:n+m<=maxLen) (r:(n+m)*bytes<=140737488355328) (I:base<=w.heap.size)
  (h:∀ A' O w',w'.ownsRow base e size (.slice A' (n+m) O) (n+m) (xs++news)->w.grownBy w' v.ownBlock->((Value.slice A' (n+m) O).ownBlock=v.ownBlock\/(Value.slice A' (n+m) O).ownBlock=some w.heap.size)->K (a.put o.dst (.slice A' (n+m) O)) w'):
  if Region.wanted o (yielded ops a.tmps)=true then Oper.wp P o a w K Q else E:=by
 have hw:Region.wanted o (yielded ops a.tmps)=true:=by simp[Region.wanted,ah]
 rw[Fx hw]
 obtain⟨v',w',hr,q1,q2,_,q4⟩:=Fy (P:=P) w base t o.type e i z size bytes ht hi hz L Z av ao v n xs U V m c news hl J h1 X r I
 obtain⟨A',O,rfl⟩:=aI q1
 unfold Oper.wp
 simp[execOp,ho,resolve,invoke,builtin,hs,hx,hr,Result.andThen]
 exact h A' O w' q1 q2 q4
theorem Du:(Tryz.prog.info? 208).map (fun i=>(i.zero,i.size,i.bytes))=some (some (.agg #[.int .i64 0,.int .i64 0,.string ByteArray.empty,.string ByteArray.empty]),4,48):=by kernel_rfl
theorem fJ.keys {w:World} {F:Nat->Prop} {U:Nat} {r:List Ky} {V:Value} (h:fJ w F U r V):∃ m A c,aa w U 37 #[m,.slice A r.length c,V]/\w.ownsRow 0 208 4 (.slice A r.length c) r.length (bU r)/\(∀ g,(Value.slice A r.length c).ownBlock=some g->F g)/\nB w F m r:=by
 obtain⟨⟨m,v,L,I,O,Q⟩,_⟩:=h
 rcases I.2 with⟨rfl,J⟩|⟨g,cap,cur,rfl,_⟩
 ·exact⟨m,none,0,by rw[J];exact L,by rw[J] at I ⊢;exact I,by rw[J];exact O,Q⟩
 ·exact⟨m,_,_,L,I,O,Q⟩
theorem DP (x:Ky) (w:World) (j:Nat) (u:Value) (h:(kz x)[j]?=some u):(w.alloc (.cells x.cells 208)).cell? ((⟨w.heap.size,0,none⟩:Addr).add j)=some u:=by
 rw[addr_add,FA,(aa.new w 208 x.cells).cell]
 simpa [kz] using h
theorem Ba {x:Ky} {j:Nat} {u:Value} (h:(bU [x])[j]?=some u):(kz x)[j]?=some u:=by simpa [bU] using h
theorem yP (w:World) (F:Nat->Prop) (r:Nat) (J:List Ky) (V:Value) (x:Ky) (hx:x∉J) (bn:x.Ok) (hl:J.length<1000000) (h:fJ w F r J V):
  Calls Tryz.prog 126 #[.pointer (some ⟨r,0,none⟩),x.v] w fun e w'=>e=.returned (.tuple #[.int .i64 (J.length:Nat),.bool true])/\cM w F r (J++[x]) V w':=by
 obtain⟨W,hW⟩:∃ W,w.alloc (.cells x.cells 208)=W:=⟨_,rfl⟩
 have hB:Below w.heap.size w W:=by rw[<-hW];exact(Gp _ w).alloc (Fm _) _
 have hL:aa W w.heap.size 208 x.cells:=by rw[<-hW];exact aa.new w _ _
 have bz:Hid (∀ w',cM W F r (J++[x]) V w'->cM w F r (J++[x]) V w'):=fun w' q=>q.after (ae.af hB) (fun _ e=>e) (fun _ e=> .inl e)
 have h0:=h.below hB
 have bD:r≠w.heap.size:=fun e=>by have:=h.lt r h.jP;omega
 have HC:=Gn (Ca W F r J V x 0 false (.inr ⟨rfl,hx,rfl⟩) bn h0)
 obtain⟨m,A,c,h1,h2,h3,h4⟩:=h0.keys
 obtain⟨_,ok,jP,lt,few⟩:=h0
 obtain⟨i0,hi,bT,b2,b3⟩:=Gj Du
 have bl:=h1.lt
 have c1:=h1.cell 1
 simp at c1
 have a7:∀ g,(Value.slice A J.length c).ownBlock=some g->g≠r:=fun g hg e=>aT h2 h1 (by decide) (e▸hg)
 have bB:∀ g,(Value.slice A J.length c).ownBlock=some g->g≠w.heap.size:=fun g hg e=>by have:=h.lt g (h3 g hg);omega
 have bC:∀ b D,m=.map (some b)->W.ownsMap Tryz.prog 208 (plainElem (H:=Unit) Tryz.prog 3) b J.length D->(Value.slice A J.length c).ownBlock≠some b:=fun b D _ ho=>dW h2 ho
 have HW:Hid (∀ I,Below W.heap.size W I->r<I.heap.size/\I.cell? ⟨r,1,none⟩=some (.slice A J.length c)/\I.drew.ownsRow 0 208 4 (.slice A J.length c) J.length (bU J)/\aa I w.heap.size 208 x.cells):=fun I X=>
  ⟨Fp bl X.size,(X.cell (p:=⟨r,1,none⟩) bl).trans c1,(ae.af (F:=fun _=>False) X).own h2 (fun _ _=>id),(X.block _ hL.lt).trans hL⟩
 have HA:Hid (∀ I O,Below W.heap.size W I->(I.drew.alloc (.cells x.cells 208)).grownBy O (Value.slice A J.length c).ownBlock->r<O.heap.size/\O.cell? ⟨r,1,none⟩=some (.slice A J.length c)/\O.frozen? ⟨r,1,none⟩=false):=fun I O X g1=>by
  have l1:aa I.drew r 37 _:=(ae.af (F:=fun _=>False) X).lies h1 id
  have l2:=((ae.refl (fun _=>False) I.drew).alloc (.cells x.cells 208)).lies l1 id
  have l3:=(ae.aB (F:=fun i=>i≠r) g1 (fun g e _=>a7 g e)).lies l2 (fun e=>e rfl)
  exact⟨l3.lt,by rw[l3.cell 1];rfl,l3.free 1⟩
 have ba:Hid (∀ I v' O,Below W.heap.size W I->(I.drew.alloc (.cells x.cells 208)).grownBy O (Value.slice A J.length c).ownBlock->aa (O.setCell ⟨r,1,none⟩ v') w.heap.size 208 x.cells):=fun I v' O X g1=>by
  have l1:aa I.drew w.heap.size 208 x.cells:=(X.block _ hL.lt).trans hL
  have l2:=((ae.refl (fun _=>False) I.drew).alloc (.cells x.cells 208)).lies l1 id
  have l3:=(ae.aB (F:=fun i=>i≠w.heap.size) g1 (fun g e _=>bB g e)).lies l2 (fun e=>e rfl)
  exact((ae.refl (fun i=>i=r) O).put (p:=⟨r,1,none⟩) (.inl rfl) v').lies l3 (fun e=>bD e.symm)
 have HB:Hid (∀ I v' O Q,Below W.heap.size W I->(I.drew.alloc (.cells x.cells 208)).grownBy O (Value.slice A J.length c).ownBlock->O.ownsRow 0 208 4 v' (J.length+1) (bU J++bU [x])->
   (v'.ownBlock=(Value.slice A J.length c).ownBlock\/v'.ownBlock=some (I.drew.alloc (.cells x.cells 208)).heap.size)->Below (O.setCell ⟨r,1,none⟩ v').heap.size (O.setCell ⟨r,1,none⟩ v') Q->
   mW Q (fun i=>F i\/(W.heap.size<=i/\i<Q.heap.size)) r J x m V/\ae F W Q):=fun I v' O Q X g1 o1 hv b4=>by
  have t1:ae F W (I.drew.alloc (.cells x.cells 208)):=((ae.af X).drew).alloc _
  have t2:ae F W O:=t1.trans (G:=F) (ae.aB g1 (fun g e _=>h3 g e)) (fun i hi=> .inl hi)
  have t3:ae F W (O.setCell ⟨r,1,none⟩ v'):=t2.put (p:=⟨r,1,none⟩) (.inl jP) _
  have t4:ae F W Q:=t3.step b4
  have s1:=(World.grownBy_alloc I.drew (.cells x.cells 208) none).size
  have s2:=g1.size
  have s4:=b4.size
  have s3:(O.setCell ⟨r,1,none⟩ v').heap.size=O.heap.size:=by simp[World.setCell]
  have l1:aa I.drew r 37 _:=(ae.af (F:=fun _=>False) X).lies h1 id
  have l2:=((ae.refl (fun _=>False) I.drew).alloc (.cells x.cells 208)).lies l1 id
  have l3:=(ae.aB (F:=fun i=>i≠r) g1 (fun g e _=>a7 g e)).lies l2 (fun e=>e rfl)
  have l4:aa (O.setCell ⟨r,1,none⟩ v') r 37 #[m,v',V]:=l3.put 1 v'
  have l5:=(ae.af (F:=fun _=>False) b4).lies l4 id
  have b5:W.heap.size<=I.drew.heap.size:=X.size
  have bP:∀ g,v'.ownBlock=some g->g≠r:=fun g hg=>by
   rcases hv with e|e
   ·exact a7 g (e▸hg)
   ·rw[e] at hg
    have:=Fk hg
    omega
  have o2:=((ae.refl (fun i=>i=r) O).put (p:=⟨r,1,none⟩) (.inl rfl) v').own o1 bP
  have o3:=(ae.af (F:=fun _=>False) b4).own o2 (fun _ _=>id)
  refine⟨⟨⟨v',l5,by simpa using o3,fun g hg=>?_⟩,?_,ok,.inl jP,fun i hi=>?_,hl⟩,t4⟩
  ·rcases hv with e|e
   ·exact .inl (h3 g (e▸hg))
   ·refine .inr ⟨?_,(o3.lt g hg).2⟩
    rw[e] at hg
    have:=Fk hg
    omega
  ·rcases h4 with h4|⟨b,D,rfl,hF,ho,ht⟩
   ·exact .inl h4
   ·refine .inr ⟨b,D,rfl,.inl hF,?_,ht⟩
    have u1:=(((ae.af (F:=fun _=>False) X).drew).alloc (.cells x.cells 208)).map ho id
    have u2:=(ae.aB (F:=fun i=>i≠b) g1 (fun g e _ he=>bC b D rfl ho (he▸e))).map u1 (fun e=>e rfl)
    have u3:=((ae.refl (fun i=>i=r) O).put (p:=⟨r,1,none⟩) (.inl rfl) v').map u2 (fun e=>ed h1 ho e.symm)
    exact(ae.af (F:=fun _=>False) b4).map u3 id
  ·rcases hi with hi|hi
   ·exact Fp (lt i hi) t4.size
   ·exact hi.2
 have HN:=Gn fun(Q:World) (q:mW Q (fun i=>F i\/(W.heap.size<=i/\i<Q.heap.size)) r J x m V)=>Ee Q _ r J x m V hx bn q
 have HE:Hid (∀ Q w5,ae F W Q->cM Q (fun i=>F i\/(W.heap.size<=i/\i<Q.heap.size)) r (J++[x]) V w5->cM W F r (J++[x]) V w5):=fun Q w5 t q=>
  q.after t (fun i hi=> .inl hi) (fun i hi=>hi.imp id (fun e=>e.1))
 have HS:=Gn fun W=>BR x W
 have l0:=hL.cell 0
 have l1:=hL.cell 1
 have l2:=hL.cell 2
 have l3:=hL.cell 3
 simp at l0 l1 l2 l3
 obtain⟨L,HL⟩:∃ L:List Value,Hid (L=bU J):=⟨_,rfl⟩
 obtain⟨n,bx⟩:∃ n,Hid (n=J.length):=⟨_,rfl⟩
 rw[<-HL.out,<-bx.out] at HB HW
 rw[<-bx.out] at HA ba HN c1 hl few ⊢
 clear h1 h2 h3 h4 hx bn ok jP lt a7 bC bB few h hB hL bD
 have bL:n+1<=maxLen:=by unfold maxLen;omega
 have bE:(n+1)*48<=140737488355328:=by omega
 go_enter Tryz.func126,Tryz.ntmps126
 go_wp2_with fail
 refine HC.out.mono ?_
 rintro e I ⟨rfl,X⟩
 obtain⟨z1,y1,o1,av⟩:=HW.out I X
 have O1:=Gn o1
 have U:=av.cell 0
 have Z:=av.cell 1
 have ad:=av.cell 2
 have ah:=av.cell 3
 simp at U Z ad ah
 have B1:=Gn X
 clear o1 X l0 l1 l2 l3 c1 bl HC HW av hW
 go_wp2_with fail
 go_region_law (refine ay rfl (.tmp 28) (.tmp 30) 32 rfl 0 208 i0 (.agg #[.int .i64 0,.int .i64 0,.string ByteArray.empty,.string ByteArray.empty]) 4 48 Tryz.underlying32 hi bT b2 b3 rfl (by decide) (.slice A n c) n L (by simp[Act.eval]) (O1.out.alloc _) ⟨I.heap.size,0,none⟩ 1 1 (bU [x]) (by simp[Act.eval]) rfl (fun j u hu=>DP x I.drew j u (Ba hu)) (Cn [x]) bL bE (Fz _) ?_;intro A2 c2 O o2 g2 a2;obtain⟨z2,y2,f2⟩:=HA.out I O B1.out g2;have O2:=Gn o2;have bo:=Gn a2;clear o2 a2)
 all_goals
  have ao:=ba.out I (.slice A2 (n+1) c2) O B1.out g2
  clear U Z ad ah
  have U:=ao.cell 0
  have Z:=ao.cell 1
  have ad:=ao.cell 2
  have ah:=ao.cell 3
  simp at U Z ad ah
  have bb:=Gn ao
  have G2:Hid ((I.drew.alloc (.cells x.cells 208)).grownBy O (Value.slice A n c).ownBlock):=g2
  clear ao g2
  go_wp2_with fail
  refine(HS.out _).mono ?_
  rintro e Q ⟨rfl,b4⟩
  obtain⟨q4,t4⟩:=HB.out I _ O Q B1.out G2.out O2.out bo.out b4
  have a1:=(b4.block _ bb.out.lt).trans bb.out
  clear U Z ad ah
  have U:=aa.cell (t:=208) (cs:=x.cells) a1 0
  have Z:=aa.cell (t:=208) (cs:=x.cells) a1 1
  have ad:=aa.cell (t:=208) (cs:=x.cells) a1 2
  have ah:=aa.cell (t:=208) (cs:=x.cells) a1 3
  simp at U Z ad ah
  have bp:=Gn (HN.out Q q4)
  have T4:=Gn t4
  clear HS HB ba HA HN a1 bb G2 O2 bo b4 q4 t4 y1 z1 y2 z2 f2
  go_wp2_with fail
  refine bp.out.mono ?_
  rintro e w5 ⟨rfl,l5⟩
  have L5:=Gn (bz.out _ (HE.out Q w5 T4.out l5))
  clear bp HE T4 l5 bz U Z ad ah
  go_wp2
  go_ret2
  exact⟨rfl,L5.out⟩
end Go.Proofs.YtdbgiijdgedggaaGreatDoor
namespace Go.Proofs.YtdbgiijdgedggaaGreatDoor
def Lx.blank (c:UInt8):Bool:=decide (c.toNat=9)||decide (c.toNat=10)||decide (c.toNat=13)||decide (c.toNat=32)
def Lx.digit (c:UInt8):Bool:=decide (48<=c.toNat)&&decide (c.toNat<=57)
def Lx.marks:List Nat:=[126,33,64,36,37,94,38,42,95,45,43,61,60,62,46,63,47]
def Lx.name (c:UInt8):Bool:=(decide (97<=c.toNat)&&decide (c.toNat<=122))||(decide (65<=c.toNat)&&decide (c.toNat<=90))||Lx.digit c||Lx.marks.contains c.toNat
def Lx.good (c:UInt8):Bool:=Lx.blank c||(decide (33<=c.toNat)&&decide (c.toNat<=126))
def Lx.hex (c:UInt8):Bool:=Lx.digit c||(decide (97<=c.toNat)&&decide (c.toNat<=102))||(decide (65<=c.toNat)&&decide (c.toNat<=70))
def Lx.bit (c:UInt8):Bool:=decide (c.toNat=48)||decide (c.toNat=49)
def Lx.skip:Bool->List UInt8->List UInt8
 |_,[]=>[]
 |r,c::t=>if Lx.good c then
   let r':=(r&&!decide (c.toNat=10))||decide (c.toNat=59)
   if !r'&&!Lx.blank c then c::t else Lx.skip r' t
  else c::t
def Lx.quo (q:UInt8):List UInt8->List UInt8×Int×List UInt8
 |[]=>([],51,[])
 |[c]=>if Lx.good c then(if c=q then([],0,[]) else([c],51,[])) else([],50,[c])
 |c::d::t=>if Lx.good c then
   (if c=q then
    (if q.toNat=34/\d=q then let x:=Lx.quo q t;(q::x.1,x.2) else([],0,d::t))
   else let x:=Lx.quo q (d::t);(c::x.1,x.2))
  else([],50,c::d::t)
def Lx.digits (x:List UInt8):Bool:=!x.isEmpty&&x.all Lx.digit
def Lx.number (x:List UInt8):Int:=
 let w:=x.takeWhile fun c=> !decide (c.toNat=46)
 if !Lx.digits w||(decide (1<w.length)&&decide ((x.headD 0).toNat=48)) then 0
 else match x.dropWhile fun c=> !decide (c.toNat=46) with
  |[]=>4
  |_::p=>if Lx.digits p then 5 else 0
def Lx.other:List UInt8->Bool
 |_::d::y=>(decide (d.toNat=120)||decide (d.toNat=98))&&!y.isEmpty&&y.all fun c=>Lx.hex c&&(!decide (d.toNat=98)||Lx.bit c)
 |_=>false
def Lx.one (l:List UInt8):Int×List UInt8×Int×List UInt8:=
 match l with
 |[]=>(0,[],50,[])
 |c::t=>
  if c.toNat=40 then(1,[c],0,t)
  else if c.toNat=41 then(2,[c],0,t)
  else if c.toNat=124\/c.toNat=34 then
   let x:=Lx.quo c t
   if x.2.1=0 then
    (if c.toNat=34 then(6,x.1,0,x.2.2)
    else if x.1.any (fun d=>decide (d.toNat=92)) then(0,[],8,l) else(3,x.1,0,x.2.2))
   else if x.2.1=50 then(0,[],50,x.2.2) else(0,[],51,l)
  else if Lx.digit c then
   (if Lx.number (c::t.takeWhile Lx.name)=0 then(0,[],8,l) else(Lx.number (c::t.takeWhile Lx.name),c::t.takeWhile Lx.name,0,t.dropWhile Lx.name))
  else if Lx.name c then(3,c::t.takeWhile Lx.name,0,t.dropWhile Lx.name)
  else if c.toNat=58 then(if(t.takeWhile Lx.name).isEmpty then(0,[],8,l) else(7,c::t.takeWhile Lx.name,0,t.dropWhile Lx.name))
  else if c.toNat=35 then(if Lx.other (c::t.takeWhile Lx.name) then(8,c::t.takeWhile Lx.name,0,t.dropWhile Lx.name) else(0,[],8,l))
  else(0,[],50,l)
abbrev Lx.Tok:=Int×List UInt8×Nat
def Lx.lex:Nat->List UInt8->List Lx.Tok×Int×List UInt8
 |k,l=>match Lx.skip false l with
  |[]=>([],0,[])
  |c::t=>if Lx.good c then
    match k with
    |0=>([],2,c::t)
    |k+1=>
     let x:=Lx.one (c::t)
     if x.2.2.1=0 then
      let y:=Lx.lex k x.2.2.2
      ((x.1,x.2.1,(c::t).length)::y.1,y.2)
     else([],x.2.2.1,x.2.2.2)
   else([],50,c::t)
theorem Lx.jW (r:Bool) (c:UInt8) (t:List UInt8):Lx.skip r (c::t)=if Lx.good c then(if !((r&&!decide (c.toNat=10))||decide (c.toNat=59))&&!Lx.blank c then c::t else Lx.skip ((r&&!decide (c.toNat=10))||decide (c.toNat=59)) t) else c::t:=rfl
theorem Lx.px:∀ (l:List UInt8) (r:Bool),(Lx.skip r l).length<=l.length
 |[],r=>Fm _
 |d::l,r=>by
  rw[Lx.jW]
  split
  ·split
   ·exact Fm _
   ·exact Iy (Lx.px l _)
  ·exact Fm _
theorem Lx.oX (q:UInt8):∀ l:List UInt8,(Lx.quo q l).2.1=0\/(Lx.quo q l).2.1=50\/(Lx.quo q l).2.1=51
 |[]=> .inr (.inr rfl)
 |[c]=>by
  unfold Lx.quo
  split
  ·split
   ·exact .inl rfl
   ·exact .inr (.inr rfl)
  ·exact .inr (.inl rfl)
 |c::d::t=>by
  unfold Lx.quo
  split
  ·split
   ·split
    ·exact Lx.oX q t
    ·exact .inl rfl
   ·exact Lx.oX q (d::t)
  ·exact .inr (.inl rfl)
theorem Lx.oG (q:UInt8):∀ l:List UInt8,(Lx.quo q l).2.2.length<=l.length
 |[]=>Fm _
 |[c]=>by
  unfold Lx.quo
  split
  ·split <;> simp
  ·simp
 |c::d::t=>by
  unfold Lx.quo
  split
  ·split
   ·split
    ·exact Iy (Iy (Lx.oG q t))
    ·simp
   ·exact Iy (Lx.oG q (d::t))
  ·simp
end Go.Proofs.YtdbgiijdgedggaaGreatDoor
