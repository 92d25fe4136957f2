/- What the proofs of this claim use, text by text. -/
import Derived.Test.YtcgaeknikfaghaaGreatDoorQD02
import Derived.Test.YtcgaeknikfaghaaGreatDoorQD03
import Derived.Lib.ItoaLen
import Derived.WalkSpells
import Derived.WalkLawsBesides
import Derived.Defers
import Derived.Recover
import Derived.Lib.SlicesS
import Derived.Maps.OwnOps
import Derived.Laws.StructEq
import Derived.DeepKeys4
import Derived.MapViews
import Derived.StillTailTactics
import Derived.Outline
import Derived.OwnWalk
import Derived.Deep.RegionLaw
set_option linter.unusedSimpArgs false
set_option linter.unusedVariables false
set_option maxRecDepth 100000
set_option maxHeartbeats 25600000
namespace Go.Proofs.YtcgaeknikfaghaaGreatDoor
theorem dec_digit (u:Nat):∀ b∈Lib.decDigits u,48≤b.toNat∧b.toNat≤57:=by
 induction u using Nat.strongRecOn with
 |_ u ih=>
  intro b hb
  rw[Lib.decDigits] at hb
  split at hb
  ·rw[List.mem_singleton.1 hb]
   rw[UInt8.toNat_ofNat']
   omega
  ·rcases List.mem_append.1 hb with hb|hb
   ·exact ih (u/10) (by omega) b hb
   ·rw[List.mem_singleton.1 hb]
    rw[UInt8.toNat_ofNat']
    omega
def decVal (l:List UInt8):Nat:=l.foldl (fun a b=>a*10+(b.toNat-48)) 0
theorem decVal_snoc (l:List UInt8) (b:UInt8):decVal (l++[b])=decVal l*10+(b.toNat-48):=by unfold decVal;rw[List.foldl_append];rfl
theorem decVal_dec (u:Nat):decVal (Lib.decDigits u)=u:=by
 induction u using Nat.strongRecOn with
 |_ u ih=>
  rw[Lib.decDigits]
  split
  ·show 0*10+((UInt8.ofNat (48+u)).toNat-48)=u
   rw[UInt8.toNat_ofNat']
   omega
  ·rw[decVal_snoc,ih (u/10) (by omega),UInt8.toNat_ofNat']
   omega
theorem dec_inj {u v:Nat} (h:Lib.decDigits u=Lib.decDigits v):u=v:=by rw[←decVal_dec u,h,decVal_dec]
theorem itoa_comma (z:Int):(44:UInt8)∉Lib.itoa z:=by
 intro h
 unfold Lib.itoa at h
 split at h
 ·rcases List.mem_cons.1 h with h|h
  ·exact absurd h (by decide)
  ·have:=dec_digit _ _ h
   exact absurd this.1 (by decide)
 ·have:=dec_digit _ _ h
  exact absurd this.1 (by decide)
theorem itoa_inj {z y:Int} (h:Lib.itoa z=Lib.itoa y):z=y:=by
 have hm:∀ u:Nat,(45:UInt8)∉Lib.decDigits u:=fun u hu=>absurd (dec_digit u _ hu).1 (by decide)
 unfold Lib.itoa at h
 by_cases hz:z<0
 ·by_cases hy:y<0
  ·rw[if_pos hz,if_pos hy] at h
   have:=dec_inj (List.cons.inj h).2
   omega
  ·rw[if_pos hz,if_neg hy] at h
   exact absurd (by rw[←h];simp) (hm y.toNat)
 ·by_cases hy:y<0
  ·rw[if_neg hz,if_pos hy] at h
   exact absurd (by rw[h];simp) (hm z.toNat)
  ·rw[if_neg hz,if_neg hy] at h
   have:=dec_inj h
   omega
theorem comma_split {c:UInt8}:∀ {a b r s:List UInt8},c∉a→c∉b→a++c::r=b++c::s→a=b∧r=s
 |[],[],r,s,_,_,h=>⟨rfl,(List.cons.inj h).2⟩
 |[],y::b,r,s,_,hb,h=>by
  have:=(List.cons.inj h).1
  exact absurd (by rw[this];simp) hb
 |x::a,[],r,s,ha,_,h=>by
  have:=(List.cons.inj h).1
  exact absurd (by rw[←this];simp) ha
 |x::a,y::b,r,s,ha,hb,h=>by
  obtain⟨h1,h2⟩:=List.cons.inj h
  obtain⟨h3,h4⟩:=comma_split (fun e=>ha (List.mem_cons_of_mem _ e)) (fun e=>hb (List.mem_cons_of_mem _ e)) h2
  exact⟨by rw[h1,h3],h4⟩
def Tm.spell:List Int→List UInt8
 |[]=>[]
 |z::l=>Lib.itoa z++44::Tm.spell l
theorem Tm.spell_inj:∀ {l m:List Int},Tm.spell l=Tm.spell m→l=m
 |[],[],_=>rfl
 |[],y::m,h=>by
  rw[Tm.spell,Tm.spell] at h
  have:(44:UInt8)∈([]:List UInt8):=by rw[h];simp
  cases this
 |z::l,[],h=>by
  rw[Tm.spell,Tm.spell] at h
  have:(44:UInt8)∈([]:List UInt8):=by rw[←h];simp
  cases this
 |z::l,y::m,h=>by
  rw[Tm.spell,Tm.spell] at h
  obtain⟨h1,h2⟩:=comma_split (itoa_comma z) (itoa_comma y) h
  rw[itoa_inj h1,Tm.spell_inj h2]
theorem Tm.spell_app:∀ (l m:List Int),Tm.spell (l++m)=Tm.spell l++Tm.spell m
 |[],m=>rfl
 |z::l,m=>by rw[List.cons_append,Tm.spell,Tm.spell,Tm.spell_app l m];simp
theorem Tm.spell_one (l:List Int) (z:Int):Tm.spell (l++[z])=Tm.spell l++Lib.itoa z++[44]:=by rw[Tm.spell_app];simp[Tm.spell]
theorem Tm.spell_len:∀ {l:List Int},(∀ z∈l,(Lit.int .i64 z).wf=true)→(Tm.spell l).length≤l.length*22
 |[],_=>Nat.le_refl _
 |z::l,h=>by
  have h1:=Tm.spell_len (l:=l) fun y hy=>h y (List.mem_cons_of_mem _ hy)
  have h2:=h z (by simp)
  have hw: -9223372036854775808≤z∧z≤9223372036854775807:=bounds_i64 h2
  have h3:=Lib.itoa_length_le z hw.1 hw.2
  rw[Tm.spell,List.length_append,List.length_cons,List.length_cons,Nat.succ_mul]
  omega
def Tm.limbs (N:Nat):List Nat:=if _h:N=0 then[] else N % M.BB::Tm.limbs (N/M.BB)
termination_by N
decreasing_by exact Nat.div_lt_self (by omega) (by decide)
theorem Tm.limbs_val (N:Nat):M.val (Tm.limbs N)=N:=by
 induction N using Nat.strongRecOn with
 |_ N ih=>
  rw[Tm.limbs]
  split
  ·rename_i h;rw[h];rfl
  ·rename_i h
   rw[M.val,ih (N/M.BB) (Nat.div_lt_self (by omega) (by decide))]
   have:=Nat.mod_add_div N M.BB
   omega
theorem Tm.limbs_inj {N K:Nat} (h:Tm.limbs N=Tm.limbs K):N=K:=by rw[←Tm.limbs_val N,h,Tm.limbs_val]
theorem Tm.limbs_fit (N:Nat):∀ x∈Tm.limbs N,x<M.BB:=by
 induction N using Nat.strongRecOn with
 |_ N ih=>
  intro x hx
  rw[Tm.limbs] at hx
  split at hx
  ·cases hx
  ·rename_i h
   rcases List.mem_cons.1 hx with rfl|hx
   ·exact Nat.mod_lt _ (by decide)
   ·exact ih (N/M.BB) (Nat.div_lt_self (by omega) (by decide)) x hx
theorem Tm.limbs_of:∀ {l:List Nat},M.Fit l→M.Top l→Tm.limbs (M.val l)=l
 |[],_,_=>by
  show Tm.limbs 0=[]
  rw[Tm.limbs,dif_pos rfl]
 |x::r,hf,ht=>by
  have hx:x<M.BB:=hf 0
  have hfr:M.Fit r:=fun j=>hf (j+1)
  have htr:M.Top r:=fun hne=>by
   have:=ht (by simp)
   cases r with
   |nil=>exact absurd rfl hne
   |cons y r=>simpa using this
  have ih:=Tm.limbs_of hfr htr
  have hv:M.val (x::r)=x+M.BB*M.val r:=rfl
  have hpos:M.val (x::r)≠0:=fun e=>by
   have hx0:x=0:=by omega
   have hr0:M.val r=0:=by
    rcases Nat.mul_eq_zero.1 (show M.BB*M.val r=0 by omega) with h|h
    ·exact absurd h (by decide)
    ·exact h
   have:r=[]:=by
    rw[hr0,Tm.limbs,dif_pos rfl] at ih
    exact ih.symm
   subst this
   exact ht (by simp) (by simpa using hx0)
  rw[Tm.limbs,dif_neg hpos,hv,Nat.add_mul_mod_self_left,Nat.mod_eq_of_lt hx,Nat.add_mul_div_left _ _ (by decide),Nat.div_eq_of_lt hx,Nat.zero_add,ih]
structure Ky where
 op:Int
 sort:Int
 name:ByteArray
 list:ByteArray
def Tm.flat:List (Int×Int)→List Int
 |[]=>[]
 |r::t=>r.1::r.2::Tm.flat t
theorem Tm.flat_inj:∀ {t u:List (Int×Int)},Tm.flat t=Tm.flat u→t=u
 |[],[],_=>rfl
 |[],_::_,h=>by cases h
 |_::_,[],h=>by cases h
 |r::t,s::u,h=>by
  rw[Tm.flat,Tm.flat] at h
  obtain⟨h1,h⟩:=List.cons.inj h
  obtain⟨h2,h⟩:=List.cons.inj h
  rw[Tm.flat_inj h,Prod.ext h1 h2]
theorem Tm.flat_len:∀ t:List (Int×Int),(Tm.flat t).length=2*t.length
 |[]=>rfl
 |r::t=>by rw[Tm.flat,List.length_cons,List.length_cons,Tm.flat_len t,List.length_cons];omega
theorem Tm.flat_app:∀ t u:List (Int×Int),Tm.flat (t++u)=Tm.flat t++Tm.flat u
 |[],_=>rfl
 |r::t,u=>by rw[List.cons_append,Tm.flat,Tm.flat,Tm.flat_app t u];rfl
def Tm.lst (x:Nd):List Int:=x.a++((Tm.limbs x.num).map fun(n:Nat)=>(n:Int))++Tm.flat x.str
def Tm.key (x:Nd):Ky:=⟨x.op,x.sort,x.name,⟨(Tm.spell (Tm.lst x)).toArray⟩⟩
def Tm.Good (x:Nd):Prop:=(x.op=4∧x.a=[]∧x.str=[])∨(x.op=5∧x.a=[]∧x.num=0)∨(x.op≠4∧x.op≠5∧x.num=0∧x.str=[])
theorem Tm.limbs_zero:Tm.limbs 0=[]:=by rw[Tm.limbs,dif_pos rfl]
theorem natInt_inj:∀ {l m:List Nat},(l.map fun(n:Nat)=>(n:Int))=m.map (fun(n:Nat)=>(n:Int))→l=m
 |[],[],_=>rfl
 |[],_::_,h=>by cases h
 |_::_,[],h=>by cases h
 |x::l,y::m,h=>by
  rw[List.map_cons,List.map_cons] at h
  obtain⟨h1,h2⟩:=List.cons.inj h
  rw[natInt_inj h2,Int.ofNat.inj h1]
theorem Tm.key_inj {x y:Nd} (hx:Tm.Good x) (hy:Tm.Good y) (h:Tm.key x=Tm.key y):x=y:=by
 have h1:x.op=y.op:=congrArg Ky.op h
 have h2:x.sort=y.sort:=congrArg Ky.sort h
 have h3:x.name=y.name:=congrArg Ky.name h
 have h4:Tm.lst x=Tm.lst y:=by
  have:=congrArg (fun k:Ky=>k.list.data.toList) h
  exact Tm.spell_inj (by simpa [Tm.key] using this)
 obtain⟨op,sort,a,name,num,str⟩:=x
 obtain⟨op',sort',a',name',num',str'⟩:=y
 simp only at h1 h2 h3
 subst h1 h2 h3
 unfold Tm.Good at hx hy
 simp only at hx hy
 unfold Tm.lst at h4
 simp only at h4
 rcases hx with⟨e,rfl,rfl⟩|⟨e,rfl,rfl⟩|⟨e,e2,rfl,rfl⟩
 ·rcases hy with⟨_,rfl,rfl⟩|⟨e',_⟩|⟨e',_⟩
  ·have:Tm.limbs num=Tm.limbs num':=natInt_inj (by simpa [Tm.flat] using h4)
   rw[Tm.limbs_inj this]
  ·omega
  ·exact absurd e e'
 ·rcases hy with⟨e',_⟩|⟨_,rfl,rfl⟩|⟨_,e',_⟩
  ·omega
  ·have:Tm.flat str=Tm.flat str':=by simpa [Tm.limbs_zero] using h4
   rw[Tm.flat_inj this]
  ·exact absurd e e'
 ·rcases hy with⟨e',_⟩|⟨e',_⟩|⟨_,_,rfl,rfl⟩
  ·exact absurd e' e
  ·exact absurd e' e2
  ·have:a=a':=by simpa [Tm.limbs_zero,Tm.flat] using h4
   rw[this]
theorem Tm.key_mem {l:List Nd} {x:Nd} (hg:∀ x∈l,Tm.Good x) (hx:Tm.Good x):Tm.key x∈l.map Tm.key↔x∈l:=by
 constructor
 ·intro h
  obtain⟨y,hy,e⟩:=List.mem_map.1 h
  rw[←Tm.key_inj (hg _ hy) hx e]
  exact hy
 ·exact fun h=>List.mem_map_of_mem h
end Go.Proofs.YtcgaeknikfaghaaGreatDoor
namespace Go.Proofs.YtcgaeknikfaghaaGreatDoor
open Go.RowKit
abbrev Ky.cells (x:Ky):Array Value:=#[.int .i64 x.op,.int .i64 x.sort,.string x.name,.string x.list]
abbrev Ky.v (x:Ky):Value:=.agg #[.int .i64 x.op,.int .i64 x.sort,.string x.name,.string x.list]
structure Ky.Ok (x:Ky):Prop where
 op:(Lit.int .i64 x.op).wf=true
 sort:(Lit.int .i64 x.sort).wf=true
 name:x.name.size≤maxLen
 list:x.list.size≤maxLen
def klit (x:Ky):Lit:=.string (keyBytes [.int .i64 x.op,.int .i64 x.sort,.string x.name.data.toList,.string x.list.data.toList])
theorem laidOutK:laidOutB Tryz.prog=true:=by kernel_rfl
theorem wideK:(match Tryz.prog.underlying 203 with|some (.array _ _)|some (.struct _)=>true|_=>false)=true:=by kernel_rfl
theorem deepK:Tryz.prog.keyTypeAt (Tryz.prog.types.size+1) 203=true:=by kernel_rfl
theorem rowK:(203:TypeId)<Tryz.prog.types.size:=of_decide_eq_true (by kernel_rfl)
theorem lawK:Maps.Keyed Tryz.prog 203:=Maps.Keyed.of_law (deep_law_laid laidOutK (m:=3) (by omega) rowK (by kernel_rfl) wideK)
theorem cellsOfK:Tryz.prog.cellsOf 203=4:=by kernel_rfl
theorem cellsOf_int:Tryz.prog.cellsOf 3=1:=by kernel_rfl
theorem cellsOf_string:Tryz.prog.cellsOf 9=1:=by kernel_rfl
theorem trodKy (x:Ky) (hx:x.Ok) (w:World):DataW.Trod (H:=Unit) (fun _=>()) Tryz.prog w 0 (fun _=>true) true 203 x.v (.agg [.lit (.int .i64 x.op),.lit (.int .i64 x.sort),.lit (.string x.name.data.toList),.lit (.string x.list.data.toList)]) []:=by
 obtain⟨h1,h2,h3,h4⟩:=hx
 exact⟨3,by simp[DataW.trod,Value.cells,Tryz.underlying203,Tryz.underlying3,Tryz.underlying9,cellsOfK,cellsOf_int,cellsOf_string,h1,h2,h3,h4]⟩
theorem formedK (x:Ky):x.v.formed Tryz.prog 203=true:=by simp[Value.formed,Tryz.underlying203,cellsOfK]
theorem keyK (x:Ky) (hx:x.Ok):keyOf Tryz.prog 203 x.v=some (klit x):=by
 have:=(keyOf_asKey deepK wideK (formedK x) (trodKy x hx (World.settled Tryz.prog default))).1
 rw[this]
 rfl
theorem klit_inj {x y:Ky} (hx:x.Ok) (hy:y.Ok) (h:klit x=klit y):x=y:=by
 have:=lawK.inj (keyK x hx) (by rw[h];exact keyK y hy)
 obtain⟨a,b,c,d⟩:=x
 obtain⟨a',b',c',d'⟩:=y
 simp only[Ky.v,Value.agg.injEq] at this
 simp at this
 obtain⟨rfl,rfl,rfl,rfl⟩:=this
 rfl
theorem eqK (x:Ky) (w:World):(binOp .eql 203 x.v x.v).run Tryz.prog w=.ok (.bool true) w:=by
 have hs:=Tryz.underlying9
 have hi:=Tryz.underlying3
 have hk:=Tryz.underlying203
 simp[go_sem,hs,hi,hk]
theorem idleK (p:Addr) (w:World):
  CallsD Tryz.prog 208 #[.pointer (some p)] .returning w fun e u' w'=>e=.returned (.tuple #[])∧u'=.returning∧w'=w:=by
 refine callsD_of_wpS Tryz.func208 rfl fun c₀ cs hu=>?_
 apply wpS_seq
 apply wpS_region
 simp[wpOpsS,go_sem,recoverD,hu,Tryz.ntmps208,Exit.thenS]
 refine wpS_cond (t:=false) (by simp[Act.eval,Array.replicate]) ?_
 simp only[Bool.false_eq_true,if_false]
 refine wpS_of_wp (wp_skip ?_)
 cases c₀
 simp_all [bodyPostS,results,Tryz.results208]
theorem sameK (x:Ky) (w:World):
  Calls Tryz.prog 175 #[x.v,x.v] w fun e w'=>e=.returned (.bool true)∧Below w.heap.size w w':=by
 have hmf:∀ (fn:Fn) (first cap:Array Value) (w:World),(Instr.makeFunc fn first cap).run Tryz.prog w=.ok (.func fn first cap) w:=fun _ _ _ _=>rfl
 have HQ:=fun w=>eqK x w
 go_enter_defers Tryz.func175,Tryz.ntmps175
 go_wp2
 refine leaves_cons (f:=208) (args:=#[.pointer (some ⟨w.heap.size+1+1,0,none⟩)]) (by simp) (by simp[go_sem]) ?_
 refine(idleK ⟨w.heap.size+1+1,0,none⟩ _).mono ?_
 rintro e u' w'' ⟨rfl,rfl,rfl⟩
 have hb:Below w.heap.size w (((w.alloc (.cells x.cells 203)).alloc (.cells x.cells 203)).alloc (.cells #[.bool true] 4)):=(((Below.refl _ _).alloc (Nat.le_refl _) _).alloc (by simp) _).alloc (by simp;omega) _
 simp[Leaves,settle,results,Tryz.results175,go_sem]
 exact hb
structure TellK (D:DataW Unit) (ks:List Ky):Prop where
 hit:∀ (i:Nat) x,ks[i]?=some x→Maps.has D (klit x)=true∧D.atKey (klit x) (.lit (.int .i64 0))=.lit (.int .i64 (i:Int))
 miss:∀ x:Ky,x.Ok→x∉ks→Maps.has D (klit x)=false
 size:Maps.size D=ks.length
def NoteK (w:World) (F:Nat→Prop) (m:Value) (ks:List Ky):Prop:=
 (m=.map none∧ks=[])∨∃ b D,m=.map (some b)∧F b∧w.ownsMap Tryz.prog 203 (plainElem Tryz.prog 3) b ks.length D∧TellK D ks
abbrev kycell (x:Ky):List Value:=x.cells.toList
abbrev kycells (ks:List Ky):List Value:=ks.flatMap kycell
structure TabK (w:World) (F:Nat→Prop) (tb:Nat) (ks:List Ky) (V:Value):Prop where
 lies:∃ m v,Lies w tb 37 #[m,v,V]∧w.ownsRow 0 203 4 v ks.length (kycells ks)∧(∀ g,v.ownBlock=some g→F g)∧NoteK w F m ks
 ok:∀ x∈ks,x.Ok
 inn:F tb
 lt:∀ i,F i→i<w.heap.size
 few:ks.length≤1000000
theorem NoteK.turn {w w':World} {F G:Nat→Prop} {m:Value} {ks:List Ky} (h:NoteK w F m ks) (ht:Turn G w w') (hG:∀ i,F i→¬G i):NoteK w' F m ks:=by
 rcases h with h|⟨b,D,rfl,hF,ho,ht'⟩
 ·exact .inl h
 ·exact .inr ⟨b,D,rfl,hF,ht.map ho (hG b hF),ht'⟩
theorem TabK.turn {w w':World} {F G:Nat→Prop} {tb:Nat} {ks:List Ky} {V:Value} (h:TabK w F tb ks V) (ht:Turn G w w') (hG:∀ i,F i→¬G i):TabK w' F tb ks V:=by
 obtain⟨⟨m,v,h1,h2,h3,h4⟩,ok,inn,lt,few⟩:=h
 exact⟨⟨m,v,ht.lies h1 (hG tb inn),ht.own h2 (fun g hg=>hG g (h3 g hg)),h3,h4.turn ht hG⟩,ok,inn,fun i hi=>Nat.lt_of_lt_of_le (lt i hi) ht.size,few⟩
theorem TabK.below {w w':World} {F:Nat→Prop} {tb:Nat} {ks:List Ky} {V:Value} (h:TabK w F tb ks V) (hb:Below w.heap.size w w'):TabK w' F tb ks V:=
 h.turn (G:=fun _=>False) (Turn.of_below hb) (fun _ _ e=>e)
theorem TabK.new (w:World) (V:Value):TabK (w.alloc (.cells #[.map none,.slice none 0 0,V] 37)) (fun i=>i=w.heap.size) w.heap.size [] V:=
 ⟨⟨_,_,Lies.new _ _ _,World.ownsRow_nil _ _ _ _,(fun g hg=>by cases hg),.inl ⟨rfl,rfl⟩⟩,fun _ h=>absurd h List.not_mem_nil,rfl,fun i hi=>by subst hi;simp,by simp⟩
theorem ky_one (ks:List Ky):∀ u∈kycells ks,u.oneCell'=true:=by
 intro u hu
 obtain⟨q,_,hu⟩:=List.mem_flatMap.1 hu
 simp[kycell] at hu
 rcases hu with rfl|rfl|rfl|rfl <;> rfl
def PlaceK (ks:List Ky) (x:Ky) (i:Int) (b:Bool):Prop:=(b=true∧∃ n:Nat,ks[n]?=some x∧i=n)∨(b=false∧x∉ks∧i=0)
theorem lookK {w:World} {mb q:Nat} {D:DataW Unit} {x:Ky} {i:Int} {b:Bool} (ho:w.ownsMap Tryz.prog 203 (plainElem Tryz.prog 3) mb q D) (hx:x.Ok) (hh:Maps.has D (klit x)=b) (hc:D.atKey (klit x) (.lit (.int .i64 0))=.lit (.int .i64 i)):
  (Instr.lookup 31 (.map (some mb)) x.v true).run Tryz.prog w=.ok (.tuple #[.int .i64 i,.bool b]) w:=by
 obtain⟨v,ps,hrun,hv⟩:=ho.look_ok lawK Tryz.underlying31 (zeroInt w) (plainElem_int Tryz.underlying3 (by decide)) (keyK x hx)
 obtain⟨c,rfl,h1,_⟩:=plainElem_int_inv Tryz.underlying3 hv
 rw[hrun,hh]
 have h2:=congrArg Prod.fst h1
 simp only at h2
 rw[hc] at h2
 rw[lit_i64 h2]
theorem findK (w:World) (F:Nat→Prop) (tb:Nat) (ks:List Ky) (V:Value) (x:Ky) (i:Int) (b:Bool) (hb:PlaceK ks x i b) (hx:x.Ok) (h:TabK w F tb ks V):
  Calls Tryz.prog 141 #[.pointer (some ⟨tb,0,none⟩),x.v] w fun e w'=>e=.returned (.tuple #[.int .i64 i,.bool b])∧Below w.heap.size w w':=by
 obtain⟨⟨m,v,h1,h2,h3,h4⟩,ok,inn,lt,few⟩:=h
 have hkey:=keyK x hx
 have hlt:=h1.lt
 have c0:=h1.cell 0
 simp at c0
 have HLK:Hid (∀ W,Below w.heap.size w W→(Instr.lookup 31 m x.v true).run Tryz.prog W=.ok (.tuple #[.int .i64 i,.bool b]) W):=fun W hW=>by
  rcases h4 with⟨rfl,rfl⟩|⟨mb,D,rfl,hF,ho,ht⟩
  ·obtain⟨rfl,rfl⟩:b=false∧i=0:=by
    rcases hb with⟨_,n,hn,_⟩|⟨h1,_,h2⟩
    ·simp at hn
    ·exact⟨h1,h2⟩
   have:=Maps.look_nil (w:=W) (P:=Tryz.prog) true lawK Tryz.underlying31 (zeroInt W) hkey
   simpa using this
  ·refine lookK ((Turn.of_below (F:=fun _=>False) hW).map ho id) hx ?_ ?_
   ·rcases hb with⟨rfl,n,hn,_⟩|⟨rfl,hn,_⟩
    ·exact(ht.hit n x hn).1
    ·exact ht.miss x hx hn
   ·rcases hb with⟨rfl,n,hn,rfl⟩|⟨rfl,hn,rfl⟩
    ·exact(ht.hit n x hn).2
    ·exact Maps.atKey_of_not_has (ht.miss x hx hn) _
 clear h1 h2 h3 h4 ok inn lt few hb hx hkey
 obtain⟨W0,hW0⟩:∃ W0,w.alloc (.cells x.cells 203)=W0:=⟨_,rfl⟩
 have hB0:Below w.heap.size w W0:=by rw[←hW0];exact(Below.refl _ w).alloc (Nat.le_refl _) _
 have hL0:Lies W0 w.heap.size 203 x.cells:=by rw[←hW0];exact Lies.new w _ _
 have HS:=Lib.hid (sameK x W0)
 have HB0:=Lib.hid hB0
 have HL0:=Lib.hid hL0
 have l0:=hL0.cell 0
 have l1:=hL0.cell 1
 have l2:=hL0.cell 2
 have l3:=hL0.cell 3
 simp at l0 l1 l2 l3
 have HC:Hid (w.cell? ⟨tb,0,none⟩=some m):=c0
 clear c0 hB0 hL0
 go_enter Tryz.func141,Tryz.ntmps141
 go_wp2_with fail
 refine HS.out.mono ?_
 rintro e w1 ⟨rfl,b1⟩
 have hB1:=HB0.out.trans (b1.mono HB0.out.size)
 have hL1:Lies w1 w.heap.size 203 x.cells:=(b1.block _ HL0.out.lt).trans HL0.out
 have c0:w1.cell? ⟨tb,0,none⟩=some m:=(hB1.cell (p:=⟨tb,0,none⟩) hlt).trans HC.out
 have hlk:∀ n,(Instr.lookup 31 m (.agg #[.int .i64 x.op,.int .i64 x.sort,.string x.name,.string x.list]) true).run Tryz.prog (w1.drewN n)=.ok (.tuple #[.int .i64 i,.bool b]) (w1.drewN n):=fun n=>HLK.out _ (below_drewN hB1 n)
 clear l0 l1 l2 l3
 have l0:=hL1.cell 0
 have l1:=hL1.cell 1
 have l2:=hL1.cell 2
 have l3:=hL1.cell 3
 simp at l0 l1 l2 l3
 have HB1:=Lib.hid hB1
 clear HS HB0 HL0 HC HLK b1 hB1 hL1 hW0 hlt
 go_wp2_with fail
 go_quiet (fail)
 go_wp2
 go_ret2
 exact⟨rfl,below_drewN HB1.out _⟩
end Go.Proofs.YtcgaeknikfaghaaGreatDoor
namespace Go.Proofs.YtcgaeknikfaghaaGreatDoor
open Go.RowKit
def LeftK (w:World) (F:Nat→Prop) (tb:Nat) (ks:List Ky) (V:Value) (w':World):Prop:=
 ∃ F':Nat→Prop,TabK w' F' tb ks V∧Turn F w w'∧(∀ i,F i→F' i)∧∀ i,F' i→F i∨w.heap.size≤i
theorem LeftK.after {w w1 w2:World} {F F1:Nat→Prop} {tb:Nat} {ks:List Ky} {V:Value} (h:LeftK w1 F1 tb ks V w2) (ht:Turn F w w1) (hF:∀ i,F i→F1 i) (hF1:∀ i,F1 i→F i∨w.heap.size≤i):LeftK w F tb ks V w2:=by
 obtain⟨F2,h1,h2,h3,h4⟩:=h
 exact⟨F2,h1,ht.trans h2 hF1,fun i hi=>h3 i (hF i hi),fun i hi=>(h4 i hi).elim (hF1 i) (fun e=> .inr (Nat.le_trans ht.size e))⟩
structure HalfK (w:World) (F:Nat→Prop) (tb:Nat) (ks:List Ky) (x:Ky) (m V:Value):Prop where
 lies:∃ v,Lies w tb 37 #[m,v,V]∧w.ownsRow 0 203 4 v (ks.length+1) (kycells (ks++[x]))∧(∀ g,v.ownBlock=some g→F g)
 notes:NoteK w F m ks
 ok:∀ x∈ks,x.Ok
 inn:F tb
 lt:∀ i,F i→i<w.heap.size
 few:ks.length<1000000
theorem HalfK.below {w w':World} {F:Nat→Prop} {tb:Nat} {ks:List Ky} {x:Ky} {m V:Value} (h:HalfK w F tb ks x m V) (hb:Below w.heap.size w w'):HalfK w' F tb ks x m V:=by
 obtain⟨⟨v,h1,h2,h3⟩,h4,ok,inn,lt,few⟩:=h
 have ht:=Turn.of_below (F:=fun _=>False) hb
 exact⟨⟨v,ht.lies h1 id,ht.own h2 (fun _ _=>id),h3⟩,h4.turn ht (fun _ _=>id),ok,inn,fun i hi=>Nat.lt_of_lt_of_le (lt i hi) hb.size,few⟩
theorem TellK.put {D:DataW Unit} {ks:List Ky} {x:Ky} (h:TellK D ks) (ht:Maps.Tidy D) (hx:x∉ks) (hok:x.Ok) (hall:∀ y∈ks,y.Ok):TellK (D.put (klit x) (.lit (.int .i64 (ks.length:Nat)))) (ks++[x]):=by
 have hkl:WideAt.IsKeyLit (klit x):=by trivial
 have hne:∀ y:Ky,y.Ok→y≠x→klit y≠klit x:=fun y hy hn e=>hn (klit_inj hy hok e)
 refine⟨fun i y hy=>?_,fun y hyo hy=>?_,?_⟩
 ·rcases Nat.lt_or_ge i ks.length with e|e
  ·rw[List.getElem?_append_left e] at hy
   have hm:=List.mem_of_getElem? hy
   have hn:y≠x:=fun e=>hx (e▸hm)
   obtain⟨q1,q2⟩:=h.hit i y hy
   exact⟨by rw[Maps.has_put_other (hne y (hall y hm) hn)];exact q1,by rw[Maps.atKey_put_other (hne y (hall y hm) hn)];exact q2⟩
  ·have hi:=(List.getElem?_eq_some_iff.1 hy).1
   simp at hi
   obtain rfl:i=ks.length:=by omega
   obtain rfl:x=y:=by simpa using hy
   exact⟨by rw[Maps.has_put_same ht.isMap hkl],by rw[Maps.atKey_put_same ht.isMap hkl]⟩
 ·simp at hy
  rw[Maps.has_put_other (hne y hyo hy.2)]
  exact h.miss y hyo hy.1
 ·rw[Maps.size_put ht,h.miss x hok hx]
  simp[h.size]
theorem TellK.none_:TellK (.map []) []:=⟨fun i x h=>by simp at h,fun x _ _=>by simp[Maps.has],rfl⟩
theorem noteK (w:World) (F:Nat→Prop) (tb:Nat) (ks:List Ky) (x:Ky) (m V:Value) (hx:x∉ks) (hok:x.Ok) (h:HalfK w F tb ks x m V):
  Calls Tryz.prog 176 #[.pointer (some ⟨tb,0,none⟩),x.v,.int .i64 (ks.length:Nat)] w fun e w'=>e=.returned (.tuple #[])∧LeftK w F tb (ks++[x]) V w':=by
 obtain⟨W,hW⟩:∃ W,w.alloc (.cells x.cells 203)=W:=⟨_,rfl⟩
 have hB:Below w.heap.size w W:=by rw[←hW];exact(Below.refl _ w).alloc (Nat.le_refl _) _
 have hL:Lies W w.heap.size 203 x.cells:=by rw[←hW];exact Lies.new w _ _
 have HUp:Hid (∀ w',LeftK W F tb (ks++[x]) V w'→LeftK w F tb (ks++[x]) V w'):=fun w' q=>q.after (Turn.of_below hB) (fun _ e=>e) (fun _ e=> .inl e)
 have h0:=h.below hB
 have hwl:w.heap.size<W.heap.size:=hL.lt
 have htb:tb≠w.heap.size:=fun e=>by have:=h.lt tb h.inn;omega
 have hFw:∀ i,F i→i≠w.heap.size:=fun i hi e=>by have:=h.lt i hi;omega
 obtain⟨⟨v,h1,h2,h3⟩,h4,ok,inn,lt,few⟩:=h0
 have hkey:=keyK x hok
 have hlt:=h1.lt
 have c0:=h1.cell 0
 have f0:=h1.free 0
 simp at c0
 have ok':∀ y∈ks++[x],y.Ok:=fun y hy=>by
  rw[List.mem_append,List.mem_singleton] at hy
  rcases hy with hy|rfl
  ·exact ok y hy
  ·exact hok
 have hout:∀ (F':Nat→Prop) (mb:Nat) (D:DataW Unit) (w':World),Lies w' tb 37 #[.map (some mb),v,V]→w'.ownsRow 0 203 4 v (ks.length+1) (kycells (ks++[x]))→
   w'.ownsMap Tryz.prog 203 (plainElem Tryz.prog 3) mb (ks.length+1) D→TellK D (ks++[x])→F' mb→Turn F W w'→(∀ i,F i→F' i)→(∀ i,F' i→(F i∨W.heap.size≤i)∧i<w'.heap.size)→LeftK W F tb (ks++[x]) V w':=
  fun F' mb D w' q1 q2 q3 q4 q5 q6 q7 q8=>⟨F',⟨⟨_,v,q1,by simpa using q2,fun g hg=>q7 g (h3 g hg),.inr ⟨mb,D,rfl,q5,by simpa using q3,q4⟩⟩,ok',q7 tb inn,fun i hi=>(q8 i hi).2,by simp;omega⟩,q6,q7,fun i hi=>(q8 i hi).1⟩
 have l0:=hL.cell 0
 have l1:=hL.cell 1
 have l2:=hL.cell 2
 have l3:=hL.cell 3
 simp at l0 l1 l2 l3
 have hmm:=@run_makeMap Tryz.prog
 have hem:∀ (w:World) (r:Option Nat),(binOp .eql 31 (.map r) (.map none)).run Tryz.prog w=.ok (.bool r.isNone) w:=fun w r=>run_eql_map_nil w 31 203 3 r Tryz.underlying31
 rcases h4 with⟨rfl,rfl⟩|⟨mb,D,rfl,hF,ho,ht⟩
 ·have h1b:=h1
  have h2b:=h2
  obtain⟨W1,hW1⟩:∃ W1,(W.setCell ⟨tb,0,none⟩ (.map (some W.heap.size))).alloc (.map #[] 0)=W1:=⟨_,rfl⟩
  have hsz:(W.setCell ⟨tb,0,none⟩ (.map (some W.heap.size))).heap.size=W.heap.size:=by simp[World.setCell]
  have q1:W1.ownsMap Tryz.prog 203 (plainElem (H:=Unit) Tryz.prog 3) W.heap.size 0 (.map []):=by
   have:=World.ownsMap_made (W.setCell ⟨tb,0,none⟩ (.map (some W.heap.size))) Tryz.prog 203 (plainElem (H:=Unit) Tryz.prog 3)
   rw[hsz,hW1] at this
   exact this
  have t1:Turn F W W1:=by rw[←hW1];exact((Turn.refl F W).put (p:=⟨tb,0,none⟩) (.inl inn) _).alloc _
  have l1b:Lies W1 tb 37 #[.map (some W.heap.size),v,V]:=by
   have l1:Lies (W.setCell ⟨tb,0,none⟩ (.map (some W.heap.size))) tb 37 #[.map (some W.heap.size),v,V]:=h1b.put 0 _
   rw[←hW1]
   exact((Turn.refl (fun _=>False) (W.setCell ⟨tb,0,none⟩ (.map (some W.heap.size)))).alloc (.map #[] 0)).lies l1 id
  have s1:W1.heap.size=W.heap.size+1:=by rw[←hW1];simp[World.setCell]
  have o1:W1.ownsRow 0 203 4 v (([]:List Ky).length+1) (kycells ([]++[x])):=by
   have hv2:∀ g,v.ownBlock=some g→g≠tb:=fun g hg e=>own_not_lies h2b h1b (by decide) (e▸hg)
   rw[←hW1]
   exact(((Turn.refl (fun i=>i=tb) W).put (p:=⟨tb,0,none⟩) (.inl rfl) (.map (some W.heap.size))).alloc (.map #[] 0)).own h2b hv2
  have HF:Hid (∀ W2,W2.ownsMap Tryz.prog 203 (plainElem (H:=Unit) Tryz.prog 3) W.heap.size (0+1) ((DataW.map []).put (klit x) (.lit (.int .i64 ((([]:List Ky).length:Nat):Int))))→W1.drew.grownBy W2 (some W.heap.size)→LeftK W F tb ([]++[x]) V W2):=fun W2 g1 g2=>by
   have t2:Turn F W W2:=t1.drew.trans (G:=fun i=>i=W.heap.size) (Turn.of_grown g2 (fun g e _=>(Option.some.inj e).symm)) (fun i e=> .inr (Nat.le_of_eq e.symm))
   have hs:W.heap.size+1≤W2.heap.size:=Nat.le_trans (Nat.le_of_eq s1.symm) g2.size
   have l3:Lies W2 tb 37 #[.map (some W.heap.size),v,V]:=(Turn.of_grown (F:=fun i=>i=W.heap.size) g2 (fun g e _=>(Option.some.inj e).symm)).lies l1b (by omega)
   have hv:∀ g,v.ownBlock=some g→g<W.heap.size:=fun g hg=>lt g (h3 g hg)
   have o3:=(Turn.of_grown (F:=fun i=>i=W.heap.size) g2 (fun g e _=>(Option.some.inj e).symm)).own (show W1.drew.ownsRow 0 203 4 v (([]:List Ky).length+1) (kycells ([]++[x])) from o1) (fun g hg e=>by have:=hv g hg;omega)
   exact hout (fun i=>F i∨i=W.heap.size) W.heap.size _ W2 l3 o3 g1 (TellK.none_.put Maps.tidy_empty List.not_mem_nil hok (fun y hy=>absurd hy List.not_mem_nil)) (.inr rfl) t2 (fun i hi=> .inl hi)
    (fun i hi=>by
     rcases hi with hi|hi
     ·exact⟨.inl hi,by have:=lt i hi;omega⟩
     ·exact⟨.inr (Nat.le_of_eq hi.symm),by omega⟩)
  have HK:Hid (W1.cell? ⟨tb,0,none⟩=some (.map (some W.heap.size))∧Lies W1 w.heap.size 203 x.cells∧tb<W1.heap.size):=by
   refine⟨by rw[l1b.cell];rfl,?_,l1b.lt⟩
   rw[←hW1]
   exact(((Turn.refl (fun i=>i=tb) W).put (p:=⟨tb,0,none⟩) (.inl rfl) (.map (some W.heap.size))).alloc (.map #[] 0)).lies hL (fun e=>htb e.symm)
  have Q1:=Lib.hid q1
  clear hout h1 h2 h3 ok ok' inn lt few hx h1b h2b hsz q1 t1 l1b s1 o1 h hL hB hwl htb hFw
  go_enter Tryz.func176,Tryz.ntmps176
  go_wp2_with fail
  obtain⟨k0,kL,ktb⟩:=HK.out
  clear l0 l1 l2 l3 c0 f0
  have l0:=kL.cell 0
  have l1:=kL.cell 1
  have l2:=kL.cell 2
  have l3:=kL.cell 3
  simp at l0 l1 l2 l3
  clear HK kL
  go_still_tail 6,(by kernel_rfl)
  change wpList _ _ _ _ _ W1.drew
  refine wpList_mapUpdate_own _ rfl _ _ _ 31 rfl 203 3 lawK Tryz.underlying31 _ W.heap.size 0 _ rfl Q1.out.drew (by unfold maxLen;omega) _ _ _ rfl rfl hkey _ [] (plainElem_int Tryz.underlying3 (wf_nat (by simp))) ?_
  intro w1 hown1 hgrow1
  go_wp2
  go_end0
  exact⟨rfl,HUp.out _ (HF.out _ hown1 hgrow1)⟩
 ·have HF:Hid (∀ W2,W2.ownsMap Tryz.prog 203 (plainElem (H:=Unit) Tryz.prog 3) mb (ks.length+1) (D.put (klit x) (.lit (.int .i64 (ks.length:Nat))))→W.drew.grownBy W2 (some mb)→LeftK W F tb (ks++[x]) V W2):=fun W2 g1 g2=>by
   have t2:Turn F W W2:=((Turn.refl F W).drew).trans (G:=F) (Turn.of_grown g2 (fun g e _=>Option.some.inj e▸hF)) (fun _ e=> .inl e)
   have l3:=(Turn.of_grown (F:=fun i=>i=mb) g2 (fun g e _=>(Option.some.inj e).symm)).lies (show Lies W.drew tb 37 _ from h1) (fun e=>lies_not_map h1 ho e)
   have o3:=(Turn.of_grown (F:=fun i=>i=mb) g2 (fun g e _=>(Option.some.inj e).symm)).own (show W.drew.ownsRow 0 203 4 v (ks.length+1) (kycells (ks++[x])) from h2) (fun g hg e=>own_not_map h2 ho (e▸hg))
   exact hout F mb _ W2 l3 o3 g1 (ht.put (ho.tidy lawK) hx hok ok) hF t2 (fun i hi=>hi) (fun i hi=>⟨.inl hi,Nat.lt_of_lt_of_le (lt i hi) g2.size⟩)
  obtain⟨n,hn⟩:∃ n,n=ks.length:=⟨_,rfl⟩
  rw[←hn] at ho few HF ⊢
  have hnm:n<maxLen:=by unfold maxLen;omega
  have hwf:(Lit.int .i64 (n:Int)).wf=true:=wf_nat (by omega)
  have HO:=Lib.hid ho
  clear hout h1 h2 h3 ok ok' inn lt hx ht hn h hL hB hwl htb hFw ho
  go_enter Tryz.func176,Tryz.ntmps176
  go_wp2_with fail
  go_still_tail 6,(by kernel_rfl)
  change wpList _ _ _ _ _ W.drew
  refine wpList_mapUpdate_own _ rfl _ _ _ 31 rfl 203 3 lawK Tryz.underlying31 _ mb n _ rfl HO.out.drew hnm _ _ _ rfl rfl hkey _ [] (plainElem_int Tryz.underlying3 hwf) ?_
  intro w1 hown1 hgrow1
  go_wp2
  go_end0
  exact⟨rfl,HUp.out _ (HF.out _ hown1 hgrow1)⟩
theorem step_append_wide {P:Program} {w:World} {ops:Array Oper} {o:Oper} {a:Act} {K:Act→World→Prop} {Q:Exit→Act→World→Prop} {E:Prop} (hgd:o.guard=none) (s x:Operand) (t:TypeId)
  (ho:o.op=.call { callee:=.builtin .append,args:=#[s,x],argTypes:=#[t,t] })
  (base:Nat) (e:TypeId) (i:TypeInfo) (z:Value) (size bytes:Nat) (ht:P.underlying t=some (.slice e)) (hi:P.info? e=some i) (hz:i.zero=some z)
  (hsize:i.size=size) (hby:i.bytes=bytes) (hzs:z.cells.size=size) (hs0:0<size)
  (v:Value) (n:Nat) (xs:List Value) (hs:a.eval s=v) (hown:w.ownsRow base e size v n xs)
  (ad:Addr) (m c:Nat) (news:List Value) (hx:a.eval x=.slice (some ad) m c) (hl:news.length=m*size) (hnews:∀ j u,news[j]?=some u→w.cell? (ad.add j)=some u) (h1:∀ u∈news,u.oneCell'=true)
  (h63:n+m≤maxLen) (hbytes:(n+m)*bytes≤140737488355328) (hbase:base≤w.heap.size)
  (h:∀ A' c' w',w'.ownsRow base e size (.slice A' (n+m) c') (n+m) (xs++news)→w.grownBy w' v.ownBlock→((Value.slice A' (n+m) c').ownBlock=v.ownBlock∨(Value.slice A' (n+m) c').ownBlock=some w.heap.size)→K (a.put o.dst (.slice A' (n+m) c')) w'):
  if Region.wanted o (yielded ops a.tmps)=true then Oper.wp P o a w K Q else E:=by
 have hw:Region.wanted o (yielded ops a.tmps)=true:=by simp[Region.wanted,hgd]
 rw[if_pos hw]
 obtain⟨v',w',hr,q1,q2,_,q4⟩:=run_append_own_at (P:=P) w base t o.type e i z size bytes ht hi hz hsize hby hzs hs0 v n xs hown ad m c news hl hnews h1 h63 hbytes hbase
 obtain⟨A',c',rfl⟩:=own_form q1
 unfold Oper.wp
 simp[execOp,ho,resolve,invoke,builtin,hs,hx,hr,Result.andThen]
 exact h A' c' w' q1 q2 q4
theorem infoK:(Tryz.prog.info? 203).map (fun i=>(i.zero,i.size,i.bytes))=some (some (.agg #[.int .i64 0,.int .i64 0,.string ByteArray.empty,.string ByteArray.empty]),4,48):=by kernel_rfl
theorem TabK.keys {w:World} {F:Nat→Prop} {tb:Nat} {ks:List Ky} {V:Value} (h:TabK w F tb ks V):∃ m A c,Lies w tb 37 #[m,.slice A ks.length c,V]∧w.ownsRow 0 203 4 (.slice A ks.length c) ks.length (kycells ks)∧(∀ g,(Value.slice A ks.length c).ownBlock=some g→F g)∧NoteK w F m ks:=by
 obtain⟨⟨m,v,h1,h2,h3,h4⟩,_⟩:=h
 rcases h2.2 with⟨rfl,h0⟩|⟨g,cap,cur,rfl,_⟩
 ·exact⟨m,none,0,by rw[h0];exact h1,by rw[h0] at h2 ⊢;exact h2,by rw[h0];exact h3,h4⟩
 ·exact⟨m,_,_,h1,h2,h3,h4⟩
theorem ky_at (x:Ky) (w:World) (j:Nat) (u:Value) (h:(kycell x)[j]?=some u):(w.alloc (.cells x.cells 203)).cell? ((⟨w.heap.size,0,none⟩:Addr).add j)=some u:=by
 rw[addr_add,Nat.zero_add,(Lies.new w 203 x.cells).cell]
 simpa [kycell] using h
theorem ky_get1 {x:Ky} {j:Nat} {u:Value} (h:(kycells [x])[j]?=some u):(kycell x)[j]?=some u:=by simpa [kycells] using h
theorem addK_new (w:World) (F:Nat→Prop) (tb:Nat) (ks:List Ky) (V:Value) (x:Ky) (hx:x∉ks) (hok:x.Ok) (hl:ks.length<1000000) (h:TabK w F tb ks V):
  Calls Tryz.prog 142 #[.pointer (some ⟨tb,0,none⟩),x.v] w fun e w'=>e=.returned (.tuple #[.int .i64 (ks.length:Nat),.bool true])∧LeftK w F tb (ks++[x]) V w':=by
 obtain⟨W,hW⟩:∃ W,w.alloc (.cells x.cells 203)=W:=⟨_,rfl⟩
 have hB:Below w.heap.size w W:=by rw[←hW];exact(Below.refl _ w).alloc (Nat.le_refl _) _
 have hL:Lies W w.heap.size 203 x.cells:=by rw[←hW];exact Lies.new w _ _
 have HUp:Hid (∀ w',LeftK W F tb (ks++[x]) V w'→LeftK w F tb (ks++[x]) V w'):=fun w' q=>q.after (Turn.of_below hB) (fun _ e=>e) (fun _ e=> .inl e)
 have h0:=h.below hB
 have htb:tb≠w.heap.size:=fun e=>by have:=h.lt tb h.inn;omega
 have HC:=Lib.hid (findK W F tb ks V x 0 false (.inr ⟨rfl,hx,rfl⟩) hok h0)
 obtain⟨m,A,c,h1,h2,h3,h4⟩:=h0.keys
 obtain⟨_,ok,inn,lt,few⟩:=h0
 obtain⟨i0,hi,hz0,hz1,hz2⟩:=info_parts infoK
 have hlt:=h1.lt
 have c1:=h1.cell 1
 simp at c1
 have hne:∀ g,(Value.slice A ks.length c).ownBlock=some g→g≠tb:=fun g hg e=>own_not_lies h2 h1 (by decide) (e▸hg)
 have hnb:∀ g,(Value.slice A ks.length c).ownBlock=some g→g≠w.heap.size:=fun g hg e=>by have:=h.lt g (h3 g hg);omega
 have hnm:∀ b D,m=.map (some b)→W.ownsMap Tryz.prog 203 (plainElem (H:=Unit) Tryz.prog 3) b ks.length D→(Value.slice A ks.length c).ownBlock≠some b:=fun b D _ ho=>own_not_map h2 ho
 have HW:Hid (∀ w1,Below W.heap.size W w1→tb<w1.heap.size∧w1.cell? ⟨tb,1,none⟩=some (.slice A ks.length c)∧w1.drew.ownsRow 0 203 4 (.slice A ks.length c) ks.length (kycells ks)∧Lies w1 w.heap.size 203 x.cells):=fun w1 b1=>
  ⟨Nat.lt_of_lt_of_le hlt b1.size,(b1.cell (p:=⟨tb,1,none⟩) hlt).trans c1,(Turn.of_below (F:=fun _=>False) b1).own h2 (fun _ _=>id),(b1.block _ hL.lt).trans hL⟩
 have HA:Hid (∀ w1 w2,Below W.heap.size W w1→(w1.drew.alloc (.cells x.cells 203)).grownBy w2 (Value.slice A ks.length c).ownBlock→tb<w2.heap.size∧w2.cell? ⟨tb,1,none⟩=some (.slice A ks.length c)∧w2.frozen? ⟨tb,1,none⟩=false):=fun w1 w2 b1 g1=>by
  have l1:Lies w1.drew tb 37 _:=(Turn.of_below (F:=fun _=>False) b1).lies h1 id
  have l2:=((Turn.refl (fun _=>False) w1.drew).alloc (.cells x.cells 203)).lies l1 id
  have l3:=(Turn.of_grown (F:=fun i=>i≠tb) g1 (fun g e _=>hne g e)).lies l2 (fun e=>e rfl)
  exact⟨l3.lt,by rw[l3.cell 1];rfl,l3.free 1⟩
 have HB1:Hid (∀ w1 v' w2,Below W.heap.size W w1→(w1.drew.alloc (.cells x.cells 203)).grownBy w2 (Value.slice A ks.length c).ownBlock→Lies (w2.setCell ⟨tb,1,none⟩ v') w.heap.size 203 x.cells):=fun w1 v' w2 b1 g1=>by
  have l1:Lies w1.drew w.heap.size 203 x.cells:=(b1.block _ hL.lt).trans hL
  have l2:=((Turn.refl (fun _=>False) w1.drew).alloc (.cells x.cells 203)).lies l1 id
  have l3:=(Turn.of_grown (F:=fun i=>i≠w.heap.size) g1 (fun g e _=>hnb g e)).lies l2 (fun e=>e rfl)
  exact((Turn.refl (fun i=>i=tb) w2).put (p:=⟨tb,1,none⟩) (.inl rfl) v').lies l3 (fun e=>htb e.symm)
 have HB:Hid (∀ w1 v' w2 w4,Below W.heap.size W w1→(w1.drew.alloc (.cells x.cells 203)).grownBy w2 (Value.slice A ks.length c).ownBlock→w2.ownsRow 0 203 4 v' (ks.length+1) (kycells ks++kycells [x])→
   (v'.ownBlock=(Value.slice A ks.length c).ownBlock∨v'.ownBlock=some (w1.drew.alloc (.cells x.cells 203)).heap.size)→Below (w2.setCell ⟨tb,1,none⟩ v').heap.size (w2.setCell ⟨tb,1,none⟩ v') w4→
   HalfK w4 (fun i=>F i∨(W.heap.size≤i∧i<w4.heap.size)) tb ks x m V∧Turn F W w4):=fun w1 v' w2 w4 b1 g1 o1 hv b4=>by
  have t1:Turn F W (w1.drew.alloc (.cells x.cells 203)):=((Turn.of_below b1).drew).alloc _
  have t2:Turn F W w2:=t1.trans (G:=F) (Turn.of_grown g1 (fun g e _=>h3 g e)) (fun i hi=> .inl hi)
  have t3:Turn F W (w2.setCell ⟨tb,1,none⟩ v'):=t2.put (p:=⟨tb,1,none⟩) (.inl inn) _
  have t4:Turn F W w4:=t3.step b4
  have s1:=(World.grownBy_alloc w1.drew (.cells x.cells 203) none).size
  have s2:=g1.size
  have s4:=b4.size
  have s3:(w2.setCell ⟨tb,1,none⟩ v').heap.size=w2.heap.size:=by simp[World.setCell]
  have l1:Lies w1.drew tb 37 _:=(Turn.of_below (F:=fun _=>False) b1).lies h1 id
  have l2:=((Turn.refl (fun _=>False) w1.drew).alloc (.cells x.cells 203)).lies l1 id
  have l3:=(Turn.of_grown (F:=fun i=>i≠tb) g1 (fun g e _=>hne g e)).lies l2 (fun e=>e rfl)
  have l4:Lies (w2.setCell ⟨tb,1,none⟩ v') tb 37 #[m,v',V]:=l3.put 1 v'
  have l5:=(Turn.of_below (F:=fun _=>False) b4).lies l4 id
  have hw1:W.heap.size≤w1.drew.heap.size:=b1.size
  have hv2:∀ g,v'.ownBlock=some g→g≠tb:=fun g hg=>by
   rcases hv with e|e
   ·exact hne g (e▸hg)
   ·rw[e] at hg
    have:=Option.some.inj hg
    omega
  have o2:=((Turn.refl (fun i=>i=tb) w2).put (p:=⟨tb,1,none⟩) (.inl rfl) v').own o1 hv2
  have o3:=(Turn.of_below (F:=fun _=>False) b4).own o2 (fun _ _=>id)
  refine⟨⟨⟨v',l5,by simpa using o3,fun g hg=>?_⟩,?_,ok,.inl inn,fun i hi=>?_,hl⟩,t4⟩
  ·rcases hv with e|e
   ·exact .inl (h3 g (e▸hg))
   ·refine .inr ⟨?_,(o3.lt g hg).2⟩
    rw[e] at hg
    have:=Option.some.inj hg
    omega
  ·rcases h4 with h4|⟨b,D,rfl,hF,ho,ht⟩
   ·exact .inl h4
   ·refine .inr ⟨b,D,rfl,.inl hF,?_,ht⟩
    have u1:=(((Turn.of_below (F:=fun _=>False) b1).drew).alloc (.cells x.cells 203)).map ho id
    have u2:=(Turn.of_grown (F:=fun i=>i≠b) g1 (fun g e _ he=>hnm b D rfl ho (he▸e))).map u1 (fun e=>e rfl)
    have u3:=((Turn.refl (fun i=>i=tb) w2).put (p:=⟨tb,1,none⟩) (.inl rfl) v').map u2 (fun e=>lies_not_map h1 ho e.symm)
    exact(Turn.of_below (F:=fun _=>False) b4).map u3 id
  ·rcases hi with hi|hi
   ·exact Nat.lt_of_lt_of_le (lt i hi) t4.size
   ·exact hi.2
 have HN:=Lib.hid fun(w4:World) (q:HalfK w4 (fun i=>F i∨(W.heap.size≤i∧i<w4.heap.size)) tb ks x m V)=>noteK w4 _ tb ks x m V hx hok q
 have HE:Hid (∀ w4 w5,Turn F W w4→LeftK w4 (fun i=>F i∨(W.heap.size≤i∧i<w4.heap.size)) tb (ks++[x]) V w5→LeftK W F tb (ks++[x]) V w5):=fun w4 w5 t q=>
  q.after t (fun i hi=> .inl hi) (fun i hi=>hi.imp id (fun e=>e.1))
 have HS:=Lib.hid fun W=>sameK x W
 have l0:=hL.cell 0
 have l1:=hL.cell 1
 have l2:=hL.cell 2
 have l3:=hL.cell 3
 simp at l0 l1 l2 l3
 obtain⟨L,HL⟩:∃ L:List Value,Hid (L=kycells ks):=⟨_,rfl⟩
 obtain⟨n,HNn⟩:∃ n,Hid (n=ks.length):=⟨_,rfl⟩
 rw[←HL.out,←HNn.out] at HB HW
 rw[←HNn.out] at HA HB1 HN c1 hl few ⊢
 clear h1 h2 h3 h4 hx hok ok inn lt hne hnm hnb few h hB hL htb
 have hmx:n+1≤maxLen:=by unfold maxLen;omega
 have hbt:(n+1)*48≤140737488355328:=by omega
 go_enter Tryz.func142,Tryz.ntmps142
 go_wp2_with fail
 refine HC.out.mono ?_
 rintro e w1 ⟨rfl,b1⟩
 obtain⟨z1,y1,o1,lb1⟩:=HW.out w1 b1
 have O1:=Lib.hid o1
 have b01:=lb1.cell 0
 have b11:=lb1.cell 1
 have b21:=lb1.cell 2
 have b31:=lb1.cell 3
 simp at b01 b11 b21 b31
 have B1:=Lib.hid b1
 clear o1 b1 l0 l1 l2 l3 c1 hlt HC HW lb1 hW
 go_wp2_with fail
 go_region_law (refine step_append_wide rfl (.tmp 28) (.tmp 30) 32 rfl 0 203 i0 (.agg #[.int .i64 0,.int .i64 0,.string ByteArray.empty,.string ByteArray.empty]) 4 48 Tryz.underlying32 hi hz0 hz1 hz2 rfl (by decide) (.slice A n c) n L (by simp[Act.eval]) (O1.out.alloc _) ⟨w1.heap.size,0,none⟩ 1 1 (kycells [x]) (by simp[Act.eval]) rfl (fun j u hu=>ky_at x w1.drew j u (ky_get1 hu)) (ky_one [x]) hmx hbt (Nat.zero_le _) ?_;intro A2 c2 w2 o2 g2 a2;obtain⟨z2,y2,f2⟩:=HA.out w1 w2 B1.out g2;have O2:=Lib.hid o2;have A2':=Lib.hid a2;clear o2 a2)
 all_goals
  have lb2:=HB1.out w1 (.slice A2 (n+1) c2) w2 B1.out g2
  clear b01 b11 b21 b31
  have b01:=lb2.cell 0
  have b11:=lb2.cell 1
  have b21:=lb2.cell 2
  have b31:=lb2.cell 3
  simp at b01 b11 b21 b31
  have LB2:=Lib.hid lb2
  have G2:Hid ((w1.drew.alloc (.cells x.cells 203)).grownBy w2 (Value.slice A n c).ownBlock):=g2
  clear lb2 g2
  go_wp2_with fail
  refine(HS.out _).mono ?_
  rintro e w4 ⟨rfl,b4⟩
  obtain⟨q4,t4⟩:=HB.out w1 _ w2 w4 B1.out G2.out O2.out A2'.out b4
  have lb4:=(b4.block _ LB2.out.lt).trans LB2.out
  clear b01 b11 b21 b31
  have b01:=Lies.cell (t:=203) (cs:=x.cells) lb4 0
  have b11:=Lies.cell (t:=203) (cs:=x.cells) lb4 1
  have b21:=Lies.cell (t:=203) (cs:=x.cells) lb4 2
  have b31:=Lies.cell (t:=203) (cs:=x.cells) lb4 3
  simp at b01 b11 b21 b31
  have HN4:=Lib.hid (HN.out w4 q4)
  have T4:=Lib.hid t4
  clear HS HB HB1 HA HN lb4 LB2 G2 O2 A2' b4 q4 t4 y1 z1 y2 z2 f2
  go_wp2_with fail
  refine HN4.out.mono ?_
  rintro e w5 ⟨rfl,l5⟩
  have L5:=Lib.hid (HUp.out _ (HE.out w4 w5 T4.out l5))
  clear HN4 HE T4 l5 HUp b01 b11 b21 b31
  go_wp2
  go_ret2
  exact⟨rfl,L5.out⟩
end Go.Proofs.YtcgaeknikfaghaaGreatDoor
namespace Go.Proofs.YtcgaeknikfaghaaGreatDoor
open Go.RowKit
theorem knan1 (z:Int) (w:World):Calls Tryz.prog 256 #[.int .i64 z] w fun e w'=>e=.returned (.bool false)∧w'=w:=by
 go_enter Tryz.func256,Tryz.ntmps256
 go_wp2
 go_ret
 exact⟨by simp,rfl⟩
theorem knan2 (z:Int) (w:World):Calls Tryz.prog 243 #[.int .i64 z] w fun e w'=>e=.returned (.bool false)∧w'=w:=by
 go_enter Tryz.func243,Tryz.ntmps243
 go_wp2
 go_ret
 exact⟨by simp,rfl⟩
theorem kless (x y:Int) (w:World):Calls Tryz.prog 242 #[.int .i64 x,.int .i64 y] w fun e w'=>e=.returned (.bool (decide (x<y)))∧w'=w:=by
 have HN:=Lib.hid fun w=>knan1 x w
 obtain⟨b,hb⟩:∃ b,decide (x<y)=b:=⟨_,rfl⟩
 rw[hb]
 go_enter Tryz.func242,Tryz.ntmps242
 go_wp2_with (go_at_call 256;refine(HN.out _).mono ?_;rintro e w1 ⟨rfl,rfl⟩)
 go_ret
 exact⟨rfl,rfl⟩
theorem kbsearch (w:World) (A:Option Addr) (n c:Nat) (l:List Int) (h:NumS w A n l) (hn:n≤1000000) (z:Int) (k:Nat) (hk:k≤n) (hlo:∀ (i:Nat) x,i<k→l[i]?=some x→x<z) (hhi:∀ (i:Nat) x,k≤i→l[i]?=some x→z≤x):
  Calls Tryz.prog 231 #[.slice A n c,.int .i64 z] w fun e w'=>(∃ b,e=.returned (.tuple #[.int .i64 (k:Int),.bool b]))∧w'=w:=by
 have HH:=Lib.hid h
 have HL:=Lib.hid hlo
 have HU:=Lib.hid hhi
 clear h hlo hhi
 go_enter Tryz.func231,Tryz.ntmps231
 go_wp2
 go_loopw [7,8] (fun iv jv wr=>∃ i j:Nat,i≤k∧k≤j∧j≤n∧iv=.int .i64 (i:Nat)∧jv=.int .i64 (j:Nat)∧w=wr) (fun iv jv _=>(intOf jv).toNat-(intOf iv).toNat)
 case atStart=>exact⟨0,n,Nat.zero_le _,hk,Nat.le_refl _,rfl,rfl,rfl⟩
 case round=>
  obtain⟨i,j,hik,hkj,hjn,rfl,rfl,rfl⟩:=hrel
  by_cases hlt:i<j
  ·obtain⟨q,hq⟩:∃ q,(i+j)/2=q:=⟨_,rfl⟩
   have hqi:i≤q:=by omega
   have hqj:q<j:=by omega
   have hd1:decide ((i:Int)<(j:Int))=true:=decide_eq_true (by omega)
   obtain⟨b,off,x,rfl,hx,_,_,hc⟩:=HH.out.get (i:=q) (by omega)
   obtain⟨hbl,cx⟩:=hc w (Below.refl _ w)
   have hqn:(q:Int)<(n:Int):=by omega
   have hq0:(0:Int)≤(q:Int):=by omega
   have hs:IntKind.i64.wrap ((i:Int)+(j:Int))=(i:Int)+(j:Int):=IntWalk.i64_in _ (by omega)
   have hq2:((i:Int)+(j:Int))/2=(q:Int):=by omega
   have hq3:((i:Int)+(j:Int)) >>> 1=(q:Int):=by rw[Int.shiftRight_eq_div_pow];omega
   have HLs:=Lib.hid fun w=>kless x z w
   by_cases hxz:x<z
   ·have hqk:q<k:=by
     rcases Nat.lt_or_ge q k with e|e
     ·exact e
     ·have:=HU.out q x e hx
      omega
    rw[decide_eq_true hxz] at HLs
    clear hc hx hq HH HL HU hlt hxz
    go_wp2_with fail
    refine(HLs.out _).mono ?_
    rintro e w1 ⟨rfl,rfl⟩
    clear HLs
    go_wp2
    go_roundw
    case rel=>exact⟨q+1,j,by omega,hkj,hjn,by go_num,rfl,by first|trivial|rfl⟩
    case measure=>simp[intOf];omega
   ·have hqk:k≤q:=by
     rcases Nat.lt_or_ge q k with e|e
     ·have:=HL.out q x e hx
      omega
     ·exact e
    rw[decide_eq_false hxz] at HLs
    clear hc hx hq HH HL HU hlt hxz
    go_wp2_with fail
    refine(HLs.out _).mono ?_
    rintro e w1 ⟨rfl,rfl⟩
    clear HLs
    go_wp2
    go_roundw
    case rel=>exact⟨i,q,hik,hqk,by omega,rfl,by go_num,by first|trivial|rfl⟩
    case measure=>simp[intOf];omega
  ·obtain rfl:i=k:=by omega
   obtain rfl:j=i:=by omega
   have hd1:decide ((j:Int)<(j:Int))=false:=decide_eq_false (by omega)
   have HN:=Lib.hid fun(x:Int) w=>knan2 x w
   by_cases hjn2:j<n
   ·obtain⟨b,off,x,rfl,hx,_,_,hc⟩:=HH.out.get hjn2
    obtain⟨hbl,cx⟩:=hc w (Below.refl _ w)
    have hqn:(j:Int)<(n:Int):=by omega
    have hqd:decide ((j:Int)<(n:Int))=true:=decide_eq_true hqn
    have hq0:(0:Int)≤(j:Int):=by omega
    cases hxz:(x == z) with
    |true=>
     clear hc hx HH HL HU hlt hk hik hkj
     go_wp2
     go_ret2
     exact⟨⟨_,rfl⟩,rfl⟩
    |false=>
     clear hc hx HH HL HU hlt hk hik hkj
     go_wp2_with (go_at_call 243;refine(HN.out _ _).mono ?_;rintro e w1 ⟨rfl,rfl⟩)
     go_ret2
     exact⟨⟨_,rfl⟩,rfl⟩
   ·have hqd:decide ((j:Int)<(n:Int))=false:=decide_eq_false (by omega)
    clear HH HL HU hlt hk hik hkj
    go_wp2
    go_ret2
    exact⟨⟨_,rfl⟩,rfl⟩
end Go.Proofs.YtcgaeknikfaghaaGreatDoor
