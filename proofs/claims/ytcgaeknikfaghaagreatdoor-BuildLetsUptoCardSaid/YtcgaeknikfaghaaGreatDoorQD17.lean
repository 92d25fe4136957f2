/- What the proofs of this claim use, text by text. -/
import Derived.Test.YtcgaeknikfaghaaGreatDoorQD16
import Derived.Test.YtcgaeknikfaghaaGreatDoorQD15
import Derived.Maps.OwnRows
import Derived.WalkSmall
import Derived.Laws.OwnMore
set_option linter.unusedSimpArgs false
set_option linter.unusedVariables false
set_option maxRecDepth 100000
set_option maxHeartbeats 25600000
namespace Go.Proofs.YtcgaeknikfaghaaGreatDoor
open Go.RowKit
theorem lawS:Maps.Keyed Tryz.prog 9:=Maps.string_keyed Tryz.underlying9
abbrev slit (s:ByteArray):Lit:=.string s.data.toList
theorem slit_inj {s t:ByteArray} (h:slit s=slit t):s=t:=by
 injection h with h
 exact ByteArray.ext (Array.toList_inj.1 h)
def TellS (D:DataW Unit) (g:ByteArray→Option Int):Prop:=
 ∀ s:ByteArray,s.size≤maxLen→(g s=none→Maps.has D (slit s)=false)∧∀ i,g s=some i→Maps.has D (slit s)=true∧D.atKey (slit s) (.lit (.int .i64 0))=.lit (.int .i64 i)
theorem TellS.none_:TellS (.map []) (fun _=>none):=fun _ _=>⟨fun _=>rfl,fun _ e=>by cases e⟩
theorem TellS.put {D:DataW Unit} {g:ByteArray→Option Int} (h:TellS D g) (ht:Maps.Tidy D) (s:ByteArray) (v:Int):TellS (D.put (slit s) (.lit (.int .i64 v))) (fun t=>if t=s then some v else g t):=fun t ht2=>by
 have hkl:WideAt.IsKeyLit (slit s):=by trivial
 by_cases e:t=s
 ·subst e
  refine⟨fun h0=>by simp at h0,fun i hi=>?_⟩
  obtain rfl:v=i:=by simpa using hi
  exact⟨by rw[Maps.has_put_same ht.isMap hkl],by rw[Maps.atKey_put_same ht.isMap hkl]⟩
 ·have hne:slit t≠slit s:=fun e2=>e (slit_inj e2)
  obtain⟨h1,h2⟩:=h t ht2
  refine⟨fun h0=>?_,fun i hi=>?_⟩
  ·rw[Maps.has_put_other hne];exact h1 (by simpa [e] using h0)
  ·obtain⟨k1,k2⟩:=h2 i (by simpa [e] using hi)
   exact⟨by rw[Maps.has_put_other hne];exact k1,by rw[Maps.atKey_put_other hne];exact k2⟩
theorem TellS.congr {D:DataW Unit} {g g':ByteArray→Option Int} (h:TellS D g) (e:∀ s,g s=g' s):TellS D g':=by
 have:g=g':=funext e
 rw[←this]
 exact h
theorem lookS {w:World} {b q:Nat} {D:DataW Unit} {g:ByteArray→Option Int} (ho:w.ownsMap Tryz.prog 9 (plainElem Tryz.prog 3) b q D) (ht:TellS D g) (s:ByteArray) (hs:s.size≤maxLen):
  (Instr.lookup 98 (.map (some b)) (.string s) true).run Tryz.prog w=.ok (.tuple #[.int .i64 ((g s).getD 0),.bool (g s).isSome]) w:=by
 obtain⟨v,ps,hrun,hv⟩:=ho.look_ok lawS Tryz.underlying98 (zeroInt w) (plainElem_int Tryz.underlying3 (by decide)) (WideMaps.keyOf_string_mk (P:=Tryz.prog) Tryz.underlying9 hs)
 obtain⟨c,rfl,h1,_⟩:=plainElem_int_inv Tryz.underlying3 hv
 have h2:=congrArg Prod.fst h1
 simp only at h2
 obtain⟨t1,t2⟩:=ht s hs
 cases hg:g s with
 |none=>
  have e:=t1 hg
  rw[Maps.atKey_of_not_has e] at h2
  rw[hrun,e,←lit_i64 h2]
  rfl
 |some i=>
  obtain⟨e1,e2⟩:=t2 i hg
  rw[e2] at h2
  rw[hrun,e1,←lit_i64 h2]
  rfl
theorem lookS_nil (w:World) (s:ByteArray) (hs:s.size≤maxLen):
  (Instr.lookup 98 (.map none) (.string s) true).run Tryz.prog w=.ok (.tuple #[.int .i64 0,.bool false]) w:=by
 have:=Maps.look_nil (w:=w) (P:=Tryz.prog) true lawS Tryz.underlying98 (zeroInt w) (WideMaps.keyOf_string_mk (P:=Tryz.prog) Tryz.underlying9 hs)
 simpa using this
structure DcP where
 A:Option Addr
 c:Nat
 B:Option Addr
 d:Nat
abbrev dcells (P:DcP) (d:Dc):List Value:=[.string d.name,.int .i64 d.sort,.bool d.mac,.slice P.A d.par.length P.c,.bool d.body.list,.int .i64 d.body.k,.string d.body.T,.int .i64 d.body.ta,.int .i64 d.body.at_,.slice P.B d.body.L.length P.d]
theorem TreeL.turn9 {F G G':Nat→Prop} {w w':World} {A:Option Addr} {l:List Sx} (h:TreeL w (fun b _=>G b) A l) (ht:Turn F w w') (hG:∀ k,k<w.heap.size→G k→¬F k∧G' k):TreeL w' (fun b _=>G' b) A l:=
 h.imp ht.size (fun b off hlt hg j _=>ht.cell (p:=⟨b,off+j,none⟩) hlt (hG b hlt hg).1) fun _ _ hlt hg=>(hG _ hlt hg).2
structure ParS (w:World) (G:Nat→Prop) (A:Option Addr) (l:List (ByteArray×Int)):Prop where
 at_:0<l.length→∃ b off,A=some ⟨b,off,none⟩∧G b∧b<w.heap.size∧∀ (i:Nat) p,l[i]?=some p→w.cell? ⟨b,off+i*2,none⟩=some (.string p.1)∧w.cell? ⟨b,off+i*2+1,none⟩=some (.int .i64 p.2)
theorem ParS.turn {F G G':Nat→Prop} {w w':World} {A:Option Addr} {l:List (ByteArray×Int)} (h:ParS w G A l) (ht:Turn F w w') (hG:∀ k,k<w.heap.size→G k→¬F k∧G' k):ParS w' G' A l:=
 ⟨fun hn=>by
  obtain⟨b,off,e,hg,hlt,hc⟩:=h.at_ hn
  obtain⟨hF,hg'⟩:=hG b hlt hg
  exact⟨b,off,e,hg',Nat.lt_of_lt_of_le hlt ht.size,fun i p hp=>⟨(ht.cell (p:=⟨b,off+i*2,none⟩) hlt hF).trans (hc i p hp).1,(ht.cell (p:=⟨b,off+i*2+1,none⟩) hlt hF).trans (hc i p hp).2⟩⟩⟩
structure DcAs (w:World) (G:Nat→Prop) (P:DcP) (d:Dc):Prop where
 par:ParS w G P.A d.par
 body:STree w (fun b _=>G b) d.body P.B P.d
theorem DcAs.turn {F G G':Nat→Prop} {w w':World} {P:DcP} {d:Dc} (h:DcAs w G P d) (ht:Turn F w w') (hG:∀ k,k<w.heap.size→G k→¬F k∧G' k):DcAs w' G' P d:=⟨h.par.turn ht hG,h.body.le,h.body.tree.turn9 ht hG⟩
structure DcS (w:World) (G:Nat→Prop) (A:Option Addr) (n c:Nat) (L:List (DcP×Dc)):Prop where
 len:L.length=n
 nil:A=none→n=0∧c=0
 at_:0<n→∃ b off,A=some ⟨b,off,none⟩∧G b∧b<w.heap.size∧∀ (i:Nat) q,L[i]?=some q→(∀ j u,(dcells q.1 q.2)[j]?=some u→w.cell? ⟨b,off+i*10+j,none⟩=some u)∧DcAs w G q.1 q.2
theorem DcS.turn {F G G':Nat→Prop} {w w':World} {A:Option Addr} {n c:Nat} {L:List (DcP×Dc)} (h:DcS w G A n c L) (ht:Turn F w w') (hG:∀ k,k<w.heap.size→G k→¬F k∧G' k):DcS w' G' A n c L:=
 ⟨h.len,h.nil,fun hn=>by
  obtain⟨b,off,e,hg,hlt,hc⟩:=h.at_ hn
  obtain⟨hF,hg'⟩:=hG b hlt hg
  exact⟨b,off,e,hg',Nat.lt_of_lt_of_le hlt ht.size,fun i q hq=>⟨fun j u hu=>(ht.cell (p:=⟨b,off+i*10+j,none⟩) hlt hF).trans ((hc i q hq).1 j u hu),(hc i q hq).2.turn ht hG⟩⟩⟩
theorem DcS.get {w:World} {G:Nat→Prop} {A:Option Addr} {n c i:Nat} {L:List (DcP×Dc)} (h:DcS w G A n c L) (hi:i<n):
  ∃ b off P d,A=some ⟨b,off,none⟩∧b<w.heap.size∧L[i]?=some (P,d)∧(L.map (·.2))[i]?=some d∧DcAs w G P d∧∀ w',Turn (fun k=>¬G k) w w'→b<w'.heap.size∧∀ j u,(dcells P d)[j]?=some u→w'.cell? ⟨b,off+i*10+j,none⟩=some u:=by
 obtain⟨b,off,e,hg,hlt,hc⟩:=h.at_ (by omega)
 obtain⟨q,hq⟩:∃ q,L[i]?=some q:=⟨_,List.getElem?_eq_getElem (by rw[h.len];exact hi)⟩
 exact⟨b,off,q.1,q.2,e,hlt,hq,by rw[List.getElem?_map,hq];rfl,(hc i q hq).2,fun w' hw=>⟨Nat.lt_of_lt_of_le hlt hw.size,fun j u hu=>(hw.cell (p:=⟨b,off+i*10+j,none⟩) hlt fun e=>e hg).trans ((hc i q hq).1 j u hu)⟩⟩
def Mk.spell (j:Nat) (A:List Int):List UInt8:=Lib.itoa (j:Int)++A.flatMap fun z=>32::Lib.itoa z
abbrev Mk.key (j:Nat) (A:List Int):ByteArray:=⟨(Mk.spell j A).toArray⟩
theorem itoa_blank (z:Int):(32:UInt8)∉Lib.itoa z:=by
 intro h
 unfold Lib.itoa at h
 split at h
 ·rcases List.mem_cons.1 h with h|h
  ·exact absurd h (by decide)
  ·exact absurd (dec_digit _ _ h).1 (by decide)
 ·exact absurd (dec_digit _ _ h).1 (by decide)
theorem blank_split:∀ {a b c d:List UInt8},(32:UInt8)∉a→(32:UInt8)∉c→(b=[]∨b.head?=some 32)→(d=[]∨d.head?=some 32)→a++b=c++d→a=c∧b=d
 |[],b,[],d,_,_,_,_,h=>⟨rfl,h⟩
 |[],b,y::c,d,_,hc,hb,_,h=>by
  exfalso
  rw[List.nil_append] at h
  rcases hb with rfl|hb
  ·cases h
  ·rw[h] at hb
   have:y=32:=by simpa using hb
   exact hc (by rw[this];exact List.mem_cons_self)
 |x::a,b,[],d,ha,_,_,hd,h=>by
  exfalso
  rw[List.nil_append] at h
  rcases hd with rfl|hd
  ·cases h
  ·rw[←h] at hd
   have:x=32:=by simpa using hd
   exact ha (by rw[this];exact List.mem_cons_self)
 |x::a,b,y::c,d,ha,hc,hb,hd,h=>by
  injection h with h1 h2
  obtain⟨e1,e2⟩:=blank_split (fun m=>ha (List.mem_cons_of_mem _ m)) (fun m=>hc (List.mem_cons_of_mem _ m)) hb hd h2
  exact⟨by rw[h1,e1],e2⟩
theorem blank_tail (A:List Int):(A.flatMap fun z=>(32:UInt8)::Lib.itoa z)=[]∨(A.flatMap fun z=>(32:UInt8)::Lib.itoa z).head?=some 32:=by
 cases A with
 |nil=>exact .inl rfl
 |cons z A=>exact .inr rfl
theorem tails_inj:∀ {A B:List Int},(A.flatMap fun z=>(32:UInt8)::Lib.itoa z)=(B.flatMap fun z=>(32:UInt8)::Lib.itoa z)→A=B
 |[],[],_=>rfl
 |[],z::B,h=>by cases h
 |z::A,[],h=>by cases h
 |z::A,y::B,h=>by
  rw[List.flatMap_cons,List.flatMap_cons,List.cons_append,List.cons_append] at h
  injection h with _ h
  obtain⟨e1,e2⟩:=blank_split (itoa_blank z) (itoa_blank y) (blank_tail A) (blank_tail B) h
  rw[itoa_inj e1,tails_inj e2]
theorem Mk.spell_inj {j k:Nat} {A B:List Int} (h:Mk.spell j A=Mk.spell k B):j=k∧A=B:=by
 obtain⟨e1,e2⟩:=blank_split (itoa_blank _) (itoa_blank _) (blank_tail A) (blank_tail B) h
 exact⟨by have:=itoa_inj e1;omega,tails_inj e2⟩
theorem Mk.key_inj {j k:Nat} {A B:List Int} (h:Mk.key j A=Mk.key k B):j=k∧A=B:=Mk.spell_inj (by
 have:=congrArg (fun s:ByteArray=>s.data.toList) h
 simpa using this)
def TellM (D:DataW Unit) (m:List (Nat×List Int×Int)):Prop:=
 ∀ (j:Nat) (A:List Int),(Mk.hit m j A=none→Maps.has D (slit (Mk.key j A))=false)∧∀ i,Mk.hit m j A=some i→Maps.has D (slit (Mk.key j A))=true∧D.atKey (slit (Mk.key j A)) (.lit (.int .i64 0))=.lit (.int .i64 i)
theorem TellM.none_:TellM (.map []) []:=fun _ _=>⟨fun _=>rfl,fun _ e=>by cases e⟩
theorem Mk.hit_cons (j k:Nat) (A B:List Int) (id:Int) (m:List (Nat×List Int×Int)):Mk.hit ((j,A,id)::m) k B=if j=k∧A=B then some id else Mk.hit m k B:=by
 unfold Mk.hit
 rw[List.find?_cons]
 by_cases e:j=k∧A=B
 ·rw[if_pos e,decide_eq_true (show(j,A,id).1=k∧(j,A,id).2.1=B from e)];rfl
 ·rw[if_neg e,decide_eq_false (show ¬((j,A,id).1=k∧(j,A,id).2.1=B) from e)]
theorem Mk.hit_filter {j k:Nat} {A B:List Int} (m:List (Nat×List Int×Int)) (h:¬(j=k∧A=B)):Mk.hit (m.filter fun q=> !decide (q.1=j∧q.2.1=A)) k B=Mk.hit m k B:=by
 induction m with
 |nil=>rfl
 |cons q m ih=>
  obtain⟨a,b,c⟩:=q
  rw[Mk.hit_cons]
  by_cases e:a=j∧b=A
  ·obtain⟨rfl,rfl⟩:=e
   rw[List.filter_cons_of_neg (by simp),ih,if_neg h]
  ·rw[List.filter_cons_of_pos (by rw[Bool.not_eq_true',decide_eq_false_iff_not];exact e),Mk.hit_cons,ih]
theorem Mk.hit_put (j k:Nat) (A B:List Int) (id:Int) (m:List (Nat×List Int×Int)):Mk.hit (Mk.put m j A id) k B=if j=k∧A=B then some id else Mk.hit m k B:=by
 unfold Mk.put
 rw[Mk.hit_cons]
 by_cases e:j=k∧A=B
 ·rw[if_pos e,if_pos e]
 ·rw[if_neg e,if_neg e,Mk.hit_filter m e]
theorem TellM.put {D:DataW Unit} {m:List (Nat×List Int×Int)} (h:TellM D m) (ht:Maps.Tidy D) (j:Nat) (A:List Int) (id:Int):TellM (D.put (slit (Mk.key j A)) (.lit (.int .i64 id))) (Mk.put m j A id):=fun k B=>by
 have hkl:WideAt.IsKeyLit (slit (Mk.key j A)):=by trivial
 rw[Mk.hit_put]
 by_cases e:j=k∧A=B
 ·obtain⟨rfl,rfl⟩:=e
  rw[if_pos ⟨rfl,rfl⟩]
  refine⟨fun h0=>(by cases h0),fun i hi=>?_⟩
  obtain rfl:=Option.some.inj hi
  exact⟨by rw[Maps.has_put_same ht.isMap hkl],by rw[Maps.atKey_put_same ht.isMap hkl]⟩
 ·have hne:slit (Mk.key k B)≠slit (Mk.key j A):=fun e2=>e (by have:=Mk.key_inj (slit_inj e2);exact⟨this.1.symm,this.2.symm⟩)
  rw[if_neg e]
  obtain⟨h1,h2⟩:=h k B
  exact⟨fun h0=>by rw[Maps.has_put_other hne];exact h1 h0,fun i hi=>⟨by rw[Maps.has_put_other hne];exact(h2 i hi).1,by rw[Maps.atKey_put_other hne];exact(h2 i hi).2⟩⟩
def Mk.Keys (m:List (Nat×List Int×Int)):Prop:=(m.map fun q=>(q.1,q.2.1)).Nodup
theorem Mk.Keys.put {m:List (Nat×List Int×Int)} (h:Mk.Keys m) (j:Nat) (A:List Int) (id:Int):Mk.Keys (Mk.put m j A id):=by
 unfold Mk.Keys Mk.put
 rw[List.map_cons,List.nodup_cons]
 refine⟨fun hm=>?_,?_⟩
 ·obtain⟨q,hq,e⟩:=List.mem_map.1 hm
  have:=(List.mem_filter.1 hq).2
  injection e with e1 e2
  simp at this
  exact this.elim (fun f=>f e1) fun f=>f e2
 ·exact List.Nodup.sublist (List.Sublist.map _ List.filter_sublist) h
theorem Mk.put_len {m:List (Nat×List Int×Int)} (h:Mk.Keys m) (j:Nat) (A:List Int) (id:Int):(Mk.put m j A id).length=if(Mk.hit m j A).isSome=true then m.length else m.length+1:=by
 unfold Mk.put
 rw[List.length_cons]
 induction m with
 |nil=>rfl
 |cons q m ih=>
  obtain⟨a,b,c⟩:=q
  unfold Mk.Keys at h
  rw[List.map_cons,List.nodup_cons] at h
  have ih:=ih h.2
  rw[Mk.hit_cons]
  by_cases e:a=j∧b=A
  ·obtain⟨rfl,rfl⟩:=e
   rw[List.filter_cons_of_neg (by simp),if_pos (show a=a∧b=b from⟨rfl,rfl⟩)]
   have hno:Mk.hit m a b=none:=by
    cases hh:Mk.hit m a b with
    |none=>rfl
    |some i=>exact absurd (List.mem_map.2 ⟨_,Mk.hit_mem hh,rfl⟩) h.1
   rw[hno] at ih
   simp at ih ⊢
   omega
  ·rw[List.filter_cons_of_pos (by rw[Bool.not_eq_true',decide_eq_false_iff_not];exact e),if_neg e,List.length_cons,ih]
   split <;> simp
structure MadeM (w:World) (b:Nat) (m:List (Nat×List Int×Int)):Prop where
 own:∃ D,w.ownsMap Tryz.prog 9 (plainElem (H:=Unit) Tryz.prog 3) b m.length D∧TellM D m∧Maps.size D=m.length
 keys:Mk.Keys m
theorem MadeM.turn {F:Nat→Prop} {w w':World} {b:Nat} {m:List (Nat×List Int×Int)} (h:MadeM w b m) (ht:Turn F w w') (hb:¬F b):MadeM w' b m:=by
 obtain⟨⟨D,h1,h2⟩,h3⟩:=h
 exact⟨⟨D,ht.map h1 hb,h2⟩,h3⟩
theorem Mk.size_key {j:Nat} {A:List Int} (hj:j≤1000) (hA:∀ z∈A,(Lit.int .i64 z).wf=true) (hl:A.length≤1000):(Mk.key j A).size≤30000:=by
 show(Mk.spell j A).toArray.size≤_
 rw[List.size_toArray]
 unfold Mk.spell
 rw[List.length_append]
 have h1:=Lib.itoa_length_le (j:Int) (by omega) (by omega)
 have h2:∀ B:List Int,(∀ z∈B,(Lit.int .i64 z).wf=true)→(B.flatMap fun z=>(32:UInt8)::Lib.itoa z).length≤B.length*22:=fun B=>by
  induction B with
  |nil=>intro _;simp
  |cons z B ih=>
   intro hB
   have h3:=ih fun y hy=>hB y (List.mem_cons_of_mem _ hy)
   have hw:=bounds_i64 (hB z List.mem_cons_self)
   have h4:=Lib.itoa_length_le z hw.1 hw.2
   rw[List.flatMap_cons,List.length_append,List.length_cons,List.length_cons]
   omega
 have:=h2 A hA
 omega
theorem MadeM.look {w:World} {b:Nat} {m:List (Nat×List Int×Int)} (h:MadeM w b m) {j:Nat} {A:List Int} (hs:(Mk.key j A).size≤maxLen):
  (Instr.lookup 98 (.map (some b)) (.string (Mk.key j A)) true).run Tryz.prog w=.ok (.tuple #[.int .i64 ((Mk.hit m j A).getD 0),.bool (Mk.hit m j A).isSome]) w:=by
 obtain⟨⟨D,ho,ht,_⟩,_⟩:=h
 obtain⟨v,ps,hrun,hv⟩:=ho.look_ok lawS Tryz.underlying98 (zeroInt w) (plainElem_int Tryz.underlying3 (by decide)) (WideMaps.keyOf_string_mk (P:=Tryz.prog) Tryz.underlying9 hs)
 obtain⟨c,rfl,h1,_⟩:=plainElem_int_inv Tryz.underlying3 hv
 have h2:=congrArg Prod.fst h1
 simp only at h2
 obtain⟨t1,t2⟩:=ht j A
 cases hg:Mk.hit m j A with
 |none=>
  have e:=t1 hg
  rw[Maps.atKey_of_not_has e] at h2
  rw[hrun,e,←lit_i64 h2]
  rfl
 |some i=>
  obtain⟨e1,e2⟩:=t2 i hg
  rw[e2] at h2
  rw[hrun,e1,←lit_i64 h2]
  rfl
def ScAs (w:World) (G:Nat→Prop) (v:Value) (x:Scp):Prop:=
 (v=.map none∧x.terms=[])∨∃ b q D,v=.map (some b)∧G b∧w.ownsMap Tryz.prog 9 (plainElem (H:=Unit) Tryz.prog 3) b q D∧TellS D (Bd.bound x.terms)
theorem ScAs.turn {F G G':Nat→Prop} {w w':World} {v:Value} {x:Scp} (h:ScAs w G v x) (ht:Turn F w w') (hG:∀ k,k<w.heap.size→G k→¬F k∧G' k):ScAs w' G' v x:=by
 rcases h with h|⟨b,q,D,h1,h2,h3,h4⟩
 ·exact .inl h
 ·exact .inr ⟨b,q,D,h1,(hG b h3.lt h2).2,ht.map h3 (hG b h3.lt h2).1,h4⟩
theorem ScAs.look {w:World} {G:Nat→Prop} {v:Value} {x:Scp} (h:ScAs w G v x) (s:ByteArray) (hs:s.size≤maxLen):
  (Instr.lookup 98 v (.string s) true).run Tryz.prog w=.ok (.tuple #[.int .i64 ((Bd.bound x.terms s).getD 0),.bool (Bd.bound x.terms s).isSome]) w:=by
 rcases h with⟨rfl,h⟩|⟨b,q,D,rfl,_,h3,h4⟩
 ·rw[h]
  exact lookS_nil w s hs
 ·exact lookS h3 h4 s hs
def ThAs (w:World) (G:Nat→Prop) (M:Nat) (v:Value):Kt→Prop
 | .none=>v=.nilFunc
 | .op o=>∃ b1 b2,v=.func (.func 161) #[] #[.pointer (some ⟨b1,0,none⟩),.pointer (some ⟨b2,0,none⟩)]∧G b1∧G b2∧Lies w b1 74 #[.pointer (some ⟨M,0,none⟩)]∧Lies w b2 3 #[.int .i64 o]
 | .fn j=>∃ b1 b2,v=.func (.func 165) #[] #[.pointer (some ⟨b1,0,none⟩),.pointer (some ⟨b2,0,none⟩)]∧G b1∧G b2∧Lies w b1 74 #[.pointer (some ⟨M,0,none⟩)]∧Lies w b2 218 #[.int .i64 2,.int .i64 (j:Int)]
 | .bind names t=>∃ b1 b2 b3 nA nc pA pc bx,v=.func (.func 186) #[] #[.pointer (some ⟨b1,0,none⟩),.pointer (some ⟨b2,0,none⟩),.pointer (some ⟨b3,0,none⟩)]∧G b1∧G b2∧G b3∧
  Lies w b1 74 #[.pointer (some ⟨M,0,none⟩)]∧Lies w b2 88 #[.slice nA names.length nc]∧Rd w G nA names.length nc (names.map .string)∧Lies w b3 25 #[.slice pA 2 pc]∧TreeL w (fun b _=>G b) pA [bx,t]∧2≤pc∧pc≤maxLen
 | .first=>v=.func (.func 187) #[.pointer (some ⟨M,0,none⟩)] #[]
 | .memo j A=>∃ b1 b2,v=.func (.func 195) #[] #[.pointer (some ⟨b1,0,none⟩),.pointer (some ⟨b2,0,none⟩)]∧G b1∧G b2∧Lies w b1 74 #[.pointer (some ⟨M,0,none⟩)]∧Lies w b2 9 #[.string (Mk.key j A)]
theorem Rd.turn9 {F G G':Nat→Prop} {w w':World} {A:Option Addr} {n c:Nat} {xs:List Value} (h:Rd w G A n c xs) (ht:Turn F w w') (hG:∀ k,k<w.heap.size→G k→¬F k∧G' k):Rd w' G' A n c xs:=
 (h.mono (G':=fun k=>G k∧k<w.heap.size) fun _ hb hg=>⟨hg,hb⟩).turn ht (fun b hb hg=>(hG b hb hg.1).1) |>.mono fun b _ hg=>(hG b hg.2 hg.1).2
theorem ThAs.turn {F G G':Nat→Prop} {w w':World} {M:Nat} {v:Value} {th:Kt} (h:ThAs w G M v th) (ht:Turn F w w') (hG:∀ k,k<w.heap.size→G k→¬F k∧G' k):ThAs w' G' M v th:=by
 have hl:∀ {b:Nat} {t:TypeId} {cs:Array Value},G b→Lies w b t cs→G' b∧Lies w' b t cs:=fun hg hb=>⟨(hG _ hb.lt hg).2,ht.lies hb (hG _ hb.lt hg).1⟩
 cases th with
 |none=>exact h
 |first=>exact h
 |op o=>
  obtain⟨b1,b2,h1,h2,h3,h4,h5⟩:=h
  exact⟨b1,b2,h1,(hl h2 h4).1,(hl h3 h5).1,(hl h2 h4).2,(hl h3 h5).2⟩
 |fn j=>
  obtain⟨b1,b2,h1,h2,h3,h4,h5⟩:=h
  exact⟨b1,b2,h1,(hl h2 h4).1,(hl h3 h5).1,(hl h2 h4).2,(hl h3 h5).2⟩
 |memo j A=>
  obtain⟨b1,b2,h1,h2,h3,h4,h5⟩:=h
  exact⟨b1,b2,h1,(hl h2 h4).1,(hl h3 h5).1,(hl h2 h4).2,(hl h3 h5).2⟩
 |bind names t=>
  obtain⟨b1,b2,b3,nA,nc,pA,pc,bx,h1,h2,h3,h4,h5,h6,h7,h8,h9,h10⟩:=h
  exact⟨b1,b2,b3,nA,nc,pA,pc,bx,h1,(hl h2 h5).1,(hl h3 h6).1,(hl h4 h8).1,(hl h2 h5).2,(hl h3 h6).2,h7.turn9 ht hG,(hl h4 h8).2,h9.turn9 ht hG,h10⟩
structure FrP where
 pA:Option Addr
 pc:Nat
 iA:Option Addr
 ic:Nat
 v:Value
abbrev fcells (q:FrP×Fr):List Value:=[.slice q.1.pA q.2.parts.length q.1.pc,.slice q.1.iA q.2.ids.length q.1.ic,q.1.v,.int .i64 (q.2.sc:Int),.int .i64 (q.2.dp:Int)]
abbrev scells9 (q:Value×Scp):List Value:=[q.1,.bool q.2.body,.int .i64 (q.2.ahead:Int)]
structure FrAs (w:World) (G:Nat→Prop) (M:Nat) (P:FrP) (f:Fr):Prop where
 le:f.parts.length≤P.pc∧P.pc≤maxLen
 tree:TreeL w (fun b _=>G b) P.pA f.parts
 th:ThAs w G M P.v f.th
theorem FrAs.turn {F G G':Nat→Prop} {w w':World} {M:Nat} {P:FrP} {f:Fr} (h:FrAs w G M P f) (ht:Turn F w w') (hG:∀ k,k<w.heap.size→G k→¬F k∧G' k):FrAs w' G' M P f:=⟨h.le,h.tree.turn9 ht hG,h.th.turn ht hG⟩
structure Mk.Env where
 w0:World
 A:Option Addr
 n:Nat
 c:Nat
 L:List (DcP×Dc)
 v:World
 P:Nat→Prop
 pb:Nat
 bk:Nat
abbrev Mk.Env.D (E:Mk.Env):List Dc:=E.L.map (·.2)
structure Mk.Lay where
 mb:Nat
 sA:Option Addr
 sc:Nat
 fA:Option Addr
 fc:Nat
 Fb:Nat→Prop
 SL:List (Value×Scp)
 FL:List (FrP×Fr)
abbrev blkOf (A:Option Addr):Option Nat:=(Value.slice A 0 0).ownBlock
theorem blk_eq (A:Option Addr) (n c:Nat):(Value.slice A n c).ownBlock=blkOf A:=by cases A <;> rfl
def Mk.foot (M:Nat) (Y:Mk.Lay) (k:Nat):Prop:=k=M∨Y.Fb k∨k=Y.mb∨blkOf Y.sA=some k∨blkOf Y.fA=some k∨∃ q∈Y.FL,blkOf q.1.iA=some k
structure Mk.Rep (E:Mk.Env) (w:World) (M:Nat) (Y:Mk.Lay) (s:Ms):Prop where
 base:Below E.w0.heap.size E.w0 w
 low:∀ k,Mk.foot M Y k→E.w0.heap.size≤k
 own:Lies w M 124 #[.pointer (some ⟨E.bk,0,none⟩),.slice E.A E.n E.c,.map (some E.pb),.map (some Y.mb),.slice Y.sA s.sc.length Y.sc,.slice Y.fA s.fr.length Y.fc]
 bank:Bk w E.bk Y.Fb s.N
 made:MadeM w Y.mb s.made
 srow:w.ownsRow 0 127 3 (.slice Y.sA s.sc.length Y.sc) s.sc.length (Y.SL.flatMap scells9)
 sl:Y.SL.map (·.2)=s.sc
 sas:∀ q∈Y.SL,ScAs w (fun k=>¬Mk.foot M Y k) q.1 q.2
 frow:w.ownsRow 0 130 5 (.slice Y.fA s.fr.length Y.fc) s.fr.length (Y.FL.flatMap fcells)
 fl:Y.FL.map (·.2)=s.fr
 fas:∀ q∈Y.FL,FrAs w (fun k=>¬Mk.foot M Y k) M q.1 q.2
 ids:∀ q∈Y.FL,w.ownsRow 0 3 1 (.slice q.1.iA q.2.ids.length q.1.ic) q.2.ids.length (i64s q.2.ids)
 apart:Y.FL.Pairwise fun p q=>∀ g,blkOf p.1.iA=some g→blkOf q.1.iA≠some g
 xM:¬Y.Fb M
 xm:¬Y.Fb Y.mb
 xs:∀ g,blkOf Y.sA=some g→¬Y.Fb g
 xf:∀ g,blkOf Y.fA=some g→¬Y.Fb g
 xi:∀ q∈Y.FL,∀ g,blkOf q.1.iA=some g→¬Y.Fb g
 pl:Turn (fun k=>¬E.P k) E.v w
 plx:∀ k,E.P k→k<E.v.heap.size→¬Mk.foot M Y k
section
variable {E : Mk.Env} {w w' : World} {M : Nat} {Y : Mk.Lay} {s : Ms}
theorem Mk.Rep.lt (h:Mk.Rep E w M Y s):∀ k,Mk.foot M Y k→k<w.heap.size:=by
 intro k hk
 rcases hk with rfl|hk|rfl|hk|hk|⟨q,hq,hk⟩
 ·exact h.own.lt
 ·exact h.bank.lt k hk
 ·obtain⟨⟨D,ho,_⟩,_⟩:=h.made
  exact ho.lt
 ·exact(h.srow.lt k (by rw[blk_eq];exact hk)).2
 ·exact(h.frow.lt k (by rw[blk_eq];exact hk)).2
 ·exact((h.ids q hq).lt k (by rw[blk_eq];exact hk)).2
theorem Mk.Rep.M_s (h:Mk.Rep E w M Y s):blkOf Y.sA≠some M:=fun e=>own_not_lies h.srow h.own (by decide) (by rw[blk_eq];exact e)
theorem Mk.Rep.M_f (h:Mk.Rep E w M Y s):blkOf Y.fA≠some M:=fun e=>own_not_lies h.frow h.own (by decide) (by rw[blk_eq];exact e)
theorem Mk.Rep.M_i (h:Mk.Rep E w M Y s) {q:FrP×Fr} (hq:q∈Y.FL):blkOf q.1.iA≠some M:=fun e=>own_not_lies (h.ids q hq) h.own (by decide) (by rw[blk_eq];exact e)
theorem Mk.Rep.M_m (h:Mk.Rep E w M Y s):M≠Y.mb:=by
 obtain⟨⟨D,ho,_⟩,_⟩:=h.made
 exact lies_not_map h.own ho
theorem Mk.Rep.m_s (h:Mk.Rep E w M Y s):blkOf Y.sA≠some Y.mb:=by
 obtain⟨⟨D,ho,_⟩,_⟩:=h.made
 exact fun e=>own_not_map h.srow ho (by rw[blk_eq];exact e)
theorem Mk.Rep.m_f (h:Mk.Rep E w M Y s):blkOf Y.fA≠some Y.mb:=by
 obtain⟨⟨D,ho,_⟩,_⟩:=h.made
 exact fun e=>own_not_map h.frow ho (by rw[blk_eq];exact e)
theorem Mk.Rep.m_i (h:Mk.Rep E w M Y s) {q:FrP×Fr} (hq:q∈Y.FL):blkOf q.1.iA≠some Y.mb:=by
 obtain⟨⟨D,ho,_⟩,_⟩:=h.made
 exact fun e=>own_not_map (h.ids q hq) ho (by rw[blk_eq];exact e)
theorem Mk.Rep.s_f (h:Mk.Rep E w M Y s) {g:Nat} (hg:blkOf Y.sA=some g):blkOf Y.fA≠some g:=fun e=>own_apart h.srow h.frow (by decide) g (by rw[blk_eq];exact hg) (by rw[blk_eq];exact e)
theorem Mk.Rep.s_i (h:Mk.Rep E w M Y s) {q:FrP×Fr} (hq:q∈Y.FL) {g:Nat} (hg:blkOf Y.sA=some g):blkOf q.1.iA≠some g:=fun e=>own_apart h.srow (h.ids q hq) (by decide) g (by rw[blk_eq];exact hg) (by rw[blk_eq];exact e)
theorem Mk.Rep.f_i (h:Mk.Rep E w M Y s) {q:FrP×Fr} (hq:q∈Y.FL) {g:Nat} (hg:blkOf Y.fA=some g):blkOf q.1.iA≠some g:=fun e=>own_apart h.frow (h.ids q hq) (by decide) g (by rw[blk_eq];exact hg) (by rw[blk_eq];exact e)
theorem Mk.Rep.below (h:Mk.Rep E w M Y s) (hb:Below w.heap.size w w'):Mk.Rep E w' M Y s:=by
 have ht:Turn (fun _=>False) w w':=Turn.of_below hb
 have hG:∀ k,k<w.heap.size→¬Mk.foot M Y k→¬False∧¬Mk.foot M Y k:=fun k _ h=>⟨id,h⟩
 exact⟨h.base.trans (hb.mono h.base.size),h.low,ht.lies h.own id,h.bank.below hb,h.made.turn ht id,ht.own h.srow (fun _ _=>id),h.sl,fun q hq=>(h.sas q hq).turn ht hG,ht.own h.frow (fun _ _=>id),h.fl,
  fun q hq=>(h.fas q hq).turn ht hG,fun q hq=>ht.own (h.ids q hq) (fun _ _=>id),h.apart,h.xM,h.xm,h.xs,h.xf,h.xi,h.pl.trans ht (fun _ e=>e.elim),h.plx⟩
theorem Mk.Rep.drew (h:Mk.Rep E w M Y s):Mk.Rep E w.drew M Y s:=h.below ⟨rfl,rfl,rfl,Nat.le_refl _,fun _ _=>rfl⟩
theorem Mk.Rep.alloc (h:Mk.Rep E w M Y s) (o:Obj):Mk.Rep E (w.alloc o) M Y s:=h.below ((Below.refl _ w).alloc (Nat.le_refl _) o)
end
def Mk.Left (E:Mk.Env) (w:World) (M:Nat) (Y:Mk.Lay) (s':Ms) (w':World):Prop:=∃ Y',Mk.Rep E w' M Y' s'∧Turn (Mk.foot M Y) w w'∧∀ k,Mk.foot M Y' k→Mk.foot M Y k∨w.heap.size≤k
def Mk.Ans (E:Mk.Env) (w:World) (M:Nat) (Y:Mk.Lay) (r:Ms×Int) (e:Ending) (w':World):Prop:=e=.returned (.int .i64 r.2)∧Mk.Left E w M Y r.1 w'
theorem Mk.Left.after {E:Mk.Env} {w w1 w2:World} {M:Nat} {Y Y1:Mk.Lay} {s':Ms} (h:Mk.Left E w1 M Y1 s' w2) (ht:Turn (Mk.foot M Y) w w1) (hY:∀ k,Mk.foot M Y1 k→Mk.foot M Y k∨w.heap.size≤k):Mk.Left E w M Y s' w2:=by
 obtain⟨Y2,h1,h2,h3⟩:=h
 exact⟨Y2,h1,ht.trans h2 hY,fun k hk=>(h3 k hk).elim (hY k) fun e=> .inr (Nat.le_trans ht.size e)⟩
theorem Mk.Left.up {E:Mk.Env} {w W w':World} {M:Nat} {Y:Mk.Lay} {s':Ms} (h:Mk.Left E W M Y s' w') (hb:Below w.heap.size w W):Mk.Left E w M Y s' w':=h.after (Turn.of_below hb) fun _=> .inl
theorem Mk.Left.same {E:Mk.Env} {w w1:World} {M:Nat} {Y:Mk.Lay} {s:Ms} (h:Mk.Rep E w M Y s) (hb:Below w.heap.size w w1):Mk.Left E w M Y s w1:=⟨Y,h.below hb,Turn.of_below hb,fun _=> .inl⟩
theorem Mk.Ans.up {E:Mk.Env} {w W w':World} {M:Nat} {Y:Mk.Lay} {r:Ms×Int} {e:Ending} (h:Mk.Ans E W M Y r e w') (hb:Below w.heap.size w W):Mk.Ans E w M Y r e w':=⟨h.1,h.2.up hb⟩
theorem map_snoc {α β:Type} {f:α→β} {l:List α} {bs:List β} {b:β} (h:l.map f=bs++[b]):∃ l' a,l=l'++[a]∧l'.map f=bs∧f a=b:=by
 obtain⟨l1,l2,rfl,h1,h2⟩:=List.map_eq_append_iff.1 h
 obtain⟨a,rfl,h3⟩:=List.map_eq_singleton_iff.1 h2
 exact⟨l1,a,rfl,h1,h3⟩
theorem fc_len (L:List (FrP×Fr)):(L.flatMap fcells).length=L.length*5:=flat_len (k:=5) (fun _=>rfl) L
theorem sc_len (L:List (Value×Scp)):(L.flatMap scells9).length=L.length*3:=flat_len (k:=3) (fun _=>rfl) L
theorem ownsRow_cut {w:World} {base:Nat} {e:TypeId} {size n k:Nat} {A:Option Addr} {c:Nat} {xs:List Value} (h:w.ownsRow base e size (.slice A n c) n xs) (hk:k≤n):w.ownsRow base e size (.slice A k c) k (xs.take (k*size)):=by
 obtain⟨h1,h2⟩:=h
 have hl:(xs.take (k*size)).length=k*size:=by rw[List.length_take,h1];exact Nat.min_eq_left (Nat.mul_le_mul_right _ hk)
 rcases h2 with⟨h0,rfl⟩|⟨g,cap,cur,hv,hg,hh,hn,hcap,hsz,htake⟩
 ·obtain rfl:k=0:=by omega
  injection h0 with e1 _ e3
  subst e1
  subst e3
  exact⟨hl,.inl ⟨rfl,rfl⟩⟩
 ·injection hv with e1 _ e3
  subst e1
  subst e3
  refine⟨hl,.inr ⟨g,c,cur,rfl,hg,hh,by omega,hcap,hsz,?_⟩⟩
  rw[←htake,List.take_take,Nat.min_eq_left (Nat.mul_le_mul_right _ hk)]
section
variable {E : Mk.Env} {w w' : World} {M : Nat} {Y Y' : Mk.Lay} {s : Ms}
theorem Mk.Rep.outer (h:Mk.Rep E w M Y s) (hT:Turn (Mk.foot M Y) w w') (hY:∀ k,Mk.foot M Y' k→Mk.foot M Y k∨w.heap.size≤k):
  Below E.w0.heap.size E.w0 w'∧(∀ k,Mk.foot M Y' k→E.w0.heap.size≤k)∧Turn (fun k=>¬E.P k) E.v w'∧(∀ k,E.P k→k<E.v.heap.size→¬Mk.foot M Y' k)∧
  ∀ k,k<w.heap.size→¬Mk.foot M Y k→¬Mk.foot M Y k∧¬Mk.foot M Y' k:=by
 refine⟨h.base.trans (hT.below h.base.size h.low),fun k hk=>?_,h.pl.trans hT (fun i hi=>(Nat.lt_or_ge i E.v.heap.size).elim (fun hl=> .inl fun e=>h.plx i e hl hi) .inr),fun k h1 h2 hk=>?_,fun k hlt hk=>⟨hk,fun e=>(hY k e).elim hk fun e2=>by omega⟩⟩
 ·exact(hY k hk).elim (h.low k) fun e=>Nat.le_trans h.base.size e
 ·rcases hY k hk with e|e
  ·exact h.plx k h1 h2 e
  ·have:=h.pl.size
   omega
theorem Mk.Rep.bankd (h:Mk.Rep E w M Y s) {N':List Nd} {Fb':Nat→Prop} (hT:Turn Y.Fb w w') (hB:Bk w' E.bk Fb' N') (hF:∀ k,Fb' k→Y.Fb k∨w.heap.size≤k):Mk.Left E w M Y { s with N:=N' } w':=by
 have hT':Turn (Mk.foot M Y) w w':=hT.mono fun i _ hi=> .inr (.inl hi)
 have hY:∀ k,Mk.foot M { Y with Fb:=Fb' } k→Mk.foot M Y k∨w.heap.size≤k:=fun k hk=>by
  rcases hk with e|e|e
  ·exact .inl (.inl e)
  ·exact(hF k e).imp (fun e=> .inr (.inl e)) id
  ·exact .inl (.inr (.inr e))
 obtain⟨o1,o2,o3,o4,o5⟩:=h.outer hT' hY
 have hG:∀ k,k<w.heap.size→¬Mk.foot M Y k→¬Y.Fb k∧¬Mk.foot M { Y with Fb:=Fb' } k:=fun k hlt hk=>⟨fun e=>hk (.inr (.inl e)),(o5 k hlt hk).2⟩
 have hx:∀ k,k<w.heap.size→¬Y.Fb k→¬Fb' k:=fun k hlt hk e=>(hF k e).elim hk fun e=>by omega
 have hm:=h.made.own
 exact⟨{ Y with Fb:=Fb' },⟨o1,o2,hT.lies h.own h.xM,hB,h.made.turn hT h.xm,hT.own h.srow (fun g hg=>h.xs g (by rw[blk_eq] at hg;exact hg)),h.sl,fun q hq=>(h.sas q hq).turn hT hG,
  hT.own h.frow (fun g hg=>h.xf g (by rw[blk_eq] at hg;exact hg)),h.fl,fun q hq=>(h.fas q hq).turn hT hG,fun q hq=>hT.own (h.ids q hq) (fun g hg=>h.xi q hq g (by rw[blk_eq] at hg;exact hg)),h.apart,
  hx M (h.lt M (.inl rfl)) h.xM,hx Y.mb (h.lt Y.mb (.inr (.inr (.inl rfl)))) h.xm,fun g hg=>hx g (h.lt g (.inr (.inr (.inr (.inl hg))))) (h.xs g hg),fun g hg=>hx g (h.lt g (.inr (.inr (.inr (.inr (.inl hg)))))) (h.xf g hg),
  fun q hq g hg=>hx g (h.lt g (.inr (.inr (.inr (.inr (.inr ⟨q,hq,hg⟩)))))) (h.xi q hq g hg),o3,o4⟩,hT',hY⟩
theorem Mk.Rep.push (h:Mk.Rep E w M Y s) {w2:World} {A2:Option Addr} {c2:Nat} {P:FrP} {f:Fr} (hg:w.grownBy w2 (blkOf Y.fA))
  (ho:w2.ownsRow 0 130 5 (.slice A2 (s.fr.length+1) c2) (s.fr.length+1) (Y.FL.flatMap fcells++fcells (P,f))) (hl:blkOf A2=blkOf Y.fA∨blkOf A2=some w.heap.size)
  (hP:FrAs w (fun k=>¬Mk.foot M Y k) M P f) (hi:P.iA=none∧P.ic=0∧f.ids=[]):Mk.Left E w M Y { s with fr:=s.fr++[f] } (w2.setCell ⟨M,5,none⟩ (.slice A2 (s.fr.length+1) c2)):=by
 obtain⟨i1,i2,i3⟩:=hi
 have t1:Turn (fun k=>blkOf Y.fA=some k) w w2:=Turn.of_grown hg fun _ e _=>e
 have hlM:blkOf A2≠some M:=fun e=>by
  rcases hl with e2|e2
  ·exact h.M_f (e2▸e)
  ·rw[e2] at e
   have:=h.lt M (.inl rfl)
   have:=Option.some.inj e
   omega
 have t2:Turn (fun k=>k=M∨blkOf Y.fA=some k) w (w2.setCell ⟨M,5,none⟩ (.slice A2 (s.fr.length+1) c2)):=(t1.mono fun i _ hi=> .inr hi).put (p:=⟨M,5,none⟩) (.inl (.inl rfl)) _
 have hT':Turn (Mk.foot M Y) w (w2.setCell ⟨M,5,none⟩ (.slice A2 (s.fr.length+1) c2)):=t2.mono fun i _ hi=>hi.elim .inl fun e=> .inr (.inr (.inr (.inr (.inl e))))
 have hY:∀ k,Mk.foot M { Y with fA:=A2,fc:=c2,FL:=Y.FL++[(P,f)] } k→Mk.foot M Y k∨w.heap.size≤k:=fun k hk=>by
  rcases hk with e|e|e|e|e|⟨q,hq,e⟩
  ·exact .inl (.inl e)
  ·exact .inl (.inr (.inl e))
  ·exact .inl (.inr (.inr (.inl e)))
  ·exact .inl (.inr (.inr (.inr (.inl e))))
  ·rcases hl with e2|e2
   ·exact .inl (.inr (.inr (.inr (.inr (.inl (e2▸e))))))
   ·have e:blkOf A2=some k:=e
    rw[e2] at e
    have:=Option.some.inj e
    exact .inr (by omega)
  ·rcases List.mem_append.1 hq with hq|hq
   ·exact .inl (.inr (.inr (.inr (.inr (.inr ⟨q,hq,e⟩)))))
   ·rw[List.mem_singleton.1 hq] at e
    simp only[i1] at e
    cases e
 obtain⟨o1,o2,o3,o4,o5⟩:=h.outer hT' hY
 have hG:∀ k,k<w.heap.size→¬Mk.foot M Y k→¬(k=M∨blkOf Y.fA=some k)∧¬Mk.foot M { Y with fA:=A2,fc:=c2,FL:=Y.FL++[(P,f)] } k:=fun k hlt hk=>⟨fun e=>hk (e.elim .inl fun e=> .inr (.inr (.inr (.inr (.inl e))))),(o5 k hlt hk).2⟩
 have hsl:∀ g,(Value.slice Y.sA s.sc.length Y.sc).ownBlock=some g→¬(g=M∨blkOf Y.fA=some g):=fun g hg e=>by
  rw[blk_eq] at hg
  exact e.elim (fun e=>h.M_s (e▸hg)) (h.s_f hg)
 have hil:∀ q∈Y.FL,∀ g,(Value.slice q.1.iA q.2.ids.length q.1.ic).ownBlock=some g→¬(g=M∨blkOf Y.fA=some g):=fun q hq g hg e=>by
  rw[blk_eq] at hg
  exact e.elim (fun e=>h.M_i hq (e▸hg)) fun e=>h.f_i hq e hg
 have ho2:=(Turn.refl (fun k=>k=M) w2).put (p:=⟨M,5,none⟩) (.inl rfl) (.slice A2 (s.fr.length+1) c2) |>.own ho (fun g hg e=>hlM (by rw[blk_eq] at hg;exact e▸hg))
 have hmk:=(t1.lies h.own h.M_f).put 5 (.slice A2 (s.fr.length+1) c2)
 have hle:(s.fr++[f]).length=s.fr.length+1:=by simp
 refine⟨{ Y with fA:=A2,fc:=c2,FL:=Y.FL++[(P,f)] },⟨o1,o2,by rw[hle];exact hmk,h.bank.turn t2 (fun k hk e=>e.elim (fun e=>h.xM (e▸hk)) fun e=>h.xf k e hk),h.made.turn t2 (fun e=>e.elim (fun e=>h.M_m e.symm) h.m_f),
  t2.own h.srow hsl,h.sl,fun q hq=>(h.sas q hq).turn t2 hG,?_,by rw[List.map_append,h.fl];rfl,fun q hq=>?_,fun q hq=>?_,?_,h.xM,h.xm,h.xs,fun g hg=>?_,fun q hq g hg=>?_,o3,o4⟩,hT',hY⟩
 ·rw[hle]
  show World.ownsRow _ 0 _ 5 _ _ ((Y.FL++[(P,f)]).flatMap fcells)
  rw[List.flatMap_append]
  exact ho2
 ·rcases List.mem_append.1 hq with hq|hq
  ·exact(h.fas q hq).turn t2 hG
  ·rw[List.mem_singleton.1 hq]
   exact hP.turn t2 hG
 ·rcases List.mem_append.1 hq with hq|hq
  ·exact t2.own (h.ids q hq) (hil q hq)
  ·rw[List.mem_singleton.1 hq]
   show World.ownsRow _ 0 _ 1 (.slice P.iA f.ids.length P.ic) _ _
   rw[i1,i2,i3]
   exact World.ownsRow_nil _ _ _ _
 ·rw[List.pairwise_append]
  refine⟨h.apart,List.pairwise_singleton _ _,fun p _ q hq g _ e=>?_⟩
  rw[List.mem_singleton.1 hq] at e
  simp only[i1] at e
  cases e
 ·rcases hl with e|e
  ·exact h.xf g (e▸hg)
  ·have hg:blkOf A2=some g:=hg
   rw[e] at hg
   intro hb
   have:=h.bank.lt g hb
   have:=Option.some.inj hg
   omega
 ·rcases List.mem_append.1 hq with hq|hq
  ·exact h.xi q hq g hg
  ·rw[List.mem_singleton.1 hq] at hg
   simp only[i1] at hg
   cases hg
theorem Mk.Rep.scope (h:Mk.Rep E w M Y s) {w2:World} {A2:Option Addr} {c2:Nat} {v:Value} {x:Scp} (hg:w.grownBy w2 (blkOf Y.sA))
  (ho:w2.ownsRow 0 127 3 (.slice A2 (s.sc.length+1) c2) (s.sc.length+1) (Y.SL.flatMap scells9++scells9 (v,x))) (hl:blkOf A2=blkOf Y.sA∨blkOf A2=some w.heap.size)
  (hP:ScAs w (fun k=>¬Mk.foot M Y k) v x):Mk.Left E w M Y { s with sc:=s.sc++[x] } (w2.setCell ⟨M,4,none⟩ (.slice A2 (s.sc.length+1) c2)):=by
 have t1:Turn (fun k=>blkOf Y.sA=some k) w w2:=Turn.of_grown hg fun _ e _=>e
 have hlM:blkOf A2≠some M:=fun e=>by
  rcases hl with e2|e2
  ·exact h.M_s (e2▸e)
  ·rw[e2] at e
   have:=h.lt M (.inl rfl)
   have:=Option.some.inj e
   omega
 have t2:Turn (fun k=>k=M∨blkOf Y.sA=some k) w (w2.setCell ⟨M,4,none⟩ (.slice A2 (s.sc.length+1) c2)):=(t1.mono fun i _ hi=> .inr hi).put (p:=⟨M,4,none⟩) (.inl (.inl rfl)) _
 have hT':Turn (Mk.foot M Y) w (w2.setCell ⟨M,4,none⟩ (.slice A2 (s.sc.length+1) c2)):=t2.mono fun i _ hi=>hi.elim .inl fun e=> .inr (.inr (.inr (.inl e)))
 have hY:∀ k,Mk.foot M { Y with sA:=A2,sc:=c2,SL:=Y.SL++[(v,x)] } k→Mk.foot M Y k∨w.heap.size≤k:=fun k hk=>by
  rcases hk with e|e|e|e|e
  ·exact .inl (.inl e)
  ·exact .inl (.inr (.inl e))
  ·exact .inl (.inr (.inr (.inl e)))
  ·rcases hl with e2|e2
   ·exact .inl (.inr (.inr (.inr (.inl (e2▸e)))))
   ·have e:blkOf A2=some k:=e
    rw[e2] at e
    have:=Option.some.inj e
    exact .inr (by omega)
  ·exact .inl (.inr (.inr (.inr (.inr e))))
 obtain⟨o1,o2,o3,o4,o5⟩:=h.outer hT' hY
 have hG:∀ k,k<w.heap.size→¬Mk.foot M Y k→¬(k=M∨blkOf Y.sA=some k)∧¬Mk.foot M { Y with sA:=A2,sc:=c2,SL:=Y.SL++[(v,x)] } k:=fun k hlt hk=>⟨fun e=>hk (e.elim .inl fun e=> .inr (.inr (.inr (.inl e)))),(o5 k hlt hk).2⟩
 have hfl:∀ g,(Value.slice Y.fA s.fr.length Y.fc).ownBlock=some g→¬(g=M∨blkOf Y.sA=some g):=fun g hg e=>by
  rw[blk_eq] at hg
  exact e.elim (fun e=>h.M_f (e▸hg)) fun e=>h.s_f e hg
 have hil:∀ q∈Y.FL,∀ g,(Value.slice q.1.iA q.2.ids.length q.1.ic).ownBlock=some g→¬(g=M∨blkOf Y.sA=some g):=fun q hq g hg e=>by
  rw[blk_eq] at hg
  exact e.elim (fun e=>h.M_i hq (e▸hg)) fun e=>h.s_i hq e hg
 have ho2:=(Turn.refl (fun k=>k=M) w2).put (p:=⟨M,4,none⟩) (.inl rfl) (.slice A2 (s.sc.length+1) c2) |>.own ho (fun g hg e=>hlM (by rw[blk_eq] at hg;exact e▸hg))
 have hmk:=(t1.lies h.own h.M_s).put 4 (.slice A2 (s.sc.length+1) c2)
 have hle:(s.sc++[x]).length=s.sc.length+1:=by simp
 refine⟨{ Y with sA:=A2,sc:=c2,SL:=Y.SL++[(v,x)] },⟨o1,o2,by rw[hle];exact hmk,h.bank.turn t2 (fun k hk e=>e.elim (fun e=>h.xM (e▸hk)) fun e=>h.xs k e hk),h.made.turn t2 (fun e=>e.elim (fun e=>h.M_m e.symm) h.m_s),
  ?_,by rw[List.map_append,h.sl];rfl,fun q hq=>?_,t2.own h.frow hfl,h.fl,fun q hq=>(h.fas q hq).turn t2 hG,fun q hq=>t2.own (h.ids q hq) (hil q hq),h.apart,h.xM,h.xm,fun g hg=>?_,h.xf,h.xi,o3,o4⟩,hT',hY⟩
 ·rw[hle]
  show World.ownsRow _ 0 _ 3 _ _ ((Y.SL++[(v,x)]).flatMap scells9)
  rw[List.flatMap_append]
  exact ho2
 ·rcases List.mem_append.1 hq with hq|hq
  ·exact(h.sas q hq).turn t2 hG
  ·rw[List.mem_singleton.1 hq]
   exact hP.turn t2 hG
 ·rcases hl with e|e
  ·exact h.xs g (e▸hg)
  ·have hg:blkOf A2=some g:=hg
   rw[e] at hg
   intro hb
   have:=h.bank.lt g hb
   have:=Option.some.inj hg
   omega
theorem Mk.Rep.cut (h:Mk.Rep E w M Y s) {k:Nat} (hk:k≤s.sc.length):Mk.Left E w M Y { s with sc:=s.sc.take k } (w.setCell ⟨M,4,none⟩ (.slice Y.sA k Y.sc)):=by
 have hSl:Y.SL.length=s.sc.length:=by rw[←h.sl,List.length_map]
 have hlen:(s.sc.take k).length=k:=by rw[List.length_take];exact Nat.min_eq_left hk
 have t2:Turn (fun k=>k=M) w (w.setCell ⟨M,4,none⟩ (.slice Y.sA k Y.sc)):=(Turn.refl (fun k=>k=M) w).put (p:=⟨M,4,none⟩) (.inl rfl) _
 have hT':Turn (Mk.foot M Y) w (w.setCell ⟨M,4,none⟩ (.slice Y.sA k Y.sc)):=t2.mono fun i _ hi=> .inl hi
 have hY:∀ i,Mk.foot M { Y with SL:=Y.SL.take k } i→Mk.foot M Y i∨w.heap.size≤i:=fun i hi=> .inl hi
 obtain⟨o1,o2,o3,o4,o5⟩:=h.outer hT' hY
 have hG:∀ i,i<w.heap.size→¬Mk.foot M Y i→¬(i=M)∧¬Mk.foot M { Y with SL:=Y.SL.take k } i:=fun i hlt hi=>⟨fun e=>hi (.inl e),(o5 i hlt hi).2⟩
 have hrow:=ownsRow_cut h.srow hk
 have hcut:(Y.SL.flatMap scells9).take (k*3)=(Y.SL.take k).flatMap scells9:=by
  conv=>lhs;rw[←List.take_append_drop k Y.SL]
  rw[List.flatMap_append,List.take_left' (by rw[sc_len,List.length_take,hSl,Nat.min_eq_left hk])]
 rw[hcut] at hrow
 refine⟨{ Y with SL:=Y.SL.take k },⟨o1,o2,by rw[hlen];exact h.own.put 4 _,h.bank.turn t2 (fun k hk e=>h.xM (e▸hk)),h.made.turn t2 (fun e=>h.M_m e.symm),
  by rw[hlen];exact t2.own hrow (fun g hg e=>h.M_s (by rw[blk_eq] at hg;exact e▸hg)),by rw[List.map_take,h.sl],fun q hq=>(h.sas q (List.mem_of_mem_take hq)).turn t2 hG,t2.own h.frow (fun g hg e=>h.M_f (by rw[blk_eq] at hg;exact e▸hg)),h.fl,fun q hq=>(h.fas q hq).turn t2 hG,
  fun q hq=>t2.own (h.ids q hq) (fun g hg e=>h.M_i hq (by rw[blk_eq] at hg;exact e▸hg)),h.apart,h.xM,h.xm,h.xs,h.xf,h.xi,o3,o4⟩,hT',hY⟩
theorem Mk.Rep.note (h:Mk.Rep E w M Y s) {m':List (Nat×List Int×Int)} (hg:w.grownBy w' (some Y.mb)) (hm:MadeM w' Y.mb m'):Mk.Left E w M Y { s with made:=m' } w':=by
 have t2:Turn (fun k=>k=Y.mb) w w':=Turn.of_grown hg fun g e _=>(Option.some.inj e).symm
 have hT':Turn (Mk.foot M Y) w w':=t2.mono fun i _ hi=> .inr (.inr (.inl hi))
 obtain⟨o1,o2,o3,o4,o5⟩:=h.outer (Y':=Y) hT' fun _=> .inl
 have hG:∀ i,i<w.heap.size→¬Mk.foot M Y i→¬(i=Y.mb)∧¬Mk.foot M Y i:=fun i hlt hi=>⟨fun e=>hi (.inr (.inr (.inl e))),hi⟩
 exact⟨Y,⟨o1,o2,t2.lies h.own h.M_m,h.bank.turn t2 (fun k hk e=>h.xm (e▸hk)),hm,t2.own h.srow (fun g hg e=>h.m_s (by rw[blk_eq] at hg;exact e▸hg)),h.sl,fun q hq=>(h.sas q hq).turn t2 hG,
  t2.own h.frow (fun g hg e=>h.m_f (by rw[blk_eq] at hg;exact e▸hg)),h.fl,fun q hq=>(h.fas q hq).turn t2 hG,fun q hq=>t2.own (h.ids q hq) (fun g hg e=>h.m_i hq (by rw[blk_eq] at hg;exact e▸hg)),h.apart,h.xM,h.xm,h.xs,h.xf,h.xi,o3,o4⟩,hT',fun _=> .inl⟩
end
end Go.Proofs.YtcgaeknikfaghaaGreatDoor
