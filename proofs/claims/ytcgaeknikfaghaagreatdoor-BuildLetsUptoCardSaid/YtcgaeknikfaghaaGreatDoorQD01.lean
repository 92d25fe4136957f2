/- What the proofs of this claim use, text by text. -/
import Derived.WalkKit
import Derived.Below
import Derived.Laws.Rows
import Derived.Maps.AppendAt
import Derived.Maps.OwnSet
import Derived.Lib.SliceRun
import Derived.Lib.Hide
import Derived.Deep.Draws
import Derived.Laws.AppendOwnNone
import Derived.Deep.RegionLaw
import Derived.Test.YtcgaeknikfaghaaGreatDoorRows
import Derived.Deep.Slices
import Derived.Deep.Fields
import Derived.ChangeSame
import Derived.ProofKit
import Derived.OpenShut
import Derived.Laws.OwnMore
import Derived.Deep.QuietTactic
import Derived.WalkSpells
import Derived.WalkLawsBesides
import Derived.KernelRfl
import Derived.BigQuiet
import Derived.Laws.StructEq
import Derived.OrdersIn
import Derived.RangeFuncCalls
import Derived.StillTail
import Derived.TacticsIn
set_option linter.unusedSimpArgs false
set_option linter.unusedVariables false
set_option maxRecDepth 100000
set_option maxHeartbeats 25600000
namespace Go.Proofs.YtcgaeknikfaghaaGreatDoor
open Go.RowKit
instance bytesLaw:LawfulBEq ByteArray where
 eq_of_beq:=by
  intro a b h
  have h':(a.data == b.data)=true:=h
  have:=eq_of_beq h'
  cases a
  cases b
  simp_all
 rfl:=by
  intro a
  show(a.data == a.data)=true
  simp
theorem wf_nat {n:Nat} (h:n≤1000000):(Lit.int .i64 (n:Int)).wf=true:=WalkArith.wf_i64 (by omega)
theorem lit_i64 {a b:Int} (h:(DataW.lit (.int .i64 a):DataW Unit)=.lit (.int .i64 b)):a=b:=by simpa using h
abbrev i64s (l:List Int):List Value:=l.map fun x=> .int .i64 x
abbrev nats (l:List Nat):List Value:=l.map fun(x:Nat)=> .int .i64 (x:Int)
theorem take_one {α:Type} {l:List α} {i:Nat} {x:α} (h:l[i]?=some x):l.take (i+1)=l.take i++[x]:=by
 obtain⟨hi,e⟩:=List.getElem?_eq_some_iff.1 h
 rw[List.take_succ_eq_append_getElem hi,e]
theorem get_range {α:Type} {f:Nat→α} {n i:Nat} {o:α} (h:((List.range n).map f)[i]?=some o):i<n∧o=f i:=by
 have hl:=(List.getElem?_eq_some_iff.1 h).1
 rw[List.length_map,List.length_range] at hl
 rw[List.getElem?_map,List.getElem?_range hl] at h
 exact⟨hl,(Option.some.inj h).symm⟩
theorem addr_add (b off i:Nat):(⟨b,off,none⟩:Addr).add i=⟨b,off+i,none⟩:=by unfold Addr.add;split <;> simp_all
def Lies (w:World) (g:Nat) (t:TypeId) (cs:Array Value):Prop:=w.heap[g]?=some (.cells cs t (0,0))
theorem Lies.lt {w:World} {g:Nat} {t:TypeId} {cs:Array Value} (h:Lies w g t cs):g<w.heap.size:=(Array.getElem?_eq_some_iff.1 h).1
theorem Lies.cell {w:World} {g:Nat} {t:TypeId} {cs:Array Value} (h:Lies w g t cs) (i:Nat):w.cell? ⟨g,i,none⟩=cs[i]?:=cell_of_row w g i cs t (0,0) h
theorem Lies.free {w:World} {g:Nat} {t:TypeId} {cs:Array Value} (h:Lies w g t cs) (i:Nat):w.frozen? ⟨g,i,none⟩=false:=by
 have h':w.heap[g]?=some (.cells cs t (0,0)):=h
 simp[World.frozen?,h']
theorem Lies.new (w:World) (t:TypeId) (cs:Array Value):Lies (w.alloc (.cells cs t)) w.heap.size t cs:=heap_alloc_new w _
theorem Lies.put {w:World} {g:Nat} {t:TypeId} {cs:Array Value} (h:Lies w g t cs) (i:Nat) (u:Value):Lies (w.setCell ⟨g,i,none⟩ u) g t (cs.setIfInBounds i u):=by
 have h':w.heap[g]?=some (.cells cs t (0,0)):=h
 show(w.setCell ⟨g,i,none⟩ u).heap[g]?=_
 simp[World.setCell,Array.getElem?_modify,h']
structure Turn (F:Nat→Prop) (w w':World):Prop where
 os:w'.os=w.os
 tape:w'.tape=w.tape
 output:w'.output=w.output
 size:w.heap.size≤w'.heap.size
 block:∀ k,k<w.heap.size→¬F k→w'.heap[k]?=w.heap[k]?
section
variable {F G : Nat → Prop} {a b c w w' : World}
theorem Turn.refl (F:Nat→Prop) (w:World):Turn F w w:=⟨rfl,rfl,rfl,Nat.le_refl _,fun _ _ _=>rfl⟩
theorem Turn.trans (h:Turn F a b) (k:Turn G b c) (hG:∀ i,G i→F i∨a.heap.size≤i):Turn F a c:=
 ⟨k.os.trans h.os,k.tape.trans h.tape,k.output.trans h.output,Nat.le_trans h.size k.size,fun i hi hn=>
  (k.block i (Nat.lt_of_lt_of_le hi h.size) (fun g=>(hG i g).elim hn (fun e=>absurd hi (Nat.not_lt.2 e)))).trans (h.block i hi hn)⟩
theorem Turn.mono (h:Turn F a b) (hF:∀ i,i<a.heap.size→F i→G i):Turn G a b:=⟨h.os,h.tape,h.output,h.size,fun i hi hn=>h.block i hi (fun f=>hn (hF i hi f))⟩
theorem Turn.of_below (h:Below w.heap.size w w'):Turn F w w':=⟨h.os,h.tape,h.output,h.size,fun i hi _=>h.block i hi⟩
theorem Turn.of_grown {row:Option Nat} (h:w.grownBy w' row) (hr:∀ g,row=some g→g<w.heap.size→F g):Turn F w w':=
 ⟨h.os,h.tape,h.output,h.size,fun i hi hn=>h.block i hi (fun e=>hn (hr i e.symm hi))⟩
theorem Turn.drew (h:Turn F a w):Turn F a w.drew:=⟨h.os,h.tape,h.output,h.size,h.block⟩
theorem Turn.drewN (h:Turn F a w) (n:Nat):Turn F a (w.drewN n):=⟨h.os,h.tape,h.output,h.size,h.block⟩
theorem Turn.alloc (h:Turn F a w) (o:Obj):Turn F a (w.alloc o):=
 h.trans (G:=fun _=>False) ⟨rfl,rfl,rfl,by simp,fun i hi _=>Below.heap_alloc w o i hi⟩ (fun _ e=>e.elim)
theorem Turn.put (h:Turn F a w) {p:Addr} (hp:F p.block∨a.heap.size≤p.block) (u:Value):Turn F a (w.setCell p u):=
 h.trans (G:=fun i=>i=p.block) ⟨rfl,rfl,rfl,by simp[World.setCell],fun i _ hn=>Below.heap_setCell w p u i hn⟩ (fun _ e=>e▸hp)
theorem Turn.step (h:Turn F a w) (k:Below w.heap.size w w'):Turn F a w':=h.trans (G:=fun _=>False) (Turn.of_below k) (fun _ e=>e.elim)
theorem Turn.below {B:Nat} (h:Turn F w w') (hB:B≤w.heap.size) (hF:∀ i,F i→B≤i):Below B w w':=
 ⟨h.os,h.tape,h.output,h.size,fun i hi=>h.block i (Nat.lt_of_lt_of_le hi hB) (fun f=>absurd hi (Nat.not_lt.2 (hF i f)))⟩
theorem Turn.none_ (h:Turn F w w') (hF:∀ i,¬F i):Below w.heap.size w w':=⟨h.os,h.tape,h.output,h.size,fun i hi=>h.block i hi (hF i)⟩
theorem Turn.lies {g:Nat} {t:TypeId} {cs:Array Value} (h:Turn F w w') (hl:Lies w g t cs) (hg:¬F g):Lies w' g t cs:=(h.block g hl.lt hg).trans hl
theorem Turn.cell {p:Addr} (h:Turn F w w') (hp:p.block<w.heap.size) (hF:¬F p.block):w'.cell? p=w.cell? p:=World.cell?_of_block (w:=w) (h.block p.block hp hF)
theorem Turn.own {base:Nat} {e:TypeId} {size n:Nat} {v:Value} {xs:List Value} (h:Turn F w w') (ho:w.ownsRow base e size v n xs) (hv:∀ g,v.ownBlock=some g→¬F g):w'.ownsRow base e size v n xs:=by
 refine⟨ho.1,?_⟩
 rcases ho.2 with hn|⟨g,cap,cur,rfl,hb,hg,rest⟩
 ·exact .inl hn
 ·exact .inr ⟨g,cap,cur,rfl,hb,(h.block g (Array.getElem?_eq_some_iff.1 hg).1 (hv g rfl)).trans hg,rest⟩
theorem Turn.map {H:Type} {P:Program} {k:TypeId} {R:Value→Option (DataW H×List MemPlace)} {b n:Nat} {D:DataW H} (h:Turn F w w') (ho:w.ownsMap P k R b n D) (hb:¬F b):w'.ownsMap P k R b n D:=by
 have hlt:=ho.lt
 obtain⟨es,clock,e,r⟩:=ho
 exact⟨es,clock,(h.block b hlt hb).trans e,r⟩
end
theorem own_heap {w:World} {base:Nat} {e:TypeId} {size n:Nat} {v:Value} {xs:List Value} (h:w.ownsRow base e size v n xs) {g:Nat} (hg:v.ownBlock=some g):∃ cs,Lies w g e cs:=by
 rcases h.2 with⟨rfl,_⟩|⟨g',cap,cur,rfl,_,hh,_⟩
 ·cases hg
 ·have:g'=g:=by simpa [Value.ownBlock] using hg
  subst this
  exact⟨cur,hh⟩
theorem own_not_lies {w:World} {base:Nat} {e t:TypeId} {size n g:Nat} {v:Value} {xs:List Value} {cs:Array Value} (h:w.ownsRow base e size v n xs) (hl:Lies w g t cs) (hne:e≠t):v.ownBlock≠some g:=by
 intro hg
 obtain⟨cs',h'⟩:=own_heap h hg
 have:=Option.some.inj (h'.symm.trans hl)
 injection this with _ h2
 exact hne h2
theorem own_apart {w:World} {base base':Nat} {e e':TypeId} {size size' n n':Nat} {v v':Value} {xs xs':List Value} (h:w.ownsRow base e size v n xs) (h':w.ownsRow base' e' size' v' n' xs') (hne:e≠e'):∀ g,v.ownBlock=some g→v'.ownBlock≠some g:=by
 intro g hg hg'
 obtain⟨cs',q⟩:=own_heap h' hg'
 exact own_not_lies h q hne hg
theorem own_not_map {H:Type} {P:Program} {k:TypeId} {R:Value→Option (DataW H×List MemPlace)} {b m:Nat} {D:DataW H} {w:World} {base:Nat} {e:TypeId} {size n:Nat} {v:Value} {xs:List Value} (h:w.ownsRow base e size v n xs) (ho:w.ownsMap P k R b m D):v.ownBlock≠some b:=by
 intro hg
 obtain⟨cs',h'⟩:=own_heap h hg
 obtain⟨es,clock,e,_⟩:=ho
 have h'':w.heap[b]?=some (.cells cs' _ (0,0)):=h'
 rw[e] at h''
 cases h''
theorem lies_not_map {H:Type} {P:Program} {k:TypeId} {R:Value→Option (DataW H×List MemPlace)} {b m g:Nat} {D:DataW H} {w:World} {t:TypeId} {cs:Array Value} (h:Lies w g t cs) (ho:w.ownsMap P k R b m D):g≠b:=by
 rintro rfl
 obtain⟨es,clock,e,_⟩:=ho
 have h'':w.heap[g]?=some (.cells cs _ (0,0)):=h
 rw[e] at h''
 cases h''
theorem ownsMap_tight {H:Type} {P:Program} {k:TypeId} {R:Value→Option (DataW H×List MemPlace)} {b n m:Nat} {D:DataW H} {w:World} (h:w.ownsMap P k R b n D) (hm:Maps.size D≤m):w.ownsMap P k R b m D:=by
 obtain⟨es,clock,e,F,_,rfl⟩:=h
 refine⟨es,clock,e,F,?_,rfl⟩
 rw[Maps.size_eq,length_sorted,List.length_map,Array.length_toList] at hm
 exact hm
theorem own_form {w:World} {base:Nat} {e:TypeId} {size n:Nat} {v:Value} {xs:List Value} (h:w.ownsRow base e size v n xs):∃ A c,v=.slice A n c:=by
 rcases h.2 with⟨rfl,rfl⟩|⟨g,cap,cur,rfl,_⟩
 ·exact⟨none,0,rfl⟩
 ·exact⟨_,_,rfl⟩
theorem append_row {P:Program} (w:World) {ops:Array Oper} {rest:List Oper} {o:Oper} {a:Act} {Q:Exit→Act→World→Prop} (hgd:o.guard=none) (s x:Operand) (t:TypeId)
  (ho:o.op=.call { callee:=.builtin .append,args:=#[s,x],argTypes:=#[t,t] })
  (base:Nat) (e:TypeId) (i:TypeInfo) (z:Value) (bytes:Nat) (ht:P.underlying t=some (.slice e)) (hi:P.info? e=some i) (hz:i.zero=some z)
  (hsize:i.size=1) (hby:i.bytes=bytes) (hzs:z.cells.size=1)
  (v:Value) (n:Nat) (xs:List Value) (hs:a.eval s=v) (hown:w.ownsRow base e 1 v n xs)
  (ad:Addr) (m c:Nat) (news:List Value) (hx:a.eval x=.slice (some ad) m c) (hl:news.length=m*1) (hnews:∀ j u,news[j]?=some u→w.cell? (ad.add j)=some u) (h1:∀ u∈news,u.oneCell'=true)
  (h63:n+m≤maxLen) (hbytes:(n+m)*bytes≤140737488355328) (hbase:base≤w.heap.size)
  (h:∀ A' c' w',w'.ownsRow base e 1 (.slice A' (n+m) c') (n+m) (xs++news)→w.grownBy w' v.ownBlock→((Value.slice A' (n+m) c').ownBlock=v.ownBlock∨(Value.slice A' (n+m) c').ownBlock=some w.heap.size)→wpList P ops Q rest (a.put o.dst (.slice A' (n+m) c')) w'):
  wpList P ops Q (o::rest) a w:=
 wpList_append_own_at w hgd s x t ho base e i z 1 bytes ht hi hz hsize hby hzs (by decide) v n xs hs hown ad m c news hx hl hnews h1 h63 hbytes hbase fun v' w' q1 q2 _ q4=>by
  obtain⟨A',c',rfl⟩:=own_form q1
  exact h A' c' w' q1 q2 q4
theorem step_append_row {P:Program} {w:World} {ops:Array Oper} {o:Oper} {a:Act} {K:Act→World→Prop} {Q:Exit→Act→World→Prop} {E:Prop} (hgd:o.guard=none) (s x:Operand) (t:TypeId)
  (ho:o.op=.call { callee:=.builtin .append,args:=#[s,x],argTypes:=#[t,t] })
  (base:Nat) (e:TypeId) (i:TypeInfo) (z:Value) (bytes:Nat) (ht:P.underlying t=some (.slice e)) (hi:P.info? e=some i) (hz:i.zero=some z)
  (hsize:i.size=1) (hby:i.bytes=bytes) (hzs:z.cells.size=1)
  (v:Value) (n:Nat) (xs:List Value) (hs:a.eval s=v) (hown:w.ownsRow base e 1 v n xs)
  (ad:Addr) (m c:Nat) (news:List Value) (hx:a.eval x=.slice (some ad) m c) (hl:news.length=m*1) (hnews:∀ j u,news[j]?=some u→w.cell? (ad.add j)=some u) (h1:∀ u∈news,u.oneCell'=true)
  (h63:n+m≤maxLen) (hbytes:(n+m)*bytes≤140737488355328) (hbase:base≤w.heap.size)
  (h:∀ A' c' w',w'.ownsRow base e 1 (.slice A' (n+m) c') (n+m) (xs++news)→w.grownBy w' v.ownBlock→((Value.slice A' (n+m) c').ownBlock=v.ownBlock∨(Value.slice A' (n+m) c').ownBlock=some w.heap.size)→K (a.put o.dst (.slice A' (n+m) c')) w'):
  if Region.wanted o (yielded ops a.tmps)=true then Oper.wp P o a w K Q else E:=by
 have hw:Region.wanted o (yielded ops a.tmps)=true:=by simp[Region.wanted,hgd]
 rw[if_pos hw]
 obtain⟨v',w',hr,q1,q2,_,q4⟩:=run_append_own_at (P:=P) w base t o.type e i z 1 bytes ht hi hz hsize hby hzs (by decide) v n xs hown ad m c news hl hnews h1 h63 hbytes hbase
 obtain⟨A',c',rfl⟩:=own_form q1
 unfold Oper.wp
 simp[execOp,ho,resolve,invoke,builtin,hs,hx,hr,Result.andThen]
 exact h A' c' w' q1 q2 q4
structure Rd (w:World) (G:Nat→Prop) (A:Option Addr) (n c:Nat) (xs:List Value):Prop where
 len:xs.length=n
 nil:A=none→n=0∧c=0
 le:n≤c
 cm:c≤maxLen
 at_:0<n→∃ b off,A=some ⟨b,off,none⟩∧G b∧b<w.heap.size∧∀ j u,xs[j]?=some u→w.cell? ⟨b,off+j,none⟩=some u
theorem Rd.nil_ (w:World) (G:Nat→Prop):Rd w G none 0 0 []:=⟨rfl,fun _=>⟨rfl,rfl⟩,Nat.le_refl _,Nat.zero_le _,fun h=>absurd h (by omega)⟩
theorem Rd.turn {w w':World} {F G:Nat→Prop} {A:Option Addr} {n c:Nat} {xs:List Value} (h:Rd w G A n c xs) (ht:Turn F w w') (hG:∀ b,b<w.heap.size→G b→¬F b):Rd w' G A n c xs:=
 ⟨h.len,h.nil,h.le,h.cm,fun hn=>by
  obtain⟨b,off,e,hg,hb,hc⟩:=h.at_ hn
  exact⟨b,off,e,hg,Nat.lt_of_lt_of_le hb ht.size,fun j u hu=>(ht.cell (p:=⟨b,off+j,none⟩) hb (hG b hb hg)).trans (hc j u hu)⟩⟩
theorem Rd.below {w w':World} {G:Nat→Prop} {A:Option Addr} {n c:Nat} {xs:List Value} (h:Rd w G A n c xs) (ht:Below w.heap.size w w'):Rd w' G A n c xs:=
 h.turn (F:=fun _=>False) (Turn.of_below ht) (fun _ _ _ e=>e)
theorem Rd.mono {w:World} {G G':Nat→Prop} {A:Option Addr} {n c:Nat} {xs:List Value} (h:Rd w G A n c xs) (hG:∀ b,b<w.heap.size→G b→G' b):Rd w G' A n c xs:=
 ⟨h.len,h.nil,h.le,h.cm,fun hn=>by
  obtain⟨b,off,e,hg,hb,hc⟩:=h.at_ hn
  exact⟨b,off,e,hG b hb hg,hb,hc⟩⟩
theorem Rd.of_own {w:World} {base:Nat} {e:TypeId} {A:Option Addr} {n c:Nat} {xs:List Value} (h:w.ownsRow base e 1 (.slice A n c) n xs):Rd w (fun b=>base≤b) A n c xs:=by
 have hl:=h.1
 rcases h.2 with⟨e,rfl⟩|⟨g,cap,cur,e,hb,hg,q1,q2,q3,q4⟩
 ·injection e with e1 e2 e3
  subst e1
  subst e3
  exact⟨by omega,fun _=>⟨rfl,rfl⟩,Nat.le_refl _,Nat.zero_le _,fun hn=>absurd hn (by omega)⟩
 ·injection e with e1 e2 e3
  subst e1
  subst e3
  refine⟨by omega,fun e=>(by cases e),q1,q2,fun hn=>⟨g,0,rfl,hb,(Array.getElem?_eq_some_iff.1 hg).1,fun j u hu=>?_⟩⟩
  have:=h.cells (g:=g) rfl j u hu
  rw[Nat.zero_add]
  rw[show(⟨g,0,none⟩:Addr).add j=⟨g,j,none⟩ by unfold Addr.add;split <;> simp_all] at this
  exact this
end Go.Proofs.YtcgaeknikfaghaaGreatDoor
namespace Go.Proofs.YtcgaeknikfaghaaGreatDoor
theorem Lt.len_bytes (s:ByteArray):s.data.toList.length=s.size:=by rw[Array.length_toList];rfl
theorem Lt.drop_at (s:ByteArray) {i:Nat} (h:i<s.size):s.data.toList.drop i=s[i]::s.data.toList.drop (i+1):=by
 have h':i<s.data.toList.length:=by rw[Array.length_toList];exact h
 rw[List.drop_eq_getElem_cons h']
 congr 1
theorem Lt.bytes_eq {a b:ByteArray} (h:a.data.toList=b.data.toList):a=b:=by
 have e:=Array.toList_inj.1 h
 cases a
 cases b
 simp only at e
 rw[e]
def Lt.dig (c:UInt8):Option Nat:=
 if 48≤c.toNat∧c.toNat≤57 then some (c.toNat-48) else if 97≤c.toNat∧c.toNat≤102 then some (c.toNat-87) else if 65≤c.toNat∧c.toNat≤70 then some (c.toNat-55) else none
theorem Lt.dig_lt {c:UInt8} {d:Nat} (h:Lt.dig c=some d):d<16:=by
 unfold Lt.dig at h
 split at h
 ·injection h with h;omega
 ·split at h
  ·injection h with h;omega
  ·split at h
   ·injection h with h;omega
   ·cases h
def Lt.val:Nat→List UInt8→Option Nat
 |n,[]=>some n
 |n,c::t=>match Lt.dig c with
  |none=>none
  |some d=>Lt.val (n*16+d) t
theorem Lt.val_none {n:Nat} {c:UInt8} (t:List UInt8) (h:Lt.dig c=none):Lt.val n (c::t)=none:=by rw[Lt.val,h]
theorem Lt.val_some {n d:Nat} {c:UInt8} (t:List UInt8) (h:Lt.dig c=some d):Lt.val n (c::t)=Lt.val (n*16+d) t:=by rw[Lt.val,h]
theorem Lt.val_digs:∀ (l:List UInt8) (n m:Nat),Lt.val n l=some m→∀ c∈l,(Lt.dig c).isSome=true
 |[],_,_,_,c,hc=>absurd hc List.not_mem_nil
 |x::l,n,m,h,c,hc=>by
  cases e:Lt.dig x with
  |none=>rw[Lt.val_none _ e] at h;cases h
  |some d=>
   rw[Lt.val_some _ e] at h
   rcases List.mem_cons.1 hc with rfl|hc
   ·rw[e];rfl
   ·exact Lt.val_digs l _ m h c hc
theorem Lt.val_le:∀ (l:List UInt8) (n m:Nat),Lt.val n l=some m→m<(n+1)*16^l.length
 |[],n,m,h=>by
  rw[Lt.val] at h
  injection h with h
  simp
  omega
 |x::l,n,m,h=>by
  cases e:Lt.dig x with
  |none=>rw[Lt.val_none _ e] at h;cases h
  |some d=>
   rw[Lt.val_some _ e] at h
   have h1:=Lt.val_le l _ m h
   have h2:=Lt.dig_lt e
   have h3:(n*16+d+1)*16^l.length≤((n+1)*16)*16^l.length:=Nat.mul_le_mul_right _ (by omega)
   rw[List.length_cons,Nat.pow_succ,Nat.mul_comm (16^l.length) 16,←Nat.mul_assoc]
   omega
def Lt.num (l:List UInt8):Option Nat:=if l=[] then none else(Lt.val 0 l).bind fun n=>if n≤196607 then some n else none
theorem Lt.num_some {l:List UInt8} {n:Nat}:Lt.num l=some n↔l≠[]∧Lt.val 0 l=some n∧n≤196607:=by
 unfold Lt.num
 split
 ·rename_i h
  simp[h]
 ·rename_i h
  cases e:Lt.val 0 l with
  |none=>simp
  |some m=>
   simp only[Option.bind_some]
   split
   ·rename_i hm
    constructor
    ·intro q;injection q with q;subst q;exact⟨h,rfl,hm⟩
    ·rintro⟨_,q,_⟩;exact q
   ·rename_i hm
    constructor
    ·intro q;cases q
    ·rintro⟨_,q,hn⟩;injection q with q;subst q;exact absurd hn hm
theorem Lt.dig_125:Lt.dig 125=none:=by decide
def Lt.seek (q:List UInt8):Nat→Nat→Option (Nat×List UInt8)
 |0,_=>none
 |m+1,k=>if q[k]?=some 125 then match Lt.num (q.take k) with
   |some n=>some (n,q.drop (k+1))
   |none=>Lt.seek q m (k+1)
  else Lt.seek q m (k+1)
def Lt.brace (q:List UInt8):Option (Nat×List UInt8):=Lt.seek q 5 1
theorem Lt.seek_sound {q:List UInt8} {n:Nat} {r:List UInt8}:∀ (m k:Nat),Lt.seek q m k=some (n,r)→∃ d,q=d++125::r∧d.length<k+m∧Lt.num d=some n
 |0,_,h=>by cases h
 |m+1,k,h=>by
  rw[Lt.seek] at h
  have next:Lt.seek q m (k+1)=some (n,r)→∃ d,q=d++125::r∧d.length<k+(m+1)∧Lt.num d=some n:=fun h=>by
   obtain⟨d,h1,h2,h3⟩:=Lt.seek_sound m (k+1) h
   exact⟨d,h1,by omega,h3⟩
  split at h
  ·rename_i hk
   cases e:Lt.num (q.take k) with
   |none=>rw[e] at h;exact next h
   |some x=>
    rw[e] at h
    simp only[Option.some.injEq,Prod.mk.injEq] at h
    obtain⟨rfl,rfl⟩:=h
    obtain⟨hlt,hget⟩:=List.getElem?_eq_some_iff.1 hk
    refine⟨q.take k,?_,by rw[List.length_take];omega,e⟩
    conv=>lhs;rw[←List.take_append_drop k q,List.drop_eq_getElem_cons hlt,hget]
  ·exact next h
theorem Lt.seek_full {d r:List UInt8} {n:Nat} (hd:Lt.num d=some n):∀ (m k:Nat),1≤k→k≤d.length→d.length<k+m→Lt.seek (d++125::r) m k=some (n,r)
 |0,k,_,h1,h2=>by omega
 |m+1,k,h0,h1,h2=>by
  rw[Lt.seek]
  by_cases hk:k=d.length
  ·subst hk
   rw[if_pos (by simp),List.take_left,hd]
   simp
  ·have hlt:k<d.length:=by omega
   have hne:(d++125::r)[k]?≠some 125:=by
    intro e
    rw[List.getElem?_append_left hlt] at e
    have hm:=List.mem_of_getElem? e
    have:=Lt.val_digs d 0 n (Lt.num_some.1 hd).2.1 125 hm
    rw[Lt.dig_125] at this
    cases this
   rw[if_neg hne]
   exact Lt.seek_full hd m (k+1) (by omega) hlt (by omega)
theorem Lt.brace_some {q:List UInt8} {n:Nat} {r:List UInt8}:Lt.brace q=some (n,r)↔∃ d,q=d++125::r∧d.length≤5∧Lt.num d=some n:=by
 constructor
 ·intro h
  obtain⟨d,h1,h2,h3⟩:=Lt.seek_sound 5 1 h
  exact⟨d,h1,by omega,h3⟩
 ·rintro⟨d,rfl,h2,h3⟩
  have:d≠[]:=(Lt.num_some.1 h3).1
  have:0<d.length:=List.length_pos_iff.2 this
  exact Lt.seek_full h3 5 1 (by omega) (by omega) (by omega)
def Lt.esc (r:List UInt8):Option (Nat×List UInt8):=match r with
 |123::q=>Lt.brace q
 |_=>if 4≤r.length then(Lt.num (r.take 4)).map fun n=>(n,r.drop 4) else none
theorem Lt.esc_brace (q:List UInt8):Lt.esc (123::q)=Lt.brace q:=rfl
theorem Lt.esc_four {r:List UInt8} (h:r.head?≠some 123):Lt.esc r=if 4≤r.length then(Lt.num (r.take 4)).map fun n=>(n,r.drop 4) else none:=by
 unfold Lt.esc
 split
 ·exact absurd rfl h
 ·rfl
def Lt.one:List UInt8→Nat×List UInt8
 |[]=>(0,[])
 |c::t=>(if c=92∧t.head?=some 117 then Lt.esc t.tail else none).getD (c.toNat,t)
theorem Lt.one_plain {c:UInt8} {t:List UInt8} (h:¬(c=92∧t.head?=some 117)):Lt.one (c::t)=(c.toNat,t):=by rw[Lt.one,if_neg h];rfl
theorem Lt.one_esc {r:List UInt8}:Lt.one (92::117::r)=(Lt.esc r).getD (92,117::r):=by
 rw[Lt.one,if_pos ⟨rfl,rfl⟩]
 rfl
theorem Lt.esc_facts {r:List UInt8} {n:Nat} {q:List UInt8} (h:Lt.esc r=some (n,q)):n≤196607∧q.length≤r.length:=by
 by_cases hb:r.head?=some 123
 ·obtain⟨t,rfl⟩:∃ t,r=123::t:=by
   cases r with
   |nil=>cases hb
   |cons c t=>exact⟨t,by injection hb with hb;rw[hb]⟩
  rw[Lt.esc_brace] at h
  obtain⟨d,rfl,_,h3⟩:=Lt.brace_some.1 h
  refine⟨(Lt.num_some.1 h3).2.2,?_⟩
  simp
  omega
 ·rw[Lt.esc_four hb] at h
  split at h
  ·obtain⟨m,hm,e⟩:=Option.map_eq_some_iff.1 h
   injection e with e1 e2
   subst e1
   refine⟨(Lt.num_some.1 hm).2.2,?_⟩
   rw[←e2,List.length_drop]
   omega
  ·cases h
theorem Lt.one_facts (c:UInt8) (t:List UInt8):(Lt.one (c::t)).1≤196607∧(Lt.one (c::t)).2.length≤t.length:=by
 have hc:=c.toNat_lt
 by_cases h:c=92∧t.head?=some 117
 ·obtain⟨rfl,h⟩:=h
  cases t with
  |nil=>cases h
  |cons d r=>
   injection h with h
   subst h
   rw[Lt.one_esc]
   cases e:Lt.esc r with
   |none=>simp
   |some x=>
    obtain⟨n,q⟩:=x
    have:=Lt.esc_facts e
    simp
    omega
 ·rw[Lt.one_plain h]
  refine⟨by simp only;omega,Nat.le_refl _⟩
def Lt.points:Nat→List UInt8→List Int
 |0,_=>[]
 |_+1,[]=>[]
 |n+1,c::t=>((Lt.one (c::t)).1:Int)::Lt.points n (Lt.one (c::t)).2
theorem Lt.points_fuel:∀ (n m:Nat) (l:List UInt8),l.length≤n→l.length≤m→Lt.points n l=Lt.points m l
 |0,m,l,h,_=>by
  obtain rfl:l=[]:=List.eq_nil_of_length_eq_zero (by omega)
  cases m <;> rfl
 |n+1,0,l,_,h=>by
  obtain rfl:l=[]:=List.eq_nil_of_length_eq_zero (by omega)
  rfl
 |n+1,m+1,[],_,_=>rfl
 |n+1,m+1,c::t,h1,h2=>by
  have:=(Lt.one_facts c t).2
  rw[List.length_cons] at h1 h2
  rw[Lt.points,Lt.points,Lt.points_fuel n m _ (by omega) (by omega)]
def Lt.pts (l:List UInt8):List Int:=Lt.points l.length l
theorem Lt.pts_nil:Lt.pts []=[]:=rfl
theorem Lt.pts_cons (c:UInt8) (t:List UInt8):Lt.pts (c::t)=((Lt.one (c::t)).1:Int)::Lt.pts (Lt.one (c::t)).2:=by
 have:=(Lt.one_facts c t).2
 unfold Lt.pts
 rw[List.length_cons,Lt.points,Lt.points_fuel t.length (Lt.one (c::t)).2.length _ this (Nat.le_refl _)]
def Lt.pt (z:Int):Bool:=decide (0≤z∧z≤196607)
theorem Lt.pts_facts:∀ (n:Nat) (l:List UInt8),l.length≤n→(Lt.pts l).length≤l.length∧∀ z∈Lt.pts l,Lt.pt z=true
 |0,l,h=>by
  obtain rfl:l=[]:=List.eq_nil_of_length_eq_zero (by omega)
  exact⟨Nat.le_refl _,fun _ h=>absurd h List.not_mem_nil⟩
 |n+1,[],_=>⟨Nat.le_refl _,fun _ h=>absurd h List.not_mem_nil⟩
 |n+1,c::t,h=>by
  obtain⟨h1,h2⟩:=Lt.one_facts c t
  rw[List.length_cons] at h
  obtain⟨i1,i2⟩:=Lt.pts_facts n (Lt.one (c::t)).2 (by omega)
  rw[Lt.pts_cons,List.length_cons,List.length_cons]
  refine⟨by omega,fun z hz=>?_⟩
  rcases List.mem_cons.1 hz with rfl|hz
  ·unfold Lt.pt
   exact decide_eq_true ⟨by omega,by omega⟩
  ·exact i2 z hz
theorem Lt.pt_facts {z:Int} (h:Lt.pt z=true):0≤z∧z≤196607:=of_decide_eq_true h
end Go.Proofs.YtcgaeknikfaghaaGreatDoor
namespace Go.Proofs.YtcgaeknikfaghaaGreatDoor
def Lt.addRun (R:List (Int×Int)) (z:Int):List (Int×Int):=match R.getLast? with
 |some x=>if x.1=z then R.dropLast++[(x.1,x.2+1)] else R++[(z,1)]
 |none=>[(z,1)]
theorem Lt.addRun_nil (z:Int):Lt.addRun [] z=[(z,1)]:=rfl
theorem Lt.addRun_same (R:List (Int×Int)) (z n:Int):Lt.addRun (R++[(z,n)]) z=R++[(z,n+1)]:=by simp[Lt.addRun]
theorem Lt.addRun_new (R:List (Int×Int)) {y z:Int} (n:Int) (h:y≠z):Lt.addRun (R++[(y,n)]) z=R++[(y,n)]++[(z,1)]:=by simp[Lt.addRun,h]
def Lt.runs (zs:List Int):List (Int×Int):=zs.foldl Lt.addRun []
theorem Lt.runs_snoc (zs:List Int) (z:Int):Lt.runs (zs++[z])=Lt.addRun (Lt.runs zs) z:=by simp[Lt.runs]
def Lt.expand (R:List (Int×Int)):List Int:=R.flatMap fun x=>List.replicate x.2.toNat x.1
theorem Lt.expand_app (R S:List (Int×Int)):Lt.expand (R++S)=Lt.expand R++Lt.expand S:=by simp[Lt.expand]
theorem Lt.expand_one (c n:Int):Lt.expand [(c,n)]=List.replicate n.toNat c:=by simp[Lt.expand]
def Lt.total:List (Int×Int)→Int
 |[]=>0
 |x::R=>x.2+Lt.total R
theorem Lt.total_app:∀ R S:List (Int×Int),Lt.total (R++S)=Lt.total R+Lt.total S
 |[],S=>by rw[List.nil_append,Lt.total];omega
 |x::R,S=>by rw[List.cons_append,Lt.total,Lt.total,Lt.total_app R S];omega
theorem Lt.total_one (c n:Int):Lt.total [(c,n)]=n:=by rw[Lt.total,Lt.total];omega
structure Lt.RunsOf (zs:List Int) (R:List (Int×Int)):Prop where
 exp:Lt.expand R=zs
 pos:∀ x∈R,1≤x.2∧x.1∈zs
 adj:∀ i x y,R[i]?=some x→R[i+1]?=some y→x.1≠y.1
 last:R.getLast?.map (·.1)=zs.getLast?
 len:R.length≤zs.length
 sum:Lt.total R=zs.length
theorem Lt.last_form {α:Type} (l:List α):l=[]∨∃ m x,l=m++[x]:=by
 rcases List.eq_nil_or_concat l with h|⟨m,x,h⟩
 ·exact .inl h
 ·exact .inr ⟨m,x,by simpa using h⟩
theorem Lt.RunsOf.snoc {zs:List Int} {R:List (Int×Int)} (h:Lt.RunsOf zs R) (z:Int):Lt.RunsOf (zs++[z]) (Lt.addRun R z):=by
 rcases Lt.last_form R with rfl|⟨S,⟨y,n⟩,rfl⟩
 ·have hz:zs=[]:=by
   have:=h.exp
   simpa [Lt.expand] using this.symm
  subst hz
  rw[Lt.addRun_nil]
  refine⟨rfl,fun x hx=>?_,fun i x y h1 h2=>?_,rfl,Nat.le_refl _,rfl⟩
  ·rw[List.mem_singleton.1 hx]
   exact⟨by simp,by simp⟩
  ·simp at h2
 ·have hp:=h.pos (y,n) (by simp)
  have hs:=h.sum
  have he:=h.exp
  rw[Lt.total_app,Lt.total_one] at hs
  rw[Lt.expand_app,Lt.expand_one] at he
  have hp1:1≤n:=hp.1
  by_cases hyz:y=z
  ·subst hyz
   rw[Lt.addRun_same]
   refine⟨?_,fun x hx=>?_,fun i x x' h1 h2=>?_,by simp,?_,?_⟩
   ·rw[Lt.expand_app,Lt.expand_one,←he,show(n+1).toNat=n.toNat+1 by omega,List.replicate_succ',List.append_assoc]
   ·rcases List.mem_append.1 hx with hx|hx
    ·have:=h.pos x (List.mem_append_left _ hx)
     exact⟨this.1,List.mem_append_left _ this.2⟩
    ·rw[List.mem_singleton.1 hx]
     exact⟨by simp only;omega,by simp⟩
   ·have hl:i+1<S.length+1:=by
     have:=(List.getElem?_eq_some_iff.1 h2).1
     simpa using this
    have e1:(S++[(y,n)])[i]?=some x:=by rw[←h1,List.getElem?_append_left (by omega),List.getElem?_append_left (by omega)]
    by_cases hi:i+1<S.length
    ·exact h.adj i x x' e1 (by rw[←h2,List.getElem?_append_left hi,List.getElem?_append_left hi])
    ·have hi':i+1=S.length:=by omega
     have e2:x'=(y,n+1):=by
      rw[hi',List.getElem?_append_right (Nat.le_refl _)] at h2
      simpa using h2.symm
     subst e2
     exact h.adj i x (y,n) e1 (by rw[hi',List.getElem?_append_right (Nat.le_refl _)];simp)
   ·have:=h.len
    simp at this ⊢
    omega
   ·rw[Lt.total_app,Lt.total_one,List.length_append]
    simp
    omega
  ·rw[Lt.addRun_new S n hyz]
   refine⟨?_,fun x hx=>?_,fun i x x' h1 h2=>?_,by simp,?_,?_⟩
   ·rw[Lt.expand_app,Lt.expand_app,Lt.expand_one,Lt.expand_one,he]
    rfl
   ·rcases List.mem_append.1 hx with hx|hx
    ·have:=h.pos x hx
     exact⟨this.1,List.mem_append_left _ this.2⟩
    ·rw[List.mem_singleton.1 hx]
     exact⟨by simp,by simp⟩
   ·have hl:i+1<(S++[(y,n)]).length+1:=by
     have:=(List.getElem?_eq_some_iff.1 h2).1
     simpa using this
    have e1:(S++[(y,n)])[i]?=some x:=by rw[←h1,List.getElem?_append_left (l₁:=S++[(y,n)]) (by omega)]
    by_cases hi:i+1<(S++[(y,n)]).length
    ·exact h.adj i x x' e1 (by rw[←h2,List.getElem?_append_left (l₁:=S++[(y,n)]) hi])
    ·have hi':i+1=(S++[(y,n)]).length:=by omega
     have e2:x'=(z,1):=by
      rw[hi',List.getElem?_append_right (Nat.le_refl _)] at h2
      simpa using h2.symm
     have e3:x=(y,n):=by
      have:i=S.length:=by simp at hi';omega
      rw[this,List.getElem?_append_right (Nat.le_refl _)] at e1
      simpa using e1.symm
     rw[e2,e3]
     exact hyz
   ·have:=h.len
    simp at this ⊢
    omega
   ·rw[Lt.total_app,Lt.total_app,Lt.total_one,Lt.total_one,List.length_append]
    simp
    omega
theorem Lt.runs_of (zs:List Int):Lt.RunsOf zs (Lt.runs zs):=by
 suffices h:∀ n:Nat,∀ zs:List Int,zs.length=n→Lt.RunsOf zs (Lt.runs zs) from h _ zs rfl
 intro n
 induction n with
 |zero=>
  intro zs h
  obtain rfl:=List.eq_nil_of_length_eq_zero h
  exact⟨rfl,fun _ h=>absurd h List.not_mem_nil,fun i x y h=>(by simp[Lt.runs] at h),rfl,Nat.le_refl _,rfl⟩
 |succ n ih=>
  intro zs h
  rcases Lt.last_form zs with rfl|⟨m,x,rfl⟩
  ·cases h
  ·rw[Lt.runs_snoc]
   exact(ih m (by simpa using h)).snoc x
theorem Lt.total_pos:∀ {R:List (Int×Int)},(∀ x∈R,¬x.2<1)→0≤Lt.total R
 |[],_=>Int.le_refl _
 |x::R,h=>by
  have h1:=h x List.mem_cons_self
  have h2:=Lt.total_pos (R:=R) fun y hy=>h y (List.mem_cons_of_mem _ hy)
  rw[Lt.total]
  omega
def Lt.runsOf (zs:List Int):Int×List (Int×Int):=if zs.all Lt.pt then(0,Lt.runs zs) else(1,[])
end Go.Proofs.YtcgaeknikfaghaaGreatDoor
namespace Go.Proofs.YtcgaeknikfaghaaGreatDoor
structure Tx.Own (R:List (Int×Int)):Prop where
 pos:∀ x∈R,Lt.pt x.1=true∧1≤x.2
 adj:∀ i x y,R[i]?=some x→R[i+1]?=some y→x.1≠y.1
structure Tx.May (R:List (Int×Int)):Prop where
 own:Tx.Own R
 few:R.length≤65536
 most:Lt.total R≤1099511627776
end Go.Proofs.YtcgaeknikfaghaaGreatDoor
namespace Go.Proofs.YtcgaeknikfaghaaGreatDoor
open Go.RowKit Go.ChangeShapes Go.WideShapes Go.Deep
theorem zeroInt (w:World):(zeroValue 3).run Tryz.prog w=.ok (.int .i64 0) w:=by kernel_rfl
end Go.Proofs.YtcgaeknikfaghaaGreatDoor
namespace Go.Proofs.YtcgaeknikfaghaaGreatDoor
open Go.RowKit
structure NumS (w:World) (A:Option Addr) (n:Nat) (l:List Int):Prop where
 len:l.length=n
 at_:0<n→∃ b off,A=some ⟨b,off,none⟩∧b<w.heap.size∧∀ (i:Nat) x,l[i]?=some x→w.cell? ⟨b,off+i,none⟩=some (.int .i64 x)
theorem NumS.below {w w':World} {A:Option Addr} {n:Nat} {l:List Int} (h:NumS w A n l) (hb:Below w.heap.size w w'):NumS w' A n l:=
 ⟨h.len,fun hn=>by
  obtain⟨b,off,e,hlt,hc⟩:=h.at_ hn
  exact⟨b,off,e,Nat.lt_of_lt_of_le hlt hb.size,fun i x hx=>(hb.cell (p:=⟨b,off+i,none⟩) hlt).trans (hc i x hx)⟩⟩
theorem NumS.get {w:World} {A:Option Addr} {n i:Nat} {l:List Int} (h:NumS w A n l) (hi:i<n):
  ∃ b off x,A=some ⟨b,off,none⟩∧l[i]?=some x∧x∈l∧l.drop i=x::l.drop (i+1)∧∀ W,Below w.heap.size w W→b<W.heap.size∧W.cell? ⟨b,off+i,none⟩=some (.int .i64 x):=by
 obtain⟨b,off,e,hlt,hc⟩:=h.at_ (by omega)
 have hi':i<l.length:=by rw[h.len];exact hi
 exact⟨b,off,l[i],e,List.getElem?_eq_getElem hi',List.getElem_mem hi',List.drop_eq_getElem_cons hi',fun W hW=>⟨Nat.lt_of_lt_of_le hlt hW.size,(hW.cell (p:=⟨b,off+i,none⟩) hlt).trans (hc i _ (List.getElem?_eq_getElem hi'))⟩⟩
theorem NumS.nil (w:World) (A:Option Addr):NumS w A 0 []:=⟨rfl,fun h=>absurd h (by decide)⟩
theorem infoJ:(Tryz.prog.info? 3).map (fun i=>(i.zero,i.size,i.bytes))=some (some (.int .i64 0),1,8):=by kernel_rfl
def OwnN (w:World) (B:Nat) (A:Option Addr) (c:Nat) (l:List Int):Prop:=w.ownsRow B 3 1 (.slice A l.length c) l.length (i64s l)
theorem OwnN.nil (w:World) (B:Nat):OwnN w B none 0 []:=World.ownsRow_nil _ _ _ _
theorem OwnN.kept {w w':World} {B:Nat} {A:Option Addr} {c:Nat} {l:List Int} (h:OwnN w B A c l) (hb:Below w.heap.size w w'):OwnN w' B A c l:=(Turn.of_below (F:=fun _=>False) hb).own h (fun _ _=>id)
theorem OwnN.lt {w:World} {B:Nat} {A:Option Addr} {c n:Nat} {l:List Int} (h:OwnN w B A c l) (hn:l.length=n) {q:Nat} (hq:(Value.slice A n c).ownBlock=some q):B≤q∧q<w.heap.size:=by
 subst hn
 exact World.ownsRow.lt h q hq
theorem OwnN.nums {w:World} {B:Nat} {A:Option Addr} {c n:Nat} {l:List Int} (h:OwnN w B A c l) (hn:l.length=n):NumS w A n l:=by
 subst hn
 refine⟨rfl,fun h0=>?_⟩
 rcases h.2 with⟨e,h1⟩|⟨g,cap,cur,e,_,hg,_⟩
 ·omega
 ·injection e with e1 _ _
  subst e1
  refine⟨g,0,rfl,(Array.getElem?_eq_some_iff.1 hg).1,fun i x hx=>?_⟩
  have:=World.ownsRow.cells (g:=g) h rfl i (.int .i64 x) (by rw[List.getElem?_map,hx];rfl)
  rwa [addr_add] at this
theorem appendN (w:World) {ops:Array Oper} {rest:List Oper} {o:Oper} {a:Act} {Q:Exit→Act→World→Prop} (hgd:o.guard=none) (s x:Operand)
  (ho:o.op=.call { callee:=.builtin .append,args:=#[s,x],argTypes:=#[44,44] }) (B:Nat) (A:Option Addr) (c:Nat) (l:List Int) (n:Nat) (hn:l.length=n) (z:Int)
  (hs:a.eval s=.slice A n c) (hown:OwnN w B A c l) (hx:a.eval x=.slice (some ⟨w.heap.size,0,none⟩) 1 1) (hl:n≤1000000000) (hB:B≤w.heap.size)
  (h:∀ A' c' w',OwnN w' B A' c' (l++[z])→w.grownBy w' (Value.slice A n c).ownBlock→wpList Tryz.prog ops Q rest (a.put o.dst (.slice A' (n+1) c')) w'):
  wpList Tryz.prog ops Q (o::rest) a (w.alloc (.cells #[.int .i64 z] 3)):=by
 subst hn
 obtain⟨i0,hi,hz0,hz1,hz2⟩:=info_parts infoJ
 refine append_row _ hgd s x 44 ho B 3 i0 (.int .i64 0) 8 Tryz.underlying44 hi hz0 hz1 hz2 rfl _ l.length (i64s l) hs (World.ownsRow.alloc hown _) ⟨w.heap.size,0,none⟩ 1 1 [.int .i64 z] hx rfl (cell_one_new _ _ _) (fun u hu=>by simp at hu;subst hu;rfl) (by unfold maxLen;omega) (by omega) (by simp;omega) ?_
 intro A' c' w' o' g' _
 refine h A' c' w' ?_ ?_
 ·unfold OwnN
  have e:i64s l++[.int .i64 z]=i64s (l++[z]):=by simp
  rw[e] at o'
  rw[List.length_append]
  exact o'
 ·refine⟨g'.os,g'.tape,g'.output,Nat.le_trans (by simp) g'.size,fun k hk hne=>(g'.block k (by simp;omega) hne).trans (Below.heap_alloc w _ k hk)⟩
structure RunS (w:World) (A:Option Addr) (n:Nat) (l:List (Int×Int)):Prop where
 len:l.length=n
 at_:0<n→∃ b off,A=some ⟨b,off,none⟩∧b<w.heap.size∧∀ (i:Nat) x,l[i]?=some x→w.cell? ⟨b,off+i*2,none⟩=some (.int .i64 x.1)∧w.cell? ⟨b,off+i*2+1,none⟩=some (.int .i64 x.2)
theorem RunS.below {w w':World} {A:Option Addr} {n:Nat} {l:List (Int×Int)} (h:RunS w A n l) (hb:Below w.heap.size w w'):RunS w' A n l:=
 ⟨h.len,fun hn=>by
  obtain⟨b,off,e,hlt,hc⟩:=h.at_ hn
  exact⟨b,off,e,Nat.lt_of_lt_of_le hlt hb.size,fun i x hx=>⟨(hb.cell (p:=⟨b,off+i*2,none⟩) hlt).trans (hc i x hx).1,(hb.cell (p:=⟨b,off+i*2+1,none⟩) hlt).trans (hc i x hx).2⟩⟩⟩
theorem RunS.get {w:World} {A:Option Addr} {n i:Nat} {l:List (Int×Int)} (h:RunS w A n l) (hi:i<n):
  ∃ b off x,A=some ⟨b,off,none⟩∧l[i]?=some x∧x∈l∧l.drop i=x::l.drop (i+1)∧∀ W,Below w.heap.size w W→b<W.heap.size∧W.cell? ⟨b,off+i*2,none⟩=some (.int .i64 x.1)∧W.cell? ⟨b,off+i*2+1,none⟩=some (.int .i64 x.2):=by
 obtain⟨b,off,e,hlt,hc⟩:=h.at_ (by omega)
 have hi':i<l.length:=by rw[h.len];exact hi
 have hg:=List.getElem?_eq_getElem hi'
 exact⟨b,off,l[i],e,hg,List.getElem_mem hi',List.drop_eq_getElem_cons hi',fun W hW=>⟨Nat.lt_of_lt_of_le hlt hW.size,(hW.cell (p:=⟨b,off+i*2,none⟩) hlt).trans (hc i _ hg).1,(hW.cell (p:=⟨b,off+i*2+1,none⟩) hlt).trans (hc i _ hg).2⟩⟩
theorem RunS.nil (w:World) (A:Option Addr):RunS w A 0 []:=⟨rfl,fun h=>absurd h (by decide)⟩
end Go.Proofs.YtcgaeknikfaghaaGreatDoor
namespace Go.Proofs.YtcgaeknikfaghaaGreatDoor
open Go.RowKit
theorem Lt.cut_bytes (s:ByteArray) (a b:Nat) (hb:b≤s.size) (ha:a≤b):(s.extract a b).data.toList=(s.data.toList.drop a).take (b-a)∧(s.extract a b).size=b-a:=by
 have hsz:(s.extract a b).size=b-a:=by rw[ByteArray.size_extract];omega
 refine⟨?_,hsz⟩
 rw[ByteArray.data_extract,Array.toList_extract]
theorem Lt.slice_both (s:ByteArray) (a b:Nat) (hb:b≤s.size) (ha:a≤b) (w:World):(Instr.slice 9 (.string s) (some (.int .i64 (a:Int))) (some (.int .i64 (b:Int))) none).run Tryz.prog w=.ok (.string (s.extract a b)) w:=by
 rw[run_slice_string_if _ _ _ _ _ _ _ Tryz.underlying9,if_pos (by omega),if_pos (by omega)]
 rfl
end Go.Proofs.YtcgaeknikfaghaaGreatDoor
namespace Go.Proofs.YtcgaeknikfaghaaGreatDoor
open Go.RowKit
def PtsSaid (w:World) (L:List Int) (e:Ending) (w':World):Prop:=(∃ A c,e=.returned (.slice A L.length c)∧OwnN w' w.heap.size A c L)∧Below w.heap.size w w'
theorem PtsSaid.mk {w w':World} {L l:List Int} {A:Option Addr} {c n:Nat} (hn:l.length=n) (hl:L=l) (h:OwnN w' w.heap.size A c l) (hb:Below w.heap.size w w'):PtsSaid w L (.returned (.slice A n c)) w':=by
 subst hl
 exact⟨⟨A,c,by rw[hn],h⟩,hb⟩
end Go.Proofs.YtcgaeknikfaghaaGreatDoor
namespace Go.Proofs.YtcgaeknikfaghaaGreatDoor
open Go.RowKit
section
variable {P : Program} {C : World → Prop}
theorem calm_region {id:Nat} {Q:Exit→Act→World→Prop} {a:Act} {w:World} {l:List Oper} (hm:P.follows .mixedOrders=true) (hB:Region.lexB .any l.toArray=true) (hC:C w.drew)
  (h:wpQuiet P l.toArray C (fun a'=>∀ w',C w'→Q .normal a' w') l a):(Code.region id l.toArray true).wp P Q a w:=
 wp_region_quiet hm hB hC (by simpa using h)
variable {ops : Array Oper} {md : Region.Mode}
end
structure Lat (w:World):Type where
 at_:World
 ok:Below w.heap.size w at_
instance latIn (w:World):Nonempty (Lat w):=⟨⟨w,Below.refl _ _⟩⟩
abbrev Latr (w:World):World→Prop:=fun w'=>∃ s:Lat w,w'=s.at_
theorem latr_drew {w w2:World} (h:Below w.heap.size w w2):Latr w w2.drew:=⟨⟨w2.drew,h.trans (show Below w.heap.size w2 w2.drew from⟨rfl,rfl,rfl,Nat.le_refl _,fun _ _=>rfl⟩)⟩,rfl⟩
theorem calm_call {P:Program} {f:FuncId} {args:Array Value} {w:World} {s:Lat w} {v:Value} (h:Calls P f args s.at_ fun e w'=>e=.returned v∧Below s.at_.heap.size s.at_ w'):Calls P f args s.at_ fun e w''=>e=.returned v∧∃ s':Lat w,w''=s'.at_:=
 h.mono fun _ w'' ⟨he,hb⟩=>⟨he,⟨w'',s.ok.trans (hb.mono s.ok.size)⟩,rfl⟩
end Go.Proofs.YtcgaeknikfaghaaGreatDoor
namespace Go.Proofs.YtcgaeknikfaghaaGreatDoor
structure Sx where
 list:Bool
 k:Int
 T:ByteArray
 ta:Int
 at_:Int
 L:List Sx
def Sx.zero:Sx:=⟨false,0,ByteArray.empty,0,0,[]⟩
def Sx.dep:Nat→Sx→Nat
 |0,_=>0
 |m+1,x=>if x.list then(x.L.map (Sx.dep m)).foldl max 0+1 else 0
mutual
def Sx.size:Sx→Nat
 |⟨_,_,_,_,_,L⟩=>Sx.sizes L+1
def Sx.sizes:List Sx→Nat
 |[]=>0
 |x::l=>Sx.size x+Sx.sizes l
end
mutual
def Sx.key (p:Bool):Sx→Sx
 |⟨list,k,T,ta,a,L⟩=>if list then⟨true,0,ByteArray.empty,0,if p then a else 0,Sx.keys p L⟩ else⟨false,k,T,if p then ta else 0,if p then a else 0,L.map fun _=>Sx.zero⟩
def Sx.keys (p:Bool):List Sx→List Sx
 |[]=>[]
 |x::l=>Sx.key p x::Sx.keys p l
end
theorem Sx.sizes_app:∀ l m:List Sx,Sx.sizes (l++m)=Sx.sizes l+Sx.sizes m
 |[],m=>by simp[Sx.sizes]
 |x::l,m=>by rw[List.cons_append,Sx.sizes,Sx.sizes,Sx.sizes_app l m];omega
theorem Sx.size_eq (x:Sx):x.size=Sx.sizes x.L+1:=by cases x;rw[Sx.size]
theorem Sx.sizes_get {l:List Sx} {i:Nat} {x:Sx} (h:l[i]?=some x):x.size+Sx.sizes (l.drop (i+1))=Sx.sizes (l.drop i):=by
 obtain⟨hi,rfl⟩:=List.getElem?_eq_some_iff.1 h
 rw[List.drop_eq_getElem_cons hi,Sx.sizes]
theorem Sx.sizes_le {l:List Sx} {x:Sx} (h:x∈l):x.size≤Sx.sizes l:=by
 obtain⟨a,b,rfl⟩:=List.append_of_mem h
 rw[Sx.sizes_app,Sx.sizes]
 omega
theorem Sx.size_lt {x y:Sx} (h:y∈x.L):y.size<x.size:=by
 have:=Sx.sizes_le h
 rw[x.size_eq]
 omega
theorem Sx.size_pos (x:Sx):0<x.size:=by rw[x.size_eq];omega
theorem Sx.sizes_length (l:List Sx):l.length≤Sx.sizes l:=by
 induction l with
 |nil=>simp
 |cons x l ih=>have:=x.size_pos;rw[Sx.sizes,List.length_cons];omega
theorem Sx.keys_map (p:Bool) (l:List Sx):Sx.keys p l=l.map (Sx.key p):=by
 induction l with
 |nil=>rfl
 |cons x l ih=>rw[Sx.keys,List.map_cons,ih]
theorem Sx.key_list {p:Bool} {x:Sx} (h:x.list=true):x.key p=⟨true,0,ByteArray.empty,0,if p then x.at_ else 0,x.L.map (Sx.key p)⟩:=by
 cases x
 subst h
 rw[Sx.key,if_pos rfl,Sx.keys_map]
theorem Sx.key_atom {p:Bool} {x:Sx} (h:x.list=false):x.key p=⟨false,x.k,x.T,if p then x.ta else 0,if p then x.at_ else 0,x.L.map fun _=>Sx.zero⟩:=by
 cases x
 subst h
 rw[Sx.key,if_neg (by decide)]
theorem foldl_max (l:List Nat):∀ a:Nat,l.foldl max a=max a (l.foldl max 0):=by
 induction l with
 |nil=>intro a;simp
 |cons x l ih=>intro a;rw[List.foldl_cons,List.foldl_cons,ih,ih (max 0 x)];omega
theorem Sx.dep_le:∀ (m:Nat) (x:Sx),Sx.dep m x≤m
 |0,x=>Nat.le_refl _
 |m+1,x=>by
  rw[Sx.dep]
  split
  ·have:∀ (l:List Sx),(l.map (Sx.dep m)).foldl max 0≤m:=by
    intro l
    induction l with
    |nil=>simp
    |cons y l ih=>
     rw[List.map_cons,List.foldl_cons,foldl_max]
     have:=Sx.dep_le m y
     omega
   exact Nat.succ_le_succ (this _)
  ·omega
end Go.Proofs.YtcgaeknikfaghaaGreatDoor
