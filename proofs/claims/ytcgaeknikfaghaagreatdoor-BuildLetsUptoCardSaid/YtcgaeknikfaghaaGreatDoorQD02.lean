/- What the proofs of this claim use, text by text. -/
import Derived.Test.YtcgaeknikfaghaaGreatDoorQD01
set_option linter.unusedSimpArgs false
set_option linter.unusedVariables false
set_option maxRecDepth 100000
set_option maxHeartbeats 25600000
namespace Go.Proofs.YtcgaeknikfaghaaGreatDoor
open Go.RowKit
abbrev rcells (l:List (Int×Int)):List Value:=l.flatMap fun x=>[.int .i64 x.1,.int .i64 x.2]
theorem rs_length (l:List (Int×Int)):(rcells l).length=l.length*2:=by
 induction l with
 |nil=>rfl
 |cons x l ih=>rw[rcells,List.flatMap_cons,List.length_append,←rcells,ih,List.length_cons];simp;omega
theorem rs_app (l m:List (Int×Int)):rcells (l++m)=rcells l++rcells m:=by simp[rcells]
theorem infoR7:(Tryz.prog.info? 144).map (fun i=>(i.zero,i.size,i.bytes))=some (some (.agg #[.int .i64 0,.int .i64 0]),2,16):=by kernel_rfl
theorem rs_get:∀ (l:List (Int×Int)) (i:Nat) (x:Int×Int),l[i]?=some x→(rcells l)[i*2]?=some (.int .i64 x.1)∧(rcells l)[i*2+1]?=some (.int .i64 x.2)
 |[],i,x,h=>by simp at h
 |y::l,0,x,h=>by
  obtain rfl:y=x:=by simpa using h
  exact⟨rfl,rfl⟩
 |y::l,i+1,x,h=>by
  obtain⟨h1,h2⟩:=rs_get l i x (by simpa using h)
  rw[rcells,List.flatMap_cons,show(i+1)*2=i*2+2 by omega]
  exact⟨h1,h2⟩
theorem rs_one (l:List (Int×Int)):∀ u∈rcells l,u.oneCell'=true:=by
 intro u hu
 obtain⟨x,_,hu⟩:=List.mem_flatMap.1 hu
 simp at hu
 rcases hu with rfl|rfl <;> rfl
def OwnR (w:World) (B:Nat) (A:Option Addr) (c:Nat) (l:List (Int×Int)):Prop:=w.ownsRow B 144 2 (.slice A l.length c) l.length (rcells l)
theorem OwnR.nil (w:World) (B:Nat):OwnR w B none 0 []:=World.ownsRow_nil _ _ _ _
theorem OwnR.lt {w:World} {B:Nat} {A:Option Addr} {c n:Nat} {l:List (Int×Int)} (h:OwnR w B A c l) (hn:l.length=n) {q:Nat} (hq:(Value.slice A n c).ownBlock=some q):B≤q∧q<w.heap.size:=by
 subst hn
 exact World.ownsRow.lt h q hq
theorem OwnR.runs {w:World} {B:Nat} {A:Option Addr} {c n:Nat} {l:List (Int×Int)} (h:OwnR w B A c l) (hn:l.length=n):RunS w A n l:=by
 subst hn
 refine⟨rfl,fun h0=>?_⟩
 rcases h.2 with⟨e,h1⟩|⟨g,cap,cur,e,_,hg,_⟩
 ·omega
 ·injection e with e1 _ _
  subst e1
  refine⟨g,0,rfl,(Array.getElem?_eq_some_iff.1 hg).1,fun i x hx=>?_⟩
  obtain⟨k1,k2⟩:=rs_get l i x hx
  have r1:=World.ownsRow.cells (g:=g) h rfl _ _ k1
  have r2:=World.ownsRow.cells (g:=g) h rfl _ _ k2
  rw[addr_add] at r1 r2
  exact⟨r1,r2⟩
theorem cell_two_new (w:World) (x0 x1:Value) (t:TypeId):∀ j u,[x0,x1][j]?=some u→(w.alloc (.cells #[x0,x1] t)).cell? ((⟨w.heap.size,0,none⟩:Addr).add j)=some u:=by
 intro j u hu
 have l:=Lies.new w t #[x0,x1]
 rw[addr_add,Nat.zero_add,l.cell j,←hu]
 simp
theorem run_appendR (w:World) (ty:TypeId) (B:Nat) (A:Option Addr) (c:Nat) (l:List (Int×Int)) (n:Nat) (hn:l.length=n) (d:Int×Int) (g:Nat) (hg:w.heap.size=g) (hown:OwnR w B A c l) (hl:n≤1000000) (hB:B≤w.heap.size):
  ∃ A' c' w',(Builtin.append_ #[48,48] ty #[.slice A n c,.slice (some ⟨g,0,none⟩) 1 1]).run Tryz.prog (w.alloc (.cells #[.int .i64 d.1,.int .i64 d.2] 144))=.ok (.slice A' (n+1) c') w'∧OwnR w' B A' c' (l++[d])∧w.grownBy w' (Value.slice A n c).ownBlock:=by
 subst hn
 subst hg
 obtain⟨i0,hi,hz0,hz1,hz2⟩:=info_parts infoR7
 obtain⟨v',w',hr,q1,q2,_,_⟩:=run_append_own_at (P:=Tryz.prog) (w.alloc (.cells #[.int .i64 d.1,.int .i64 d.2] 144)) B 48 ty 144 i0 (.agg #[.int .i64 0,.int .i64 0]) 2 16 Tryz.underlying48 hi hz0 hz1 hz2 rfl (by decide) (.slice A l.length c) l.length (rcells l)
  (World.ownsRow.alloc hown _) ⟨w.heap.size,0,none⟩ 1 1 [.int .i64 d.1,.int .i64 d.2] rfl (cell_two_new _ _ _ _) (fun u hu=>rs_one [d] u (by simpa [rcells] using hu)) (by unfold maxLen;omega) (by omega) (by simp;omega)
 obtain⟨A',c',rfl⟩:=own_form q1
 refine⟨A',c',w',hr,?_,⟨q2.os,q2.tape,q2.output,Nat.le_trans (by simp) q2.size,fun k hk hne=>(q2.block k (by simp;omega) hne).trans (Below.heap_alloc w _ k hk)⟩⟩
 have e:rcells l++[.int .i64 d.1,.int .i64 d.2]=rcells (l++[d]):=by simp[rcells]
 rw[e] at q1
 unfold OwnR
 rw[List.length_append]
 exact q1
theorem appendR (w:World) {ops:Array Oper} {rest:List Oper} {o:Oper} {a:Act} {Q:Exit→Act→World→Prop} (hgd:o.guard=none) (s x:Operand)
  (ho:o.op=.call { callee:=.builtin .append,args:=#[s,x],argTypes:=#[48,48] }) (B:Nat) (A:Option Addr) (c:Nat) (l:List (Int×Int)) (n:Nat) (hn:l.length=n) (d1 d2:Int) (g:Nat) (hg:w.heap.size=g)
  (hs:a.eval s=.slice A n c) (hown:OwnR w B A c l) (hx:a.eval x=.slice (some ⟨g,0,none⟩) 1 1) (hl:n≤1000000) (hB:B≤w.heap.size)
  (h:∀ A' c' w',OwnR w' B A' c' (l++[(d1,d2)])→w.grownBy w' (Value.slice A n c).ownBlock→wpList Tryz.prog ops Q rest (a.put o.dst (.slice A' (n+1) c')) w'):
  wpList Tryz.prog ops Q (o::rest) a (w.alloc (.cells #[.int .i64 d1,.int .i64 d2] 144)):=by
 refine wpList_plain hgd fun K hK=>?_
 obtain⟨A',c',w',hr,h2,h3⟩:=run_appendR w o.type B A c l n hn (d1,d2) g hg hown hl hB
 unfold Oper.wp execOp
 simp only[ho,resolve,invoke,builtin,Sem.run_bind,Sem.run_pure,Result.andThen_ok,List.map_toArray,List.map_cons,List.map_nil,hs,hx,hr]
 exact hK _ _ (h A' c' w' h2 h3)
theorem OwnR.last {w:World} {B:Nat} {A:Option Addr} {c n:Nat} {S:List (Int×Int)} {y k:Int} (hn:S.length=n) (h:OwnR w B A c (S++[(y,k)])):
  ∃ g,A=some ⟨g,0,none⟩∧B≤g∧g<w.heap.size∧w.cell? ⟨g,n*2,none⟩=some (.int .i64 y)∧w.cell? ⟨g,n*2+1,none⟩=some (.int .i64 k)∧w.frozen? ⟨g,n*2+1,none⟩=false∧n+1≤c∧
   ∀ k',OwnR (w.setCell ⟨g,n*2+1,none⟩ (.int .i64 k')) B A c (S++[(y,k')])∧w.grownBy (w.setCell ⟨g,n*2+1,none⟩ (.int .i64 k')) (some g):=by
 subst hn
 have hlen:(S++[(y,k)]).length=S.length+1:=by simp
 have h':w.ownsRow B 144 2 (.slice A (S.length+1) c) (S.length+1) (rcells (S++[(y,k)])):=by rw[←hlen];exact h
 have hr:=h.runs (n:=S.length+1) hlen
 rcases h'.2 with⟨_,h1⟩|⟨g,cap,cur,e,hB,hg,hnc,_⟩
 ·omega
 ·injection e with e1 _ e3
  subst e1
  obtain⟨b,off,e2,hlt,hc⟩:=hr.at_ (by omega)
  injection e2 with e2
  injection e2 with e4 e5
  subst e4
  subst e5
  have:=hc S.length (y,k) (by simp)
  rw[Nat.zero_add] at this
  refine⟨g,rfl,hB,hlt,this.1,this.2,World.ownsRow.frozenAt h' _,by omega,fun k'=>?_⟩
  obtain⟨s1,s2⟩:=World.ownsRow.stored h' (S.length*2+1) (.int .i64 k')
  refine⟨?_,s2⟩
  have e:(rcells (S++[(y,k)])).set (S.length*2+1) (.int .i64 k')=rcells (S++[(y,k')]):=by
   rw[rs_app,rs_app,List.set_append_right _ _ (by rw[rs_length];omega),rs_length]
   simp[rcells]
  rw[e] at s1
  have hlen':(S++[(y,k')]).length=S.length+1:=by simp
  unfold OwnR
  rw[hlen']
  exact s1
def RunsSaid (w:World) (x:Int×List (Int×Int)) (e:Ending) (w':World):Prop:=(∃ A c,e=.returned (.tuple #[.slice A x.2.length c,.int .i64 x.1])∧OwnR w' w.heap.size A c x.2)∧Below w.heap.size w w'
theorem RunsSaid.good {w w':World} {l:List Int} {R:List (Int×Int)} {A:Option Addr} {c m:Nat} (h:l.all Lt.pt=true) (hR:R=Lt.runs l) (hm:R.length=m) (ho:OwnR w' w.heap.size A c R) (hb:Below w.heap.size w w'):RunsSaid w (Lt.runsOf l) (.returned (.tuple #[.slice A m c,.int .i64 0])) w':=by
 subst hm
 subst hR
 refine⟨⟨A,c,?_,?_⟩,hb⟩
 ·rw[Lt.runsOf,if_pos h]
 ·rw[Lt.runsOf,if_pos h]
  exact ho
theorem RunsSaid.bad {w w':World} {l:List Int} (h:l.all Lt.pt=false) (hb:Below w.heap.size w w'):RunsSaid w (Lt.runsOf l) (.returned (.tuple #[.slice none 0 0,.int .i64 1])) w':=by
 refine⟨⟨none,0,?_,?_⟩,hb⟩
 ·rw[Lt.runsOf,if_neg (by rw[h];decide)]
  rfl
 ·rw[Lt.runsOf,if_neg (by rw[h];decide)]
  exact OwnR.nil _ _
theorem Lt.total_le {R:List (Int×Int)} {x:Int×Int} (hx:x∈R) (h:∀ y∈R,1≤y.2):x.2≤Lt.total R:=by
 induction R with
 |nil=>cases hx
 |cons y R ih=>
  have h1:=h y List.mem_cons_self
  have h2:0≤Lt.total R:=Lt.total_pos fun z hz=>by have:=h z (List.mem_cons_of_mem _ hz);omega
  rw[Lt.total]
  rcases List.mem_cons.1 hx with rfl|hx
  ·omega
  ·have:=ih hx fun z hz=>h z (List.mem_cons_of_mem _ hz)
   omega
theorem Lt.runs_last {l:List Int} {i:Nat} {y:Int} (h:l[i]?=some y):∃ (S:List (Int×Int)) (k:Int),Lt.runs (l.take (i+1))=S++[(y,k)]∧S.length≤i∧1≤k∧k≤i+1:=by
 have hr:=Lt.runs_of (l.take (i+1))
 have hl:(l.take (i+1)).length=i+1:=by
  have:=(List.getElem?_eq_some_iff.1 h).1
  rw[List.length_take]
  omega
 have hla:=hr.last
 rw[take_one h,List.getLast?_concat,←take_one h] at hla
 obtain⟨x,hx,hxy⟩:=Option.map_eq_some_iff.1 hla
 obtain⟨S,hS⟩:=List.getLast?_eq_some_iff.1 hx
 obtain⟨x1,x2⟩:=x
 obtain rfl:x1=y:=hxy
 have hmem:(x1,x2)∈Lt.runs (l.take (i+1)):=by rw[hS];simp
 have hp:=hr.pos _ hmem
 have ht:=Lt.total_le hmem fun z hz=>(hr.pos z hz).1
 have hlen:=hr.len
 rw[hS,List.length_append,hl] at hlen
 rw[hr.sum,hl] at ht
 exact⟨S,x2,hS,by simp at hlen;omega,hp.1,by simp only at ht;omega⟩
end Go.Proofs.YtcgaeknikfaghaaGreatDoor
namespace Go.Proofs.YtcgaeknikfaghaaGreatDoor
open Go.RowKit
noncomputable def Tx.mayB (R:List (Int×Int)):Bool:=@decide (Tx.May R) (Classical.propDecidable _)
theorem Tx.mayB_true {R:List (Int×Int)} (h:Tx.May R):Tx.mayB R=true:=@decide_eq_true _ (Classical.propDecidable _) h
theorem Tx.mayB_false {R:List (Int×Int)} (h:¬Tx.May R):Tx.mayB R=false:=@decide_eq_false _ (Classical.propDecidable _) h
theorem Tx.Own.take {R:List (Int×Int)} (h:Tx.Own R) (i:Nat):Tx.Own (R.take i):=
 ⟨fun x hx=>h.pos x (List.mem_of_mem_take hx),fun j x y h1 h2=>by
  rw[List.getElem?_take] at h1 h2
  split at h1
  ·split at h2
   ·exact h.adj j x y h1 h2
   ·cases h2
  ·cases h1⟩
theorem Tx.Own.nil:Tx.Own []:=⟨fun _ h=>absurd h List.not_mem_nil,fun i x y h=>by simp at h⟩
theorem Tx.Own.snoc {R:List (Int×Int)} {i:Nat} {x:Int×Int} (hx:R[i]?=some x) (h:Tx.Own (R.take i)) (hp:Lt.pt x.1=true) (hn:1≤x.2) (ha:∀ j y,i=j+1→R[j]?=some y→y.1≠x.1):Tx.Own (R.take (i+1)):=by
 have hl:=(List.getElem?_eq_some_iff.1 hx).1
 refine⟨fun y hy=>?_,fun j y z h1 h2=>?_⟩
 ·rw[take_one hx] at hy
  rcases List.mem_append.1 hy with hy|hy
  ·exact h.pos y hy
  ·rw[List.mem_singleton.1 hy]
   exact⟨hp,hn⟩
 ·have hj:j+1<i+1:=by
   have:=(List.getElem?_eq_some_iff.1 h2).1
   rw[List.length_take] at this
   omega
  rw[List.getElem?_take,if_pos (by omega)] at h1 h2
  by_cases hji:j+1=i
  ·subst hji
   obtain rfl:=Option.some.inj (hx.symm.trans h2)
   exact ha j y rfl h1
  ·exact h.adj j y z (by rw[List.getElem?_take,if_pos (by omega)];exact h1) (by rw[List.getElem?_take,if_pos (by omega)];exact h2)
theorem Tx.take_tot {R:List (Int×Int)} {i:Nat} {x:Int×Int} (h:R[i]?=some x):Lt.total (R.take (i+1))=Lt.total (R.take i)+x.2:=by
 rw[take_one h,Lt.total_app,Lt.total,Lt.total]
 omega
theorem Tx.May.part {R:List (Int×Int)} (h:Tx.May R) (i:Nat):Lt.total (R.take i)≤1099511627776:=by
 have e:Lt.total (R.take i)+Lt.total (R.drop i)=Lt.total R:=by rw[←Lt.total_app,List.take_append_drop]
 have:=Lt.total_pos (R:=R.drop i) fun x hx=>Int.not_lt.2 (h.own.pos x (List.mem_of_mem_drop hx)).2
 have:=h.most
 omega
end Go.Proofs.YtcgaeknikfaghaaGreatDoor
namespace Go.Proofs.YtcgaeknikfaghaaGreatDoor
structure Nd where
 op:Int
 sort:Int
 a:List Int
 name:ByteArray
 num:Nat
 str:List (Int×Int)
open Classical in
noncomputable def Tm.idx (x:Nd):List Nd→Nat
 |[]=>0
 |y::l=>if y=x then 0 else Tm.idx x l+1
theorem Tm.idx_hit {x:Nd}:∀ (l:List Nd) (i:Nat),l[i]?=some x→(∀ j,j<i→l[j]?≠some x)→Tm.idx x l=i
 |[],i,h,_=>by simp at h
 |y::l,0,h,_=>by
  have e:y=x:=by simpa using h
  rw[Tm.idx,if_pos e]
 |y::l,i+1,h,hn=>by
  have e:¬y=x:=fun e=>hn 0 (Nat.succ_pos _) (by simp[e])
  rw[Tm.idx,if_neg e,Tm.idx_hit l i (by simpa using h) fun j hj=>by simpa using hn (j+1) (by omega)]
theorem Tm.idx_mem {x:Nd}:∀ {l:List Nd},x∈l→l[Tm.idx x l]?=some x∧Tm.idx x l<l.length
 |[],h=>by cases h
 |y::l,h=>by
  rw[Tm.idx]
  split
  ·rename_i e
   subst e
   simp
  ·rename_i e
   have:=Tm.idx_mem ((List.mem_cons.1 h).resolve_left fun e2=>e e2.symm)
   simpa using this
theorem Tm.idx_app {x:Nd}:∀ {l:List Nd} (m:List Nd),x∈l→Tm.idx x (l++m)=Tm.idx x l
 |[],_,h=>by cases h
 |y::l,m,h=>by
  rw[List.cons_append,Tm.idx,Tm.idx]
  split
  ·rfl
  ·rename_i e
   rw[Tm.idx_app m ((List.mem_cons.1 h).resolve_left fun e2=>e e2.symm)]
theorem Tm.idx_new {x:Nd}:∀ {l:List Nd},x∉l→Tm.idx x (l++[x])=l.length
 |[],_=>by simp[Tm.idx]
 |y::l,h=>by
  rw[List.cons_append,Tm.idx,if_neg fun e=>h (by simp[e]),Tm.idx_new fun e=>h (List.mem_cons_of_mem _ e)]
  rfl
noncomputable def Tm.has (l:List Nd) (x:Nd):Bool:=@decide (x∈l) (Classical.propDecidable _)
theorem Tm.has_iff {l:List Nd} {x:Nd}:Tm.has l x=true↔x∈l:=by unfold Tm.has;exact @decide_eq_true_iff _ (Classical.propDecidable _)
noncomputable def Tm.add (l:List Nd) (x:Nd):List Nd×Int×Int:=
 if Tm.has l x=true then(l,((Tm.idx x l:Nat):Int),0) else if 20000≤l.length then(l,0,2) else(l++[x],(l.length:Int),0)
theorem Tm.add_hit {l:List Nd} {x:Nd} {i:Nat} (h:l[i]?=some x) (hn:∀ j,j<i→l[j]?≠some x):Tm.add l x=(l,(i:Int),0):=by
 rw[Tm.add,if_pos (Tm.has_iff.2 (List.mem_of_getElem? h)),Tm.idx_hit l i h hn]
theorem Tm.add_full {l:List Nd} {x:Nd} (h:x∉l) (hl:20000≤l.length):Tm.add l x=(l,0,2):=by
 rw[Tm.add,if_neg fun e=>h (Tm.has_iff.1 e),if_pos hl]
theorem Tm.add_new {l:List Nd} {x:Nd} (h:x∉l) (hl:l.length<20000):Tm.add l x=(l++[x],(l.length:Int),0):=by
 rw[Tm.add,if_neg fun e=>h (Tm.has_iff.1 e),if_neg (by omega)]
theorem Tm.add_ways (l:List Nd) (x:Nd):(x∈l∧Tm.add l x=(l,((Tm.idx x l:Nat):Int),0))∨(x∉l∧20000≤l.length∧Tm.add l x=(l,0,2))∨(x∉l∧l.length<20000∧Tm.add l x=(l++[x],(l.length:Int),0)):=by
 by_cases h:x∈l
 ·exact .inl ⟨h,by rw[Tm.add,if_pos (Tm.has_iff.2 h)]⟩
 ·rcases Nat.lt_or_ge l.length 20000 with e|e
  ·exact .inr (.inr ⟨h,e,Tm.add_new h e⟩)
  ·exact .inr (.inl ⟨h,e,Tm.add_full h e⟩)
def Tm.asks (op:Int):Option (List Nat×Bool×Nat):=
 if op=6 then some ([66],false,66) else if 7≤op∧op≤10 then some ([66,66],true,66) else if op=11∨op=12 then some ([97,61],true,66)
 else if op=13 then some ([66,97,61],false,61) else if op=14 then some ([73],false,73) else if 15≤op∧op≤17 then some ([73,73],true,73)
 else if 18≤op∧op≤21 then some ([73,73],true,66) else if op=22 then some ([83,83],true,83) else if op=23 then some ([83],false,73)
 else if op=24 then some ([83,73],false,83) else if op=25 then some ([83,73,73],false,83) else if 26≤op∧op≤28 then some ([83,83],false,66)
 else if op=29 then some ([83,83,73],false,73) else if op=30 then some ([83,83,83],false,83) else none
def Tm.letter (s:Int):Nat:=if s=1 then 66 else if s=2 then 73 else 83
def Tm.sortOf (c:Nat):Int:=if c=66 then 1 else if c=73 then 2 else 3
theorem Tm.sort_letter {s:Int} (h1:1≤s) (h3:s≤3):Tm.sortOf (Tm.letter s)=s:=by
 unfold Tm.sortOf Tm.letter
 have:s=1∨s=2∨s=3:=by omega
 rcases this with rfl|rfl|rfl <;> decide
theorem Tm.letter_inj {s t:Int} (h1:1≤s) (h3:s≤3) (k1:1≤t) (k3:t≤3):Tm.letter s=Tm.letter t↔s=t:=
 ⟨fun e=>by rw[←Tm.sort_letter h1 h3,e,Tm.sort_letter k1 k3],fun e=>by rw[e]⟩
def Tm.want (w:List Nat) (i:Nat):Nat:=w.getD (if i<w.length then i else w.length-1) 0
def Tm.okOne (q last c:Nat):Bool:=!((decide (q≠97)&&decide (q≠61)&&decide (c≠q))||(decide (q=61)&&decide (c≠last)))
def Tm.oks (w:List Nat):Nat→Nat→List Nat→Bool
 |_,_,[]=>true
 |i,last,c::cs=>Tm.okOne (Tm.want w i) last c&&Tm.oks w (i+1) c cs
def Tm.opAt (l:List Nd) (p:Int):Int:=(l[p.toNat]?.map (·.op)).getD 0
def Tm.letAt (l:List Nd) (p:Int):Nat:=Tm.letter ((l[p.toNat]?.map (·.sort)).getD 0)
def Tm.isNum (l:List Nd) (p:Int):Bool:=decide (Tm.opAt l p=4)||(decide (Tm.opAt l p=14)&&decide (Tm.opAt l (((l[p.toNat]?.map (·.a)).getD []).headD 0)=4))
def Tm.free (l:List Nd) (a:List Int):Nat:=(a.filter fun p=> !Tm.isNum l p).length
theorem Tm.free_app (l:List Nd) (a:List Int) (p:Int):Tm.free l (a++[p])=Tm.free l a+if Tm.isNum l p=true then 0 else 1:=by
 unfold Tm.free
 rw[List.filter_append,List.length_append]
 cases h:Tm.isNum l p <;> simp[h]
def Tm.allIn (l:List Nd) (a:List Int):Bool:=a.all fun p=>decide (0≤p∧p<l.length)
def Tm.own (own:Nat) (cs:List Nat):Int:=Tm.sortOf (if own=61 then cs.getLast?.getD 63 else own)
def Tm.node (op:Int) (own:Nat) (l:List Nd) (a:List Int):Nd:=⟨op,Tm.own own (a.map (Tm.letAt l)),a,ByteArray.empty,0,[]⟩
noncomputable def Tm.app (l:List Nd) (op:Int) (a:List Int):List Nd×Int×Int:=
 match Tm.asks op with
 |none=>(l,0,101)
 |some (w,more,own)=>
  if a.length<w.length∨(w.length<a.length∧more=false)∨200<a.length then(l,0,1)
  else if Tm.allIn l a=false then(l,0,1)
  else if Tm.oks w 0 63 (a.map (Tm.letAt l))=false then(l,0,90)
  else if op=17∧1<Tm.free l a then(l,0,101)
  else Tm.add l (Tm.node op own l a)
noncomputable def Tm.const (l:List Nd) (s:ByteArray) (sort:Int):List Nd×Int×Int:=
 if sort<1∨3<sort∨16384<s.size then(l,0,1) else Tm.add l ⟨1,sort,[],s,0,[]⟩
noncomputable def Tm.bool (l:List Nd) (b:Bool):List Nd×Int×Int:=Tm.add l ⟨if b=true then 2 else 3,1,[],ByteArray.empty,0,[]⟩
noncomputable def Tm.num (l:List Nd) (z:Int):List Nd×Int×Int:=if z<0 then(l,0,1) else Tm.add l ⟨4,2,[],ByteArray.empty,z.natAbs,[]⟩
noncomputable def Tm.str (l:List Nd) (t:List (Int×Int)):List Nd×Int×Int:=if Tx.mayB t=true then Tm.add l ⟨5,3,[],ByteArray.empty,0,t⟩ else(l,0,1)
structure Tm.Inv (l:List Nd):Prop where
 sort:∀ x∈l,1≤x.sort∧x.sort≤3
 part:∀ (i:Nat) x,l[i]?=some x→∀ p∈x.a,0≤p∧p<i
 neg:∀ x∈l,x.op=14→x.a≠[]
 once:l.Nodup
theorem Tm.Inv.nil:Tm.Inv []:=⟨fun x h=>(List.not_mem_nil h).elim,fun i x h=>by simp at h,fun x h=>(List.not_mem_nil h).elim,List.nodup_nil⟩
theorem Tm.Inv.snoc {l:List Nd} {x:Nd} (h:Tm.Inv l) (hx:x∉l) (h1:1≤x.sort∧x.sort≤3) (h2:∀ p∈x.a,0≤p∧p<l.length) (h3:x.op=14→x.a≠[]):Tm.Inv (l++[x]):=by
 refine⟨fun y hy=>?_,fun i y hy=>?_,fun y hy=>?_,?_⟩
 ·rcases List.mem_append.1 hy with hy|hy
  ·exact h.sort y hy
  ·rw[List.mem_singleton.1 hy];exact h1
 ·rcases Nat.lt_or_ge i l.length with e|e
  ·rw[List.getElem?_append_left e] at hy
   exact h.part i y hy
  ·rw[List.getElem?_append_right e] at hy
   have hi:i-l.length=0:=by
    have:=(List.getElem?_eq_some_iff.1 hy).1
    simpa using this
   rw[hi] at hy
   obtain rfl:x=y:=by simpa using hy
   intro p hp
   have:=h2 p hp
   omega
 ·rcases List.mem_append.1 hy with hy|hy
  ·exact h.neg y hy
  ·rw[List.mem_singleton.1 hy];exact h3
 ·rw[List.nodup_append]
  exact⟨h.once,by simp,fun a ha b hb e=>hx (by rw[←List.mem_singleton.1 hb,←e];exact ha)⟩
theorem Tm.add_inv {l:List Nd} {x:Nd} (h:Tm.Inv l) (h1:1≤x.sort∧x.sort≤3) (h2:∀ p∈x.a,0≤p∧p<l.length) (h3:x.op=14→x.a≠[]):Tm.Inv (Tm.add l x).1:=by
 rcases Tm.add_ways l x with⟨_,e⟩|⟨_,_,e⟩|⟨hx,_,e⟩
 ·rw[e];exact h
 ·rw[e];exact h
 ·rw[e];exact h.snoc hx h1 h2 h3
theorem Tm.sortOf_ok (c:Nat):1≤Tm.sortOf c∧Tm.sortOf c≤3:=by unfold Tm.sortOf;split <;> (try split) <;> decide
theorem Tm.allIn_spec {l:List Nd} {a:List Int} (h:Tm.allIn l a=true):∀ p∈a,0≤p∧p<l.length:=fun p hp=>of_decide_eq_true (List.all_eq_true.1 h p hp)
theorem Tm.asks_neg {w:List Nat} {more:Bool} {own:Nat} (h:Tm.asks 14=some (w,more,own)):w=[73]:=by
 have:Tm.asks 14=some ([73],false,73):=by decide
 rw[this] at h
 cases h
 rfl
theorem Tm.app_ways (l:List Nd) (op:Int) (a:List Int):(∃ e,e≠0∧Tm.app l op a=(l,0,e))∨
  ∃ w more own,Tm.asks op=some (w,more,own)∧¬(a.length<w.length∨(w.length<a.length∧more=false)∨200<a.length)∧Tm.allIn l a=true∧Tm.oks w 0 63 (a.map (Tm.letAt l))=true∧¬(op=17∧1<Tm.free l a)∧Tm.app l op a=Tm.add l (Tm.node op own l a):=by
 unfold Tm.app
 cases h:Tm.asks op with
 |none=>exact .inl ⟨101,by decide,rfl⟩
 |some q=>
  obtain⟨w,more,own⟩:=q
  simp only
  split
  ·exact .inl ⟨1,by decide,rfl⟩
  ·rename_i h1
   split
   ·exact .inl ⟨1,by decide,rfl⟩
   ·rename_i h2
    split
    ·exact .inl ⟨90,by decide,rfl⟩
    ·rename_i h3
     split
     ·exact .inl ⟨101,by decide,rfl⟩
     ·rename_i h4
      exact .inr ⟨w,more,own,rfl,h1,by simpa using h2,by simpa using h3,h4,rfl⟩
theorem Tm.app_inv {l:List Nd} (h:Tm.Inv l) (op:Int) (a:List Int):Tm.Inv (Tm.app l op a).1:=by
 rcases Tm.app_ways l op a with⟨e,_,h1⟩|⟨w,more,own,h1,h2,h3,h4,h5,h6⟩
 ·rw[h1];exact h
 ·rw[h6]
  refine Tm.add_inv h (Tm.sortOf_ok _) (Tm.allIn_spec h3) fun ho=>?_
  simp only[Tm.node] at ho ⊢
  subst ho
  rw[Tm.asks_neg h1] at h2
  intro e
  rw[e] at h2
  simp at h2
theorem Tm.add_again (l:List Nd) (x:Nd):Tm.add (Tm.add l x).1 x=Tm.add l x∧((Tm.add l x).2.2≠0→(Tm.add l x).2.1=0):=by
 rcases Tm.add_ways l x with⟨hx,e⟩|⟨_,_,e⟩|⟨hx,_,e⟩
 ·rw[e];exact⟨e,fun h=>absurd rfl h⟩
 ·rw[e];exact⟨e,fun _=>rfl⟩
 ·rw[e]
  refine⟨?_,fun h=>absurd rfl h⟩
  rw[Tm.add,if_pos (Tm.has_iff.2 (by simp)),Tm.idx_new hx]
theorem Tm.add_ext (l:List Nd) (x:Nd):∃ m,(Tm.add l x).1=l++m:=by
 rcases Tm.add_ways l x with⟨_,e⟩|⟨_,_,e⟩|⟨_,_,e⟩
 ·exact⟨[],by rw[e,List.append_nil]⟩
 ·exact⟨[],by rw[e,List.append_nil]⟩
 ·exact⟨[x],by rw[e]⟩
theorem Tm.get_ext {l m:List Nd} {p:Int} (h:p<l.length) (h0:0≤p):(l++m)[p.toNat]?=l[p.toNat]?:=List.getElem?_append_left (by omega)
theorem Tm.isNum_ext {l m:List Nd} (hl:Tm.Inv l) {p:Int} (h0:0≤p) (h:p<l.length):Tm.isNum (l++m) p=Tm.isNum l p:=by
 obtain⟨x,hx⟩:∃ x,l[p.toNat]?=some x:=⟨_,List.getElem?_eq_getElem (by omega)⟩
 unfold Tm.isNum Tm.opAt
 rw[Tm.get_ext h h0,hx]
 simp only[Option.map_some,Option.getD_some]
 by_cases hop:x.op=14
 ·obtain⟨q,a,ha⟩:∃ q a,x.a=q::a:=by
   cases e:x.a with
   |nil=>exact absurd e (hl.neg x (List.mem_of_getElem? hx) hop)
   |cons q a=>exact⟨q,a,rfl⟩
  have hq:=hl.part _ x hx q (by rw[ha];simp)
  have e1:((some x).map (fun x=>x.a)).getD []=q::a:=by rw[Option.map_some,Option.getD_some,ha]
  have e2:(l++m)[q.toNat]?=l[q.toNat]?:=Tm.get_ext (p:=q) (by omega) hq.1
  simp only[ha,List.headD_cons,e2]
 ·simp[hop]
theorem Tm.app_again {l:List Nd} (hl:Tm.Inv l) (op:Int) (a:List Int):Tm.app (Tm.app l op a).1 op a=Tm.app l op a∧((Tm.app l op a).2.2≠0→(Tm.app l op a).2.1=0):=by
 rcases Tm.app_ways l op a with⟨e,_,h1⟩|⟨w,more,own,h1,h2,h3,h4,h5,h6⟩
 ·rw[h1];exact⟨h1,fun _=>rfl⟩
 ·obtain⟨m,hm⟩:=Tm.add_ext l (Tm.node op own l a)
  have hin:=Tm.allIn_spec h3
  have hmap:a.map (Tm.letAt (l++m))=a.map (Tm.letAt l):=List.map_congr_left fun p hp=>by
   have:=hin p hp
   unfold Tm.letAt
   rw[Tm.get_ext this.2 this.1]
  have hfree:Tm.free (l++m) a=Tm.free l a:=by
   unfold Tm.free
   congr 1
   refine List.filter_congr fun p hp=>?_
   rw[Tm.isNum_ext hl (hin p hp).1 (hin p hp).2]
  have hall:Tm.allIn (l++m) a=true:=List.all_eq_true.2 fun p hp=>decide_eq_true (by have:=hin p hp;simp;omega)
  have hnode:Tm.node op own (l++m) a=Tm.node op own l a:=by unfold Tm.node;rw[hmap]
  rw[h6]
  obtain⟨g1,g2⟩:=Tm.add_again l (Tm.node op own l a)
  refine⟨?_,g2⟩
  rw[hm] at g1 ⊢
  unfold Tm.app
  rw[h1]
  simp only
  rw[if_neg h2,if_neg (by rw[hall];decide),hmap,if_neg (by rw[h4];decide),hfree,if_neg h5,hnode,g1]
end Go.Proofs.YtcgaeknikfaghaaGreatDoor
