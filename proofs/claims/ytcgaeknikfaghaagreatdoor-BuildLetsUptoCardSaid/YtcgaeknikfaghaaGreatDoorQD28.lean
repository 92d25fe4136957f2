/- What the proofs of this claim use, text by text. -/
import Derived.Test.YtcgaeknikfaghaaGreatDoorQD21
import Derived.Deep.RegionHeld3
set_option linter.unusedSimpArgs false
set_option linter.unusedVariables false
set_option maxRecDepth 100000
set_option maxHeartbeats 25600000
namespace Go.Proofs.YtcgaeknikfaghaaGreatDoor
open Go.RowKit
def ClosSaid (a:Nat) (o:Option (Nat×Nat)) (e:Ending):Prop:=
 match o with
 |none=>∃ z:Int,e=.returned (.tuple #[.int .i64 (-1),.int .i64 z])
 |some (s,d)=>∃ z m:Int,e=.returned (.tuple #[.int .i64 z,.int .i64 m])∧z=((a+s-1:Nat):Int)∧m=(d:Nat)
theorem rclosing (w:World) (A:Option Addr) (n c:Nat) (l:List ITok) (a:Nat) (t:ITok) (h:TokS w A n l) (ht:l[a]?=some t) (h1:t.1=1) (hn:n≤1000000):
  Calls Tryz.prog 129 #[.slice A n c,.int .i64 (a:Nat)] w fun e w'=>ClosSaid a (clos 0 0 (l.drop a)) e∧w'=w:=by
 obtain⟨X,hX⟩:∃ X,clos 0 0 (l.drop a)=X:=⟨_,rfl⟩
 rw[hX]
 have HX:=Lib.hid hX
 have HH:=Lib.hid h
 have han:a<n:=by rw[←h.len];exact(List.getElem?_eq_some_iff.1 ht).1
 have HT:=Lib.hid ht
 have H1:=Lib.hid h1
 clear hX h ht h1
 go_enter Tryz.func129,Tryz.ntmps129
 go_wp2
 go_loopw [6,7,8] (fun nv mv iv wr=>∃ i lv most:Nat,a≤i∧i≤n∧lv≤i∧most≤i∧lv≤most∧iv=.int .i64 (i:Nat)∧nv=.int .i64 (lv:Nat)∧mv=.int .i64 (most:Nat)∧w=wr∧(lv=0→i=a)∧Hid ((clos lv most (l.drop i)).map (fun x=>(x.1+(i-a),x.2))=X)) (fun _ _ iv _=>n-(intOf iv).toNat)
 case atStart=>exact⟨a,0,0,Nat.le_refl _,Nat.le_of_lt han,Nat.zero_le _,Nat.zero_le _,Nat.le_refl _,rfl,rfl,rfl,rfl,fun _=>rfl,by show _=_;rw[HX.out];cases X <;> simp⟩
 case round=>
  obtain⟨i,lv,most,hai,hi,hli,hmi,hlm,rfl,rfl,rfl,rfl,h0,HI⟩:=hrel
  by_cases hlt:i<n
  ·obtain⟨b,off,x,rfl,hx,hdr,hc⟩:=HH.out.get hlt
   obtain⟨z0,z1,z2,z3⟩:=hc _ (Below.refl _ _)
   obtain⟨xk,xt,xa⟩:=x
   have hk0:lv=0→xk=1:=fun e=>by
    have e1:=h0 e
    subst e1
    rw[HT.out] at hx
    injection hx with hx
    have:=H1.out
    rw[hx] at this
    exact this
   have hd:=HI.out
   rw[hdr] at hd
   have hlt':(i:Int)<(n:Int):=by omega
   have hi0:(0:Int)≤(i:Int):=by omega
   clear HI hc hx hdr h0 z2 z3
   have hways:(xk=1∧most<lv+1∧Hid ((clos (lv+1) (lv+1) (l.drop (i+1))).map (fun x=>(x.1+(i+1-a),x.2))=X))∨(xk=1∧¬most<lv+1∧Hid ((clos (lv+1) most (l.drop (i+1))).map (fun x=>(x.1+(i+1-a),x.2))=X))∨
     (xk=2∧lv=1∧X=some (i-a+1,most))∨(xk=2∧(∃ k,lv=k+2)∧Hid ((clos (lv-1) most (l.drop (i+1))).map (fun x=>(x.1+(i+1-a),x.2))=X))∨
     (xk≠1∧xk≠2∧0<lv∧Hid ((clos lv most (l.drop (i+1))).map (fun x=>(x.1+(i+1-a),x.2))=X)):=by
    have e:1+(i-a)=i+1-a:=by omega
    by_cases e1:xk=1
    ·rw[clos_open _ (show((xk,xt,xa):ITok).1=1 from e1),map_shift,e] at hd
     by_cases e2:most<lv+1
     ·rw[Nat.max_eq_right (by omega)] at hd
      exact .inl ⟨e1,e2,hd⟩
     ·rw[Nat.max_eq_left (by omega)] at hd
      exact .inr (.inl ⟨e1,e2,hd⟩)
    ·have hl0:0<lv:=Nat.pos_of_ne_zero fun e=>e1 (hk0 e)
     by_cases e2:xk=2
     ·by_cases e3:lv=1
      ·subst e3
       rw[clos_last _ (show((xk,xt,xa):ITok).1=2 from e2)] at hd
       exact .inr (.inr (.inl ⟨e2,rfl,by rw[←hd];simp;omega⟩))
      ·obtain⟨k,rfl⟩:∃ k,lv=k+2:=⟨lv-2,by omega⟩
       rw[clos_close _ (show((xk,xt,xa):ITok).1=2 from e2) (by omega),map_shift,e] at hd
       exact .inr (.inr (.inr (.inl ⟨e2,⟨k,rfl⟩,hd⟩)))
     ·obtain⟨k,rfl⟩:∃ k,lv=k+1:=⟨lv-1,by omega⟩
      rw[clos_atom _ (show((xk,xt,xa):ITok).1≠1 from e1) e2 (by omega),map_shift,e] at hd
      exact .inr (.inr (.inr (.inr ⟨e1,e2,by omega,hd⟩)))
   clear hd hk0
   rcases hways with⟨rfl,hm,HN⟩|⟨rfl,hm,HN⟩|⟨rfl,rfl,rfl⟩|⟨rfl,⟨k,rfl⟩,HN⟩|⟨e1,e2,e3,HN⟩
   ·have hm':(most:Int)<(lv:Int)+1:=by omega
    have hz:((lv:Int)+1 == 0)=false:=beq_eq_false_iff_ne.2 (by omega)
    go_wp2
    go_roundw
    case rel=>exact⟨i+1,lv+1,lv+1,by omega,by omega,by omega,by omega,by omega,by go_num,by go_num,by go_num,by first|trivial|rfl,fun e=>absurd e (by omega),HN⟩
    case measure=>simp[intOf];omega
   ·have hm':¬(most:Int)<(lv:Int)+1:=by omega
    have hz:((lv:Int)+1 == 0)=false:=beq_eq_false_iff_ne.2 (by omega)
    go_wp2
    go_roundw
    case rel=>exact⟨i+1,lv+1,most,by omega,by omega,by omega,by omega,by omega,by go_num,by go_num,by go_num,by first|trivial|rfl,fun e=>absurd e (by omega),HN⟩
    case measure=>simp[intOf];omega
   ·have hm':¬(most:Int)<0:=by omega
    go_wp2
    go_ret2
    exact⟨⟨_,_,rfl,by omega,rfl⟩,rfl⟩
   ·have hm':¬(most:Int)<(k:Int)+1:=by omega
    have hz:((k:Int)+1 == 0)=false:=beq_eq_false_iff_ne.2 (by omega)
    have hk2:((k+2:Nat):Int)-1=(k:Int)+1:=by omega
    go_wp2
    go_roundw
    case rel=>exact⟨i+1,k+1,most,by omega,by omega,by omega,by omega,by omega,by go_num,by go_num,by go_num,by first|trivial|rfl,fun e=>absurd e (by omega),HN⟩
    case measure=>simp[intOf];omega
   ·have b1:(xk == 1)=false:=beq_eq_false_iff_ne.2 e1
    have b2:(xk == 2)=false:=beq_eq_false_iff_ne.2 e2
    have hm':¬(most:Int)<(lv:Int):=by omega
    have hz:((lv:Int) == 0)=false:=beq_eq_false_iff_ne.2 (by omega)
    go_wp2
    go_roundw
    case rel=>exact⟨i+1,lv,most,by omega,by omega,by omega,by omega,by omega,by go_num,by go_num,by go_num,by first|trivial|rfl,fun e=>absurd e (by omega),HN⟩
    case measure=>simp[intOf];omega
  ·obtain rfl:i=n:=by omega
   have hX:X=none:=by
    have:=HI.out
    rw[List.drop_of_length_le (by rw[HH.out.len];exact Nat.le_refl _),clos] at this
    exact this.symm
   subst hX
   clear HI
   go_wp2
   go_ret2
   exact⟨⟨_,rfl⟩,rfl⟩
end Go.Proofs.YtcgaeknikfaghaaGreatDoor
namespace Go.Proofs.YtcgaeknikfaghaaGreatDoor
open Go.RowKit
abbrev MSx:=Sx×Option Addr×Nat
abbrev xcells (x:MSx):List Value:=scells x.1 x.2.1 x.2.2
abbrev xcellsOf (l:List MSx):List Value:=l.flatMap xcells
theorem xs_length (l:List MSx):(xcellsOf l).length=l.length*6:=by
 induction l with
 |nil=>rfl
 |cons x l ih=>rw[xcellsOf,List.flatMap_cons,List.length_append,←xcellsOf,ih,List.length_cons];simp;omega
theorem infoX:(Tryz.prog.info? 27).map (fun i=>(i.zero,i.size,i.bytes))=some (some (.agg #[.bool false,.int .i64 0,.string ByteArray.empty,.int .i64 0,.int .i64 0,.slice none 0 0]),6,72):=by kernel_rfl
theorem xs_get:∀ (l:List MSx) (i:Nat) (x:MSx),l[i]?=some x→∀ j,j<6→(xcellsOf l)[i*6+j]?=(xcells x)[j]?
 |[],i,x,h=>by simp at h
 |y::l,0,x,h=>by
  obtain rfl:y=x:=by simpa using h
  intro j hj
  rw[xcellsOf,List.flatMap_cons,Nat.zero_mul,Nat.zero_add,List.getElem?_append_left (by simp;omega)]
 |y::l,i+1,x,h=>by
  intro j hj
  rw[←xs_get l i x (by simpa using h) j hj,xcellsOf,List.flatMap_cons,show(i+1)*6+j=(xcells y).length+(i*6+j) by simp;omega,List.getElem?_append_right (by omega),Nat.add_sub_cancel_left]
theorem xs_one (l:List MSx):∀ u∈xcellsOf l,u.oneCell'=true:=by
 intro u hu
 obtain⟨x,_,hu⟩:=List.mem_flatMap.1 hu
 simp[xcells,scells] at hu
 rcases hu with rfl|rfl|rfl|rfl|rfl|rfl <;> rfl
abbrev OffRow (B:Nat) (A:Option Addr) (n c:Nat):Nat→Nat→Prop:=fun b _=>B≤b∧(Value.slice A n c).ownBlock≠some b
structure OwnX (w:World) (B:Nat) (A:Option Addr) (c:Nat) (l:List MSx):Prop where
 row:w.ownsRow B 27 6 (.slice A l.length c) l.length (xcellsOf l)
 trees:∀ x∈l,STree w (OffRow B A l.length c) x.1 x.2.1 x.2.2
theorem OwnX.nil (w:World) (B:Nat):OwnX w B none 0 []:=⟨World.ownsRow_nil _ _ _ _,fun _ hx=>absurd hx List.not_mem_nil⟩
theorem OwnX.kept {w w':World} {B:Nat} {A:Option Addr} {c:Nat} {l:List MSx} (h:OwnX w B A c l) (hb:Below w.heap.size w w'):OwnX w' B A c l:=
 ⟨(Turn.of_below (F:=fun _=>False) hb).own h.row (fun _ _=>id),fun x hx=>(h.trees x hx).kept hb⟩
theorem OwnX.lt {w:World} {B:Nat} {A:Option Addr} {c n:Nat} {l:List MSx} (h:OwnX w B A c l) (hn:l.length=n) {q:Nat} (hq:(Value.slice A n c).ownBlock=some q):B≤q∧q<w.heap.size:=by
 subst hn
 exact h.row.lt q hq
theorem OwnX.parts {w:World} {B:Nat} {A:Option Addr} {c:Nat} {l:List MSx} (h:OwnX w B A c l):l.length≤c∧c≤maxLen∧((A=none∧l=[])∨∃ g,A=some ⟨g,0,none⟩∧B≤g∧g<w.heap.size):=by
 rcases h.row.2 with⟨e,hn⟩|⟨g,cap,cur,e,hb,hg,hc,hm,_⟩
 ·injection e with e1 e2 e3
  exact⟨by omega,by rw[e3];exact Nat.zero_le _,.inl ⟨e1,List.eq_nil_of_length_eq_zero hn⟩⟩
 ·injection e with e1 e2 e3
  subst e3
  exact⟨hc,hm,.inr ⟨g,e1,hb,(Array.getElem?_eq_some_iff.1 hg).1⟩⟩
theorem OwnX.at_ {w:World} {B g:Nat} {c:Nat} {l:List MSx} (h:OwnX w B (some ⟨g,0,none⟩) c l) {i:Nat} {x:MSx} (hx:l[i]?=some x):SAt w g (i*6) x.1 x.2.1 x.2.2:=by
 have r:=fun j (hj:j<6) u (hu:(xcells x)[j]?=some u)=>h.row.cells (g:=g) rfl (i*6+j) u ((xs_get l i x hx j hj).trans hu)
 have hlt:g<w.heap.size:=(h.row.lt g rfl).2
 have a:∀ j,(⟨g,0,none⟩:Addr).add j=⟨g,j,none⟩:=fun j=>by rw[addr_add,Nat.zero_add]
 simp only[a] at r
 exact⟨hlt,r 0 (by decide) _ rfl,r 1 (by decide) _ rfl,r 2 (by decide) _ rfl,r 3 (by decide) _ rfl,r 4 (by decide) _ rfl,r 5 (by decide) _ rfl⟩
theorem OwnX.tree_from {w:World} {B g:Nat} {c:Nat} {l:List MSx} (h:OwnX w B (some ⟨g,0,none⟩) c l) (hg:B≤g):∀ (k i:Nat),l.length-i≤k→TreeL w (fun b _=>B≤b) (some ⟨g,i*6,none⟩) ((l.drop i).map (·.1)):=by
 intro k
 induction k with
 |zero=>
  intro i hi
  rw[List.drop_of_length_le (by omega)]
  exact .nil _
 |succ k ih=>
  intro i hi
  by_cases hlt:i<l.length
  ·have hx:=List.getElem?_eq_getElem hlt
   rw[List.drop_eq_getElem_cons hlt,List.map_cons]
   have ht:=h.trees _ (List.getElem_mem hlt)
   refine .cons g (i*6) _ _ _ _ (h.at_ hx) hg ht.le (ht.tree.mono fun _ _ _ q=>q.1) ?_
   have:=ih (i+1) (by omega)
   rw[show(i+1)*6=i*6+6 by omega] at this
   exact this
  ·rw[List.drop_of_length_le (by omega)]
   exact .nil _
theorem OwnX.tree {w:World} {B:Nat} {A:Option Addr} {c:Nat} {l:List MSx} (h:OwnX w B A c l):TreeL w (fun b _=>B≤b) A (l.map (·.1)):=by
 rcases h.parts with⟨_,_,⟨rfl,rfl⟩|⟨g,rfl,hg,_⟩⟩
 ·exact .nil _
 ·have:=h.tree_from hg l.length 0 (by omega)
  rw[Nat.zero_mul,List.drop_zero] at this
  exact this
theorem cell_six_new (w:World) (x0 x1 x2 x3 x4 x5:Value) (t:TypeId):∀ j u,[x0,x1,x2,x3,x4,x5][j]?=some u→(w.alloc (.cells #[x0,x1,x2,x3,x4,x5] t)).cell? ((⟨w.heap.size,0,none⟩:Addr).add j)=some u:=by
 intro j u hu
 have l:=Lies.new w t #[x0,x1,x2,x3,x4,x5]
 rw[addr_add,Nat.zero_add,l.cell j,←hu]
 simp
theorem run_appendX (w:World) (ty:TypeId) (B:Nat) (A:Option Addr) (c:Nat) (l:List MSx) (n:Nat) (hn:l.length=n) (d:MSx) (g:Nat) (hg:w.heap.size=g) (hown:OwnX w B A c l) (hd:STree w (OffRow B A n c) d.1 d.2.1 d.2.2) (hl:n≤1000000) (hB:B≤w.heap.size):
  ∃ A' c' w',(Builtin.append_ #[25,25] ty #[.slice A n c,.slice (some ⟨g,0,none⟩) 1 1]).run Tryz.prog (w.alloc (sbox d.1 d.2.1 d.2.2))=.ok (.slice A' (n+1) c') w'∧OwnX w' B A' c' (l++[d])∧w.grownBy w' (Value.slice A n c).ownBlock:=by
 subst hn
 subst hg
 obtain⟨i0,hi,hz0,hz1,hz2⟩:=info_parts infoX
 obtain⟨v',w',hr,q1,q2,_,q4⟩:=run_append_own_at (P:=Tryz.prog) (w.alloc (sbox d.1 d.2.1 d.2.2)) B 25 ty 27 i0 (.agg #[.bool false,.int .i64 0,.string ByteArray.empty,.int .i64 0,.int .i64 0,.slice none 0 0]) 6 72 Tryz.underlying25 hi hz0 hz1 hz2 rfl (by decide) (.slice A l.length c) l.length (xcellsOf l)
  (World.ownsRow.alloc hown.row _) ⟨w.heap.size,0,none⟩ 1 1 (xcells d) rfl (cell_six_new _ _ _ _ _ _ _ _) (fun u hu=>xs_one [d] u (by simpa [xcellsOf] using hu)) (by unfold maxLen;omega) (by omega) (by simp;omega)
 obtain⟨A',c',rfl⟩:=own_form q1
 have hgb:w.grownBy w' (Value.slice A l.length c).ownBlock:=⟨q2.os,q2.tape,q2.output,Nat.le_trans (by simp) q2.size,fun k hk hne=>(q2.block k (by simp;omega) hne).trans (Below.heap_alloc w _ k hk)⟩
 refine⟨A',c',w',hr,⟨?_,?_⟩,hgb⟩
 ·have e:xcellsOf l++xcells d=xcellsOf (l++[d]):=by simp[xcellsOf]
  rw[e] at q1
  rw[List.length_append]
  exact q1
 ·have hall:∀ x∈l++[d],STree w (OffRow B A l.length c) x.1 x.2.1 x.2.2:=by
   intro x hx
   rcases List.mem_append.1 hx with hx|hx
   ·exact hown.trees x hx
   ·rw[List.mem_singleton.1 hx]
    exact hd
  intro x hx
  refine⟨(hall x hx).le,(hall x hx).tree.imp hgb.size (fun b off hb hG j _=>?_) (fun b off hb hG=>⟨hG.1,?_⟩)⟩
  ·exact World.cell?_of_block (w:=w) (hgb.block b hb fun e=>hG.2 e.symm)
  ·rw[List.length_append]
   rcases q4 with q4|q4
   ·intro e
    exact hG.2 (q4.symm.trans e)
   ·intro e
    have:=q4.symm.trans e
    injection this with this
    simp at this
    omega
theorem stepX (w:World) {ops:Array Oper} {o:Oper} {a:Act} {K:Act→World→Prop} {Q:Exit→Act→World→Prop} {E:Prop} (hgd:o.guard=none) (s x:Operand)
  (ho:o.op=.call { callee:=.builtin .append,args:=#[s,x],argTypes:=#[25,25] }) (B:Nat) (A:Option Addr) (c:Nat) (l:List MSx) (n:Nat) (hn:l.length=n) (d:MSx) (g:Nat) (hg:w.heap.size=g)
  (hs:a.eval s=.slice A n c) (hown:OwnX w B A c l) (hd:STree w (OffRow B A n c) d.1 d.2.1 d.2.2) (hx:a.eval x=.slice (some ⟨g,0,none⟩) 1 1) (hl:n≤1000000) (hB:B≤w.heap.size)
  (h:∀ A' c' w',OwnX w' B A' c' (l++[d])→w.grownBy w' (Value.slice A n c).ownBlock→K (a.put o.dst (.slice A' (n+1) c')) w'):
  if Region.wanted o (yielded ops a.tmps)=true then Oper.wp Tryz.prog o a (w.alloc (sbox d.1 d.2.1 d.2.2)) K Q else E:=by
 have hw:Region.wanted o (yielded ops a.tmps)=true:=by simp[Region.wanted,hgd]
 rw[if_pos hw]
 obtain⟨A',c',w',hr,h2,h3⟩:=run_appendX w o.type B A c l n hn d g hg hown hd hl hB
 unfold Oper.wp
 simp[execOp,ho,resolve,invoke,builtin,hs,hx,hr,Result.andThen]
 exact h A' c' w' h2 h3
end Go.Proofs.YtcgaeknikfaghaaGreatDoor
namespace Go.Proofs.YtcgaeknikfaghaaGreatDoor
open Go.RowKit
theorem take_cons {α:Type} {l:List α} {i j:Nat} {t:α} {r:List α} (hij:i<j) (h:l.drop i=t::r):(l.drop i).take (j-i)=t::(r.take (j-(i+1)))∧r=l.drop (i+1):=by
 have e:r=l.drop (i+1):=by
  have:=congrArg (List.drop 1) h
  rw[List.drop_drop] at this
  simpa using this.symm
 refine⟨?_,e⟩
 rw[h,show j-i=(j-(i+1))+1 by omega,List.take_succ_cons]
theorem window {α:Type} {l m l':List α} {c:α} {i j:Nat} (hj:j≤l.length) (h:(l.drop i).take (j-i)=m++c::l'):i+m.length+1≤j∧(l.drop i).take m.length=m∧(l.drop (i+m.length+1)).take (j-(i+m.length+1))=l'∧l.drop i=m++c::l.drop (i+m.length+1):=by
 have hl:=congrArg List.length h
 rw[List.length_take,List.length_drop,List.length_append,List.length_cons] at hl
 have h1:i+m.length+1≤j:=by omega
 have h2:(l.drop i).take m.length=m:=by
  have:=congrArg (List.take m.length) h
  rw[List.take_take,Nat.min_eq_left (by omega),List.take_left] at this
  exact this
 have h3:(l.drop (i+m.length+1)).take (j-(i+m.length+1))=l':=by
  have:=congrArg (List.drop (m.length+1)) h
  rw[List.drop_take,List.drop_drop,show m.length+1=(m++[c]).length by simp,show m++c::l'=(m++[c])++l' by simp,List.drop_left] at this
  rw[←this]
  simp only[List.length_append,List.length_cons,List.length_nil]
  rw[show i+m.length+1=i+(m.length+(0+1)) by omega,show j-(i+(m.length+(0+1)))=j-i-(m.length+(0+1)) by omega]
 refine⟨h1,h2,h3,?_⟩
 rw[←List.take_append_drop (j-i) (l.drop i),h,List.drop_drop,List.append_assoc,List.cons_append]
 congr 2
 have:=List.take_append_drop (j-(i+m.length+1)) (l.drop (i+m.length+1))
 rw[h3,List.drop_drop] at this
 rw[←this]
 congr 2
 omega
theorem rlistx:∀ (k:Nat) (w:World) (A:Option Addr) (n c:Nat) (l:List ITok) (a z:Nat) (M:List Sx),z-a≤k→TokS w A n l→n≤1000000→a≤z→z≤n→Reads ((l.drop a).take (z-a)) M→
  Calls Tryz.prog 130 #[.slice A n c,.int .i64 (a:Nat),.int .i64 (z:Nat)] w fun e w'=>
   (∃ A' c',e=.returned (.slice A' M.length c')∧M.length≤c'∧c'≤maxLen∧TreeL w' (fun b _=>w.heap.size≤b) A' M)∧Below w.heap.size w w':=by
 intro k
 induction k using Nat.strongRecOn with
 |_ k ih=>
  intro w A n c l a z M hk h hn ha hz hr
  have HH:=Lib.hid h
  have HR:=Lib.hid hr
  have HK:=Lib.hid hk
  clear h hr hk
  go_enter Tryz.func130,Tryz.ntmps130
  go_wp2
  go_loopw [7,8] (fun ov iv wr=>∃ (i m:Nat) (A':Option Addr) (c':Nat) (lx:List MSx) (L:List Sx),a≤i∧i≤z∧m≤i∧iv=.int .i64 (i:Nat)∧ov=.slice A' m c'∧Below w.heap.size w wr∧
   Hid (OwnX wr w.heap.size A' c' lx∧lx.length=m∧lx.map (·.1)++L=M∧Reads ((l.drop i).take (z-i)) L)) (fun _ iv _=>z-(intOf iv).toNat)
  case atStart=>exact⟨a,0,none,0,[],M,Nat.le_refl _,ha,Nat.zero_le _,rfl,rfl,Below.refl _ _,OwnX.nil _ _,rfl,rfl,HR.out⟩
  case round=>
   obtain⟨i,m,A',c',lx,L,hai,hiz,hmi,rfl,rfl,hb,HI⟩:=hrel
   have HB:=Lib.hid hb
   by_cases hlt:i<z
   ·obtain⟨b,off,x,rfl,hx,hdr,hc⟩:=HH.out.get (i:=i) (by omega)
    obtain⟨z0,z1,z2,z3⟩:=hc wr hb
    obtain⟨hI1,hI2,hI3,hI4⟩:=HI.out
    have hI4':=hI4
    obtain⟨tk1,tk2⟩:=take_cons hlt hdr
    rw[tk1] at hI4
    have hin:(i:Int)<(n:Int):=by omega
    have hi0:(0:Int)≤(i:Int):=by omega
    have hlt':(i:Int)<(z:Int):=by omega
    have HO:=Lib.hid hI1
    have HM:=Lib.hid hI2
    have HL:=Lib.hid hI3
    rcases hI4.inv with⟨e1,e2,L',rfl,hr'⟩|⟨e1,cb,m',M',l',L',e,hcb,hrm,rfl,hr'⟩
    ·have b1:(x.1 != 1)=true:=bne_iff_ne.2 e1
     rw[tk2] at hr'
     have HN:=Lib.hid hr'
     have HD2:Hid (∀ W,Below wr.heap.size wr W→OwnX W w.heap.size A' c' lx∧w.heap.size≤W.heap.size∧Below w.heap.size w W):=fun W hW=>⟨HO.out.kept hW,Nat.le_trans HB.out.size hW.size,HB.out.trans (hW.mono HB.out.size)⟩
     have hdw:Below wr.heap.size wr wr.drew:=⟨rfl,rfl,rfl,Nat.le_refl _,fun _ _=>rfl⟩
     obtain⟨o2,s2,b2⟩:=HD2.out _ hdw
     have O2:=Lib.hid o2
     have B2:=Lib.hid b2
     have KS:Hid (∀ W,Below w.heap.size w W→W.cell? ⟨b,off+i*3,none⟩=some (.int .i64 x.1)∧W.cell? ⟨b,off+i*3+1,none⟩=some (.string x.2.1)∧W.cell? ⟨b,off+i*3+2,none⟩=some (.int .i64 x.2.2)∧b<W.heap.size):=fun W hW=>by obtain⟨q0,q1,q2,q3⟩:=hc W hW;exact⟨q1,q2,q3,q0⟩
     have HS:=Lib.hid (KS.out _ b2)
     clear hI4 hI4' hI1 hI2 hI3 HI hb tk1 tk2 hr' hx hdr hc e1 e2 hlt o2 b2 hdw s2
     go_wp2
     go_region_held3 (fun W'=>W'.cell? ⟨b,off+i*3,none⟩=some (.int .i64 x.1)∧W'.cell? ⟨b,off+i*3+1,none⟩=some (.string x.2.1)∧W'.cell? ⟨b,off+i*3+2,none⟩=some (.int .i64 x.2.2)∧b<W'.heap.size)
      (first|(with_reducible exact HS.out)|exact KS.out _ (B2.out.alloc B2.out.size _)|exact KS.out _ B3.out)
      ((refine stepX wr.drew rfl (.tmp 23) (.tmp 34) (by rfl) w.heap.size A' c' lx m HM.out (Sx.atom x,none,0) wr.heap.size rfl (by rfl) O2.out ⟨⟨Nat.le_refl _,Nat.zero_le _⟩,.nil _⟩ (by rfl) (by omega) B2.out.size ?_;intro A3 c3 w3 o3 g3;have O3:=Lib.hid o3;have B3:=Lib.hid (B2.out.grown g3 B2.out.size (fun q hq=>(O2.out.lt HM.out hq).1));clear o3))
     go_wp2
     go_roundw
     case rel=>exact⟨i+1,m+1,A3,c3,lx++[(Sx.atom x,none,0)],L',by omega,by omega,by omega,by go_num,rfl,B3.out,⟨O3.out,by rw[List.length_append,HM.out];rfl,by rw[List.map_append,List.append_assoc];exact HL.out,HN.out⟩⟩
     case measure=>simp[intOf];omega
    ·have b1:(x.1 != 1)=false:=by simp[e1]
     have hw:=window (l:=l) (j:=z) (by rw[HH.out.len];exact hz) (show(l.drop (i+1)).take (z-(i+1))=m'++cb::l' by rw[←tk2];exact e)
     obtain⟨w1,w2,w3,w4⟩:=hw
     have hcl:clos 0 0 (l.drop i)=some (m'.length+2,Sx.deeps M'+1):=by
      rw[hdr,w4]
      exact hrm.closing e1 hcb _
     have HC:=Lib.hid fun W (hW:Below wr.heap.size wr W)=>rclosing W (some ⟨b,off,none⟩) n c l i x (HH.out.below (hb.trans (hW.mono hb.size))) hx e1 hn
     rw[hcl] at HC
     obtain⟨p,hp⟩:∃ p,m'.length=p:=⟨_,rfl⟩
     have hrec:=fun W (hW:Below w.heap.size w W)=>ih p (by have:=HK.out;omega) W (some ⟨b,off,none⟩) n c l (i+1) (i+1+p) M' (by omega) (HH.out.below hW) hn (by omega) (by omega) (by rw[show i+1+p-(i+1)=p by omega,←hp,w2];exact hrm)
     rw[hp] at HC w1 w3 w4
     have hi1:((i+1:Nat):Int)=(i:Int)+1:=by omega
     have hq:((i+1+p:Nat):Int)=(i:Int)+((p:Int)+1):=by omega
     have hwp:IntKind.i64.wrap ((i:Int)+1)=(i:Int)+1:=IntWalk.i64_in _ (by omega)
     obtain⟨dd,hdd⟩:∃ d,Sx.deeps M'+1=d:=⟨_,rfl⟩
     rw[hdd] at HC
     rw[hi1,hq] at hrec
     have HRec:=Lib.hid hrec
     have HN:=Lib.hid hr'
     have HW3:=Lib.hid w3
     have hdw:Below wr.heap.size wr wr.drew:=⟨rfl,rfl,rfl,Nat.le_refl _,fun _ _=>rfl⟩
     have B2:=Lib.hid (HB.out.trans (hdw.mono HB.out.size))
     have HDW:=Lib.hid hdw
     have KS:Hid (∀ W,Below w.heap.size w W→W.cell? ⟨b,off+i*3+2,none⟩=some (.int .i64 x.2.2)∧b<W.heap.size):=fun W hW=>by obtain⟨q0,q1,q2,q3⟩:=hc W hW;exact⟨q3,q0⟩
     have HS:=Lib.hid (KS.out _ B2.out)
     have HG:Hid (∀ W:World,∀ b _off,b<W.heap.size→wr.drew.heap.size≤b→OffRow w.heap.size A' m c' b _off):=fun W b _ _ hb=>⟨Nat.le_trans B2.out.size hb,fun e=>absurd (HO.out.lt HM.out e).2 (Nat.not_lt.2 hb)⟩
     clear hI4 hI4' hI1 hI2 hI3 HI hb tk1 tk2 hr' hx hdr hc e1 hlt e hcb hrm hcl hp hrec hdd w2 w3 w4 hdw
     go_wp2_with (go_at_call 129;refine(HC.out _ (Below.refl _ _)).mono ?_;rintro e w4 ⟨⟨y,y',rfl,rfl,rfl⟩,rfl⟩)
     go_region_held3 (fun W'=>W'.cell? ⟨b,off+i*3+2,none⟩=some (.int .i64 x.2.2)∧b<W'.heap.size)
      (first|(with_reducible exact HS.out)|(with_reducible exact KS.out _ B3.out)|(with_reducible exact KS.out _ (B3.out.alloc B3.out.size _))|(with_reducible exact KS.out _ B4.out))
      (first
       |(go_at_call 130;(with_reducible refine(HRec.out _ ?_).mono ?_);(with_reducible exact B2.out);rintro e w5 ⟨⟨A2,c2,rfl,c2a,c2b,t2⟩,b5⟩;have B3:=Lib.hid (B2.out.trans (b5.mono B2.out.size));have O2:=Lib.hid (HO.out.kept (HDW.out.trans (b5.mono HDW.out.size)));have T2:=Lib.hid (And.intro (And.intro c2a c2b) t2);clear b5 t2)
       |(refine stepX w5 rfl (.tmp 42) (.tmp 54) (by rfl) w.heap.size A' c' lx m HM.out (Sx.node x.2.2 M',A2,c2) _ rfl (by rfl) O2.out ⟨T2.out.1,T2.out.2.mono (HG.out _)⟩ (by rfl) (by omega) B3.out.size ?_;intro A3 c3 w3 o3 g3;have O3:=Lib.hid o3;have B4:=Lib.hid (B3.out.grown g3 B3.out.size (fun q hq=>(O2.out.lt HM.out hq).1));clear o3))
     go_wp2
     go_roundw
     case rel=>exact⟨i+1+p+1,m+1,A3,c3,lx++[(Sx.node x.2.2 M',A2,c2)],L',by omega,by omega,by omega,by go_num,rfl,B4.out,⟨O3.out,by rw[List.length_append,HM.out];rfl,by rw[List.map_append,List.append_assoc];exact HL.out,by rw[HW3.out];exact HN.out⟩⟩
     case measure=>simp[intOf];omega
   ·obtain rfl:i=z:=by omega
    obtain⟨hI1,hI2,hI3,hI4⟩:=HI.out
    rw[Nat.sub_self,List.take_zero] at hI4
    have hL:L=[]:=by cases hI4;rfl
    subst hL
    rw[List.append_nil] at hI3
    have HE:Hid ((∃ A'' c'',Ending.returned (.slice A' m c')=.returned (.slice A'' M.length c'')∧M.length≤c''∧c''≤maxLen∧TreeL wr (fun b _=>w.heap.size≤b) A'' M)∧Below w.heap.size w wr):=by
     have hlen:m=M.length:=by rw[←hI3,List.length_map,hI2]
     refine⟨⟨A',c',by rw[hlen],?_,hI1.parts.2.1,?_⟩,hb⟩
     ·have:=hI1.parts.1;omega
     ·rw[←hI3];exact hI1.tree
    clear hI1 hI2 hI3 hI4 HI hb
    go_wp2
    go_ret
    exact HE.out
end Go.Proofs.YtcgaeknikfaghaaGreatDoor
namespace Go.Proofs.YtcgaeknikfaghaaGreatDoor
open Go.RowKit
structure MItem where
 X:Sx
 A:Option Addr
 c:Nat
 E:Int
 at_:Int
abbrev MItem.pure (x:MItem):SItem:=⟨x.X,x.E,x.at_⟩
abbrev icells (x:MItem):List Value:=[.bool x.X.list,.int .i64 x.X.k,.string x.X.T,.int .i64 x.X.ta,.int .i64 x.X.at_,.slice x.A x.X.L.length x.c,.int .i64 x.E,.int .i64 x.at_]
abbrev ibox (x:MItem):Obj:=.cells #[.bool x.X.list,.int .i64 x.X.k,.string x.X.T,.int .i64 x.X.ta,.int .i64 x.X.at_,.slice x.A x.X.L.length x.c,.int .i64 x.E,.int .i64 x.at_] 72
abbrev icellsOf (l:List MItem):List Value:=l.flatMap icells
theorem is_length (l:List MItem):(icellsOf l).length=l.length*8:=by
 induction l with
 |nil=>rfl
 |cons x l ih=>rw[icellsOf,List.flatMap_cons,List.length_append,←icellsOf,ih,List.length_cons];simp;omega
theorem infoI:(Tryz.prog.info? 72).map (fun i=>(i.zero,i.size,i.bytes))=some (some (.agg #[.bool false,.int .i64 0,.string ByteArray.empty,.int .i64 0,.int .i64 0,.slice none 0 0,.int .i64 0,.int .i64 0]),8,88):=by kernel_rfl
theorem is_get:∀ (l:List MItem) (i:Nat) (x:MItem),l[i]?=some x→∀ j,j<8→(icellsOf l)[i*8+j]?=(icells x)[j]?
 |[],i,x,h=>by simp at h
 |y::l,0,x,h=>by
  obtain rfl:y=x:=by simpa using h
  intro j hj
  rw[icellsOf,List.flatMap_cons,Nat.zero_mul,Nat.zero_add,List.getElem?_append_left (by simp;omega)]
 |y::l,i+1,x,h=>by
  intro j hj
  rw[←is_get l i x (by simpa using h) j hj,icellsOf,List.flatMap_cons,show(i+1)*8+j=(icells y).length+(i*8+j) by simp;omega,List.getElem?_append_right (by omega),Nat.add_sub_cancel_left]
theorem is_one (l:List MItem):∀ u∈icellsOf l,u.oneCell'=true:=by
 intro u hu
 obtain⟨x,_,hu⟩:=List.mem_flatMap.1 hu
 simp[icells] at hu
 rcases hu with rfl|rfl|rfl|rfl|rfl|rfl|rfl|rfl <;> rfl
structure OwnI (w:World) (B:Nat) (A:Option Addr) (c:Nat) (l:List MItem):Prop where
 row:w.ownsRow B 72 8 (.slice A l.length c) l.length (icellsOf l)
 trees:∀ x∈l,STree w (OffRow B A l.length c) x.X x.A x.c
theorem OwnI.nil (w:World) (B:Nat):OwnI w B none 0 []:=⟨World.ownsRow_nil _ _ _ _,fun _ hx=>absurd hx List.not_mem_nil⟩
theorem OwnI.kept {w w':World} {B:Nat} {A:Option Addr} {c:Nat} {l:List MItem} (h:OwnI w B A c l) (hb:Below w.heap.size w w'):OwnI w' B A c l:=
 ⟨(Turn.of_below (F:=fun _=>False) hb).own h.row (fun _ _=>id),fun x hx=>(h.trees x hx).kept hb⟩
theorem OwnI.lt {w:World} {B:Nat} {A:Option Addr} {c n:Nat} {l:List MItem} (h:OwnI w B A c l) (hn:l.length=n) {q:Nat} (hq:(Value.slice A n c).ownBlock=some q):B≤q∧q<w.heap.size:=by
 subst hn
 exact h.row.lt q hq
theorem OwnI.parts {w:World} {B:Nat} {A:Option Addr} {c:Nat} {l:List MItem} (h:OwnI w B A c l):l.length≤c∧c≤maxLen∧((A=none∧l=[])∨∃ g,A=some ⟨g,0,none⟩∧B≤g∧g<w.heap.size):=by
 rcases h.row.2 with⟨e,hn⟩|⟨g,cap,cur,e,hb,hg,hc,hm,_⟩
 ·injection e with e1 e2 e3
  exact⟨by omega,by rw[e3];exact Nat.zero_le _,.inl ⟨e1,List.eq_nil_of_length_eq_zero hn⟩⟩
 ·injection e with e1 e2 e3
  subst e3
  exact⟨hc,hm,.inr ⟨g,e1,hb,(Array.getElem?_eq_some_iff.1 hg).1⟩⟩
theorem OwnI.its {w:World} {B:Nat} {A:Option Addr} {c n:Nat} {l:List MItem} (h:OwnI w B A c l) (hn:l.length=n):ItS w A n (l.map MItem.pure):=by
 subst hn
 refine⟨by rw[List.length_map],fun h0=>?_⟩
 rcases h.parts with⟨_,_,⟨rfl,rfl⟩|⟨g,rfl,hg,hlt⟩⟩
 ·exact absurd h0 (by simp)
 ·refine⟨g,0,rfl,fun i x hx=>?_⟩
  rw[List.getElem?_map] at hx
  obtain⟨y,hy,rfl⟩:=Option.map_eq_some_iff.1 hx
  have r:=fun j (hj:j<8) u (hu:(icells y)[j]?=some u)=>h.row.cells (g:=g) rfl (i*8+j) u ((is_get l i y hy j hj).trans hu)
  have a:∀ j,(⟨g,0,none⟩:Addr).add j=⟨g,0+j,none⟩:=fun j=>addr_add g 0 j
  simp only[a] at r
  have ht:=h.trees y (List.mem_of_getElem? hy)
  refine⟨y.A,y.c,⟨hlt,r 0 (by decide) _ rfl,?_,?_,?_,?_,?_⟩,⟨ht.le,ht.tree.mono fun _ _ _ _=>trivial⟩,?_,?_⟩
  ·rw[Nat.add_assoc];exact r 1 (by decide) _ rfl
  ·rw[Nat.add_assoc];exact r 2 (by decide) _ rfl
  ·rw[Nat.add_assoc];exact r 3 (by decide) _ rfl
  ·rw[Nat.add_assoc];exact r 4 (by decide) _ rfl
  ·rw[Nat.add_assoc];exact r 5 (by decide) _ rfl
  ·rw[Nat.add_assoc];exact r 6 (by decide) _ rfl
  ·rw[Nat.add_assoc];exact r 7 (by decide) _ rfl
theorem cell_eight_new (w:World) (x0 x1 x2 x3 x4 x5 x6 x7:Value) (t:TypeId):∀ j u,[x0,x1,x2,x3,x4,x5,x6,x7][j]?=some u→(w.alloc (.cells #[x0,x1,x2,x3,x4,x5,x6,x7] t)).cell? ((⟨w.heap.size,0,none⟩:Addr).add j)=some u:=by
 intro j u hu
 have l:=Lies.new w t #[x0,x1,x2,x3,x4,x5,x6,x7]
 rw[addr_add,Nat.zero_add,l.cell j,←hu]
 simp
theorem run_appendI (w:World) (ty:TypeId) (B:Nat) (A:Option Addr) (c:Nat) (l:List MItem) (n:Nat) (hn:l.length=n) (d:MItem) (g:Nat) (hg:w.heap.size=g) (hown:OwnI w B A c l) (hd:STree w (OffRow B A n c) d.X d.A d.c) (hl:n≤1000000) (hB:B≤w.heap.size):
  ∃ A' c' w',(Builtin.append_ #[69,69] ty #[.slice A n c,.slice (some ⟨g,0,none⟩) 1 1]).run Tryz.prog (w.alloc (ibox d))=.ok (.slice A' (n+1) c') w'∧OwnI w' B A' c' (l++[d])∧w.grownBy w' (Value.slice A n c).ownBlock:=by
 subst hn
 subst hg
 obtain⟨i0,hi,hz0,hz1,hz2⟩:=info_parts infoI
 obtain⟨v',w',hr,q1,q2,_,q4⟩:=run_append_own_at (P:=Tryz.prog) (w.alloc (ibox d)) B 69 ty 72 i0 (.agg #[.bool false,.int .i64 0,.string ByteArray.empty,.int .i64 0,.int .i64 0,.slice none 0 0,.int .i64 0,.int .i64 0]) 8 88 Tryz.underlying69 hi hz0 hz1 hz2 rfl (by decide) (.slice A l.length c) l.length (icellsOf l)
  (World.ownsRow.alloc hown.row _) ⟨w.heap.size,0,none⟩ 1 1 (icells d) rfl (cell_eight_new _ _ _ _ _ _ _ _ _ _) (fun u hu=>is_one [d] u (by simpa [icellsOf] using hu)) (by unfold maxLen;omega) (by omega) (by simp;omega)
 obtain⟨A',c',rfl⟩:=own_form q1
 have hgb:w.grownBy w' (Value.slice A l.length c).ownBlock:=⟨q2.os,q2.tape,q2.output,Nat.le_trans (by simp) q2.size,fun k hk hne=>(q2.block k (by simp;omega) hne).trans (Below.heap_alloc w _ k hk)⟩
 refine⟨A',c',w',hr,⟨?_,?_⟩,hgb⟩
 ·have e:icellsOf l++icells d=icellsOf (l++[d]):=by simp[icellsOf]
  rw[e] at q1
  rw[List.length_append]
  exact q1
 ·have hall:∀ x∈l++[d],STree w (OffRow B A l.length c) x.X x.A x.c:=by
   intro x hx
   rcases List.mem_append.1 hx with hx|hx
   ·exact hown.trees x hx
   ·rw[List.mem_singleton.1 hx]
    exact hd
  intro x hx
  refine⟨(hall x hx).le,(hall x hx).tree.imp hgb.size (fun b off hb hG j _=>?_) (fun b off hb hG=>⟨hG.1,?_⟩)⟩
  ·exact World.cell?_of_block (w:=w) (hgb.block b hb fun e=>hG.2 e.symm)
  ·rw[List.length_append]
   rcases q4 with q4|q4
   ·intro e
    exact hG.2 (q4.symm.trans e)
   ·intro e
    have:=q4.symm.trans e
    injection this with this
    simp at this
    omega
theorem appendI (w:World) {ops:Array Oper} {rest:List Oper} {o:Oper} {a:Act} {Q:Exit→Act→World→Prop} (hgd:o.guard=none) (s x:Operand)
  (ho:o.op=.call { callee:=.builtin .append,args:=#[s,x],argTypes:=#[69,69] }) (B:Nat) (A:Option Addr) (c:Nat) (l:List MItem) (n:Nat) (hn:l.length=n) (d:MItem) (g:Nat) (hg:w.heap.size=g)
  (hs:a.eval s=.slice A n c) (hown:OwnI w B A c l) (hd:STree w (OffRow B A n c) d.X d.A d.c) (hx:a.eval x=.slice (some ⟨g,0,none⟩) 1 1) (hl:n≤1000000) (hB:B≤w.heap.size)
  (h:∀ A' c' w',OwnI w' B A' c' (l++[d])→w.grownBy w' (Value.slice A n c).ownBlock→wpList Tryz.prog ops Q rest (a.put o.dst (.slice A' (n+1) c')) w'):
  wpList Tryz.prog ops Q (o::rest) a (w.alloc (ibox d)):=by
 refine wpList_plain hgd fun K hK=>?_
 obtain⟨A',c',w',hr,h2,h3⟩:=run_appendI w o.type B A c l n hn d g hg hown hd hl hB
 unfold Oper.wp execOp
 simp only[ho,resolve,invoke,builtin,Sem.run_bind,Sem.run_pure,Result.andThen_ok,List.map_toArray,List.map_cons,List.map_nil,hs,hx,hr]
 exact hK _ _ (h A' c' w' h2 h3)
end Go.Proofs.YtcgaeknikfaghaaGreatDoor
