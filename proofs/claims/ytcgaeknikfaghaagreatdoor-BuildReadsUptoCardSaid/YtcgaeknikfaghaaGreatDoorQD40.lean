/- What the proofs of this claim use, text by text. -/
import Derived.Test.YtcgaeknikfaghaaGreatDoorQD29
import Derived.Lib.MinMax
import Derived.Laws.MakeOwn
import Derived.Laws.OwnMore
import Derived.BigRegion
set_option linter.unusedSimpArgs false
set_option linter.unusedVariables false
set_option maxRecDepth 100000
set_option maxHeartbeats 25600000
namespace Go.Proofs.YtcgaeknikfaghaaGreatDoor
open Go.RowKit
def ExtSaid (o:Option (Nat×Nat)) (e:Ending):Prop:=
 match o with
 |none=>∃ z:Int,e=.returned (.tuple #[.int .i64 0,.int .i64 z])
 |some (s,d)=>∃ z m:Int,e=.returned (.tuple #[.int .i64 z,.int .i64 m])∧z=(s:Nat)∧m=(d:Nat)
theorem kextent (w:World) (A:Option Addr) (n c:Nat) (l:List ITok) (t:ITok) (h:TokS w A n l) (ht:l[0]?=some t) (h1:t.1=1) (hn:n≤1000000):
  Calls Tryz.prog 150 #[.slice A n c] w fun e w'=>ExtSaid (clos 0 0 l) e∧Below w.heap.size w w':=by
 obtain⟨X,hX⟩:∃ X,clos 0 0 l=X:=⟨_,rfl⟩
 rw[hX]
 have HX:=Lib.hid hX
 have HH:=Lib.hid h
 have HT:=Lib.hid ht
 have H1:=Lib.hid h1
 clear hX h ht h1
 go_enter Tryz.func150,Tryz.ntmps150
 go_wp2
 go_loopw [3,4,9] (fun mv nv iv wr=>∃ i lv most:Nat,i≤n∧lv≤i∧most≤i∧lv≤most∧iv=.int .i64 (i:Nat)∧nv=.int .i64 (lv:Nat)∧mv=.int .i64 (most:Nat)∧Below w.heap.size w wr∧(lv=0→i=0)∧Hid ((clos lv most (l.drop i)).map (fun x=>(x.1+i,x.2))=X)) (fun _ _ iv _=>n-(intOf iv).toNat)
 case atStart=>exact⟨0,0,0,Nat.zero_le _,Nat.le_refl _,Nat.le_refl _,Nat.le_refl _,rfl,rfl,rfl,Below.refl _ _,fun _=>rfl,by show _=_;rw[List.drop_zero,HX.out];cases X <;> simp⟩
 case round=>
  obtain⟨i,lv,most,hi,hli,hmi,hlm,rfl,rfl,rfl,hb,h0,HI⟩:=hrel
  have HB:=Lib.hid hb
  have HA:Hid (∀ o,Below w.heap.size w (wr.alloc o)):=fun o=>hb.alloc hb.size o
  by_cases hlt:i<n
  ·obtain⟨b,off,x,rfl,hx,hdr,hc⟩:=HH.out.get hlt
   obtain⟨z0,z1,z2,z3⟩:=hc wr hb
   obtain⟨xk,xt,xa⟩:=x
   have hk0:lv=0→xk=1:=fun e=>by
    have e1:=h0 e
    subst e1
    rw[HT.out] at hx
    injection hx with hx
    have:=H1.out
    rw[hx] at this
    exact this
   have hd:=HI.out
   rw[hdr] at hd
   have hlt':(i:Int)<(n:Int):=by omega
   have hi0:(0:Int)≤(i:Int):=by omega
   clear HI hc hx hdr h0
   have hways:(xk=1∧Hid ((clos (lv+1) (max most (lv+1)) (l.drop (i+1))).map (fun x=>(x.1+(i+1),x.2))=X))∨
     (xk=2∧lv=1∧X=some (i+1,most))∨(xk=2∧(∃ k,lv=k+2)∧Hid ((clos (lv-1) most (l.drop (i+1))).map (fun x=>(x.1+(i+1),x.2))=X))∨
     (xk≠1∧xk≠2∧0<lv∧Hid ((clos lv most (l.drop (i+1))).map (fun x=>(x.1+(i+1),x.2))=X)):=by
    have e:1+i=i+1:=by omega
    by_cases e1:xk=1
    ·rw[clos_open _ (show((xk,xt,xa):ITok).1=1 from e1),map_shift,e] at hd
     exact .inl ⟨e1,hd⟩
    ·have hl0:0<lv:=Nat.pos_of_ne_zero fun e=>e1 (hk0 e)
     by_cases e2:xk=2
     ·by_cases e3:lv=1
      ·subst e3
       rw[clos_last _ (show((xk,xt,xa):ITok).1=2 from e2)] at hd
       exact .inr (.inl ⟨e2,rfl,by rw[←hd];simp;omega⟩)
      ·obtain⟨k,rfl⟩:∃ k,lv=k+2:=⟨lv-2,by omega⟩
       rw[clos_close _ (show((xk,xt,xa):ITok).1=2 from e2) (by omega),map_shift,e] at hd
       exact .inr (.inr (.inl ⟨e2,⟨k,rfl⟩,hd⟩))
     ·obtain⟨k,rfl⟩:∃ k,lv=k+1:=⟨lv-1,by omega⟩
      rw[clos_atom _ (show((xk,xt,xa):ITok).1≠1 from e1) e2 (by omega),map_shift,e] at hd
      exact .inr (.inr (.inr ⟨e1,e2,by omega,hd⟩))
   clear hd hk0
   rcases hways with⟨rfl,HN⟩|⟨rfl,rfl,rfl⟩|⟨rfl,⟨k,rfl⟩,HN⟩|⟨e1,e2,e3,HN⟩
   ·have hz:((lv:Int)+1 == 0)=false:=beq_eq_false_iff_ne.2 (by omega)
    obtain⟨q,hq⟩:∃ q,max most (lv+1)=q:=⟨_,rfl⟩
    have hqi:max (most:Int) ((lv:Int)+1)=(q:Int):=by omega
    have hq1:q≤i+1∧lv+1≤q:=by omega
    rw[hq] at HN
    clear hq
    go_wp2
    go_roundw
    case rel=>exact⟨i+1,lv+1,q,by omega,by omega,hq1.1,hq1.2,by go_num,by go_num,rfl,HA.out _,fun e=>absurd e (by omega),HN⟩
    case measure=>simp[intOf];omega
   ·go_wp2
    go_ret2
    exact⟨⟨_,_,rfl,by omega,rfl⟩,HA.out _⟩
   ·have hz:((k:Int)+1 == 0)=false:=beq_eq_false_iff_ne.2 (by omega)
    have hk2:((k+2:Nat):Int)-1=(k:Int)+1:=by omega
    go_wp2
    go_roundw
    case rel=>exact⟨i+1,k+1,most,by omega,by omega,by omega,by omega,by go_num,by go_num,rfl,HA.out _,fun e=>absurd e (by omega),HN⟩
    case measure=>simp[intOf];omega
   ·have b1:(xk == 1)=false:=beq_eq_false_iff_ne.2 e1
    have b2:(xk == 2)=false:=beq_eq_false_iff_ne.2 e2
    have hz:((lv:Int) == 0)=false:=beq_eq_false_iff_ne.2 (by omega)
    go_wp2
    go_roundw
    case rel=>exact⟨i+1,lv,most,by omega,by omega,by omega,by omega,by go_num,rfl,rfl,HA.out _,fun e=>absurd e (by omega),HN⟩
    case measure=>simp[intOf];omega
  ·obtain rfl:i=n:=by omega
   have hX:X=none:=by
    have:=HI.out
    rw[List.drop_of_length_le (by rw[HH.out.len];exact Nat.le_refl _),clos] at this
    exact this.symm
   subst hX
   clear HI
   go_wp2
   go_ret2
   exact⟨⟨_,rfl⟩,HB.out⟩
end Go.Proofs.YtcgaeknikfaghaaGreatDoor
namespace Go.Proofs.YtcgaeknikfaghaaGreatDoor
open Go.RowKit
theorem infoN:(Tryz.prog.info? 3).map (fun i=>(i.zero,i.size,i.bytes))=some (some (.int .i64 0),1,8):=by kernel_rfl
def HasAt (w:World) (g n:Nat) (f:Nat→Nat):Prop:=∃ cs,Lies w g 3 cs∧cs.size=n∧∀ q,q<n→cs[q]?=some (.int .i64 (f q:Nat))
theorem HasAt.lt {w:World} {g n:Nat} {f:Nat→Nat} (h:HasAt w g n f):g<w.heap.size:=by obtain⟨cs,h1,_⟩:=h;exact h1.lt
theorem HasAt.cell {w:World} {g n q:Nat} {f:Nat→Nat} (h:HasAt w g n f) (hq:q<n):w.cell? ⟨g,q,none⟩=some (.int .i64 (f q:Nat))∧w.frozen? ⟨g,q,none⟩=false:=by
 obtain⟨cs,h1,h2,h3⟩:=h
 exact⟨(h1.cell q).trans (h3 q hq),h1.free q⟩
theorem HasAt.turn {F:Nat→Prop} {w w':World} {g n:Nat} {f:Nat→Nat} (h:HasAt w g n f) (ht:Turn F w w') (hF:¬F g):HasAt w' g n f:=by
 obtain⟨cs,h1,h2⟩:=h
 exact⟨cs,ht.lies h1 hF,h2⟩
theorem HasAt.put {w:World} {g n j v:Nat} {f:Nat→Nat} (h:HasAt w g n f) (hv:v=f j+1):HasAt (w.setCell ⟨g,j,none⟩ (.int .i64 (v:Nat))) g n (fun q=>f q+if q=j then 1 else 0):=by
 obtain⟨cs,h1,h2,h3⟩:=h
 refine⟨_,h1.put j _,by simp[h2],fun q hq=>?_⟩
 rw[Array.getElem?_setIfInBounds]
 by_cases e:j=q
 ·subst e
  rw[if_pos rfl,if_pos (by omega),hv]
  simp
 ·rw[if_neg e,h3 q hq]
  have e':¬q=j:=fun h=>e h.symm
  simp[e']
theorem make_ints (n:Nat) (hn:n≤1000000):∃ cs:Array Value,cs.size=n∧(∀ q,q<n→cs[q]?=some (.int .i64 ((0:Nat):Int)))∧∀ W:World,(Instr.makeSlice 44 (.int .i64 (n:Nat)) (.int .i64 (n:Nat))).run Tryz.prog W=.ok (.slice (some ⟨W.heap.size,0,none⟩) n n) (W.alloc (.cells cs 3)):=by
 obtain⟨i0,hi,hz0,hz1,hz2⟩:=info_parts infoN
 refine⟨madeCells (Value.int .i64 0).cells (n*i0.size),by rw[size_madeCells,hz1,Nat.mul_one],fun q hq=>?_,fun W=>?_⟩
 ·rw[hz1,Nat.mul_one]
  simp[madeCells,Value.cells,hq,Nat.mod_one]
 ·have:=run_makeSlice (P:=Tryz.prog) W 44 3 i0 (.int .i64 0) Tryz.underlying44 hi hz0 .i64 .i64 (n:Nat) (n:Nat) (by omega) (Int.le_refl _) (by rw[hz1];simp;omega) (by rw[hz2];omega) (by omega)
  simp only[Int.toNat_natCast] at this
  exact this
theorem crun_step {t:ITok} {l:List ITok} {i a:Nat} {h:Nat→Nat} {o:List Nat} {R:(Nat→Nat)×Nat} (e:crun (t::l) i h o a=some R):
  (t.1=2∧∃ j o',o=j::o'∧crun l (i+1) h o' a=some R)∨(t.1=1∧o=[]∧crun l (i+1) h [i] a=some R)∨
  (t.1=1∧∃ j o',o=j::o'∧crun l (i+1) (fun q=>h q+if q=j then 1 else 0) (i::j::o') (a+1)=some R)∨
  (t.1≠1∧t.1≠2∧∃ j o',o=j::o'∧crun l (i+1) (fun q=>h q+if q=j then 1 else 0) (j::o') (a+1)=some R):=by
 rw[crun.eq_def] at e
 simp only at e
 by_cases h2:t.1=2
 ·rw[if_pos h2] at e
  cases o with
  |nil=>cases e
  |cons j o'=>exact .inl ⟨h2,j,o',rfl,e⟩
 ·rw[if_neg h2] at e
  cases o with
  |nil=>
   simp only at e
   by_cases h1:t.1=1
   ·rw[if_pos h1] at e
    exact .inr (.inl ⟨h1,rfl,e⟩)
   ·rw[if_neg h1] at e
    cases e
  |cons j o'=>
   simp only at e
   by_cases h1:t.1=1
   ·rw[if_pos h1] at e
    exact .inr (.inr (.inl ⟨h1,j,o',rfl,e⟩))
   ·rw[if_neg h1] at e
    exact .inr (.inr (.inr ⟨h1,h2,j,o',rfl,e⟩))
theorem nats_rev (j:Nat) (o:List Nat):nats (j::o).reverse=nats o.reverse++[.int .i64 (j:Int)]:=by simp[nats]
def OwnO (w:World) (B:Nat) (A:Option Addr) (c:Nat) (o:List Nat):Prop:=w.ownsRow B 3 1 (.slice A o.length c) o.length (nats o.reverse)
theorem OwnO.nil (w:World) (B:Nat):OwnO w B none 0 []:=World.ownsRow_nil _ _ _ _
theorem OwnO.turn {F:Nat→Prop} {w w':World} {B:Nat} {A:Option Addr} {c:Nat} {o:List Nat} (h:OwnO w B A c o) (ht:Turn F w w') (hF:∀ b,B≤b→¬F b):OwnO w' B A c o:=
 ht.own h (fun g hg=>hF g (World.ownsRow.lt h g hg).1)
theorem OwnO.lt {w:World} {B:Nat} {A:Option Addr} {c n:Nat} {o:List Nat} (h:OwnO w B A c o) (hn:o.length=n) {q:Nat} (hq:(Value.slice A n c).ownBlock=some q):B≤q∧q<w.heap.size:=by
 subst hn
 exact World.ownsRow.lt h q hq
theorem OwnO.top {w:World} {B:Nat} {A:Option Addr} {c j:Nat} {o:List Nat} (h:OwnO w B A c (j::o)):∃ g,A=some ⟨g,0,none⟩∧B≤g∧g<w.heap.size∧o.length+1≤c∧w.cell? ⟨g,o.length,none⟩=some (.int .i64 (j:Nat)):=by
 have hc:=fun g (hg:(Value.slice A (j::o).length c).ownBlock=some g)=>World.ownsRow.cells h hg o.length (.int .i64 (j:Int)) (by rw[nats_rev,List.getElem?_append_right (by simp[nats])];simp[nats])
 rcases h.2 with⟨_,h0⟩|⟨g,cap,cur,e,hb,hg,q1,_⟩
 ·exact absurd h0 (by simp)
 ·injection e with e1 e2 e3
  subst e1
  subst e3
  refine⟨g,rfl,hb,(Array.getElem?_eq_some_iff.1 hg).1,q1,?_⟩
  have:=hc g rfl
  rw[addr_add,Nat.zero_add] at this
  exact this
theorem OwnO.pop {w:World} {B:Nat} {A:Option Addr} {c j:Nat} {o:List Nat} (h:OwnO w B A c (j::o)):OwnO w B A c o:=by
 have:=own_take (k:=o.length) h (by simp)
 have e:(nats (j::o).reverse).take (o.length*1)=nats o.reverse:=by rw[nats_rev,Nat.mul_one,List.take_append_of_le_length (by simp[nats]),List.take_of_length_le (by simp[nats])]
 rw[e] at this
 exact this
theorem OwnO.push {w':World} {B:Nat} {A:Option Addr} {c i n:Nat} {o:List Nat} (hn:o.length=n) (h:w'.ownsRow B 3 1 (.slice A (n+1) c) (n+1) (nats o.reverse++[.int .i64 (i:Int)])):OwnO w' B A c (i::o):=by
 unfold OwnO
 rw[nats_rev,List.length_cons,hn]
 exact h
theorem appendO (w:World) {ops:Array Oper} {rest:List Oper} {o:Oper} {a:Act} {Q:Exit→Act→World→Prop} (hgd:o.guard=none) (s x:Operand)
  (ho:o.op=.call { callee:=.builtin .append,args:=#[s,x],argTypes:=#[44,44] }) (B:Nat) (A:Option Addr) (c:Nat) (l:List Nat) (n:Nat) (hn:l.length=n) (i:Nat) (g:Nat) (hg:w.heap.size=g)
  (hs:a.eval s=.slice A n c) (hown:OwnO w B A c l) (hx:a.eval x=.slice (some ⟨g,0,none⟩) 1 1) (hl:n≤1000000) (hB:B≤w.heap.size)
  (h:∀ A' c' w',OwnO w' B A' c' (i::l)→w.grownBy w' (Value.slice A n c).ownBlock→wpList Tryz.prog ops Q rest (a.put o.dst (.slice A' (n+1) c')) w'):
  wpList Tryz.prog ops Q (o::rest) a (w.alloc (.cells #[.int .i64 (i:Nat)] 3)):=by
 subst hg
 obtain⟨i0,hi,hz0,hz1,hz2⟩:=info_parts infoN
 refine append_row _ hgd s x 44 ho B 3 i0 (.int .i64 0) 8 Tryz.underlying44 hi hz0 hz1 hz2 rfl _ n (nats l.reverse) hs (by subst hn;exact World.ownsRow.alloc hown _) ⟨w.heap.size,0,none⟩ 1 1 [.int .i64 (i:Nat)] hx rfl (cell_one_new _ _ _) (fun u hu=>by simp at hu;subst hu;rfl) (by unfold maxLen;omega) (by omega) (by simp;omega) ?_
 intro A' c' w' q1 q2 _
 exact h A' c' w' (OwnO.push hn q1) ⟨q2.os,q2.tape,q2.output,Nat.le_trans (by simp) q2.size,fun k hk hne=>(q2.block k (by simp;omega) hne).trans (Below.heap_alloc w _ k hk)⟩
theorem kcounts (w:World) (A:Option Addr) (n c:Nat) (l:List ITok) (f:Nat→Nat) (a:Nat) (h:TokS w A n l) (hn:n≤1000000) (hr:crun l 0 (fun _=>0) [] 0=some (f,a)):
  Calls Tryz.prog 182 #[.slice A n c] w fun e w'=>(∃ g,e=.returned (.tuple #[.slice (some ⟨g,0,none⟩) n n,.int .i64 (a:Nat)])∧w.heap.size≤g∧HasAt w' g n f)∧Below w.heap.size w w':=by
 obtain⟨cs,hc1,hc2,hmk⟩:=make_ints n hn
 have HH:=Lib.hid h
 have HR:=Lib.hid hr
 have HC:=Lib.hid (And.intro hc1 hc2)
 have HM:=Lib.hid hmk
 have mk:=hmk w
 clear h hr hc1 hc2 hmk
 go_enter Tryz.func182,Tryz.ntmps182
 go_wp2
 generalize hW0:w.alloc (Obj.cells cs 3)=W0
 have HW0:Hid (Below w.heap.size w W0∧HasAt W0 w.heap.size n (fun _=>0)):=by
  show _∧_
  rw[←hW0]
  exact⟨(Below.refl _ w).alloc (Nat.le_refl _) _,cs,Lies.new _ _ _,HC.out⟩
 obtain⟨g,hg⟩:∃ g,w.heap.size=g:=⟨_,rfl⟩
 have HG:Hid (w.heap.size=g):=hg
 rw[hg] at HW0
 rw[hg]
 clear hW0 hg mk HM HC
 go_loopw [3,4,13] (fun av ov iv wr=>∃ (i a' m:Nat) (A':Option Addr) (c':Nat) (hf:Nat→Nat) (o:List Nat),i≤n∧a'≤i∧m≤i∧iv=.int .i64 (i:Nat)∧av=.int .i64 (a':Nat)∧ov=.slice A' m c'∧Below g w wr∧
  Hid (HasAt wr g n hf∧OwnO wr (g+1) A' c' o∧o.length=m∧(∀ q,hf q≤i)∧(∀ j∈o,j<i)∧crun (l.drop i) i hf o a'=some (f,a))) (fun _ _ iv _=>n-(intOf iv).toNat)
 case atStart=>exact⟨0,0,0,none,0,fun _=>0,[],Nat.zero_le _,Nat.le_refl _,Nat.le_refl _,rfl,rfl,rfl,by rw[←HG.out];exact HG.out▸HW0.out.1,HW0.out.2,OwnO.nil _ _,rfl,fun _=>Nat.le_refl _,fun j hj=>absurd hj List.not_mem_nil,by rw[List.drop_zero];exact HR.out⟩
 case round=>
  clear HW0 HR
  obtain⟨i,a',m,A',c',hf,o,hi,ha,hm,rfl,rfl,rfl,hb,HI⟩:=hrel
  have HB:=Lib.hid hb
  obtain⟨hI1,hI2,hI3,hI4,hI5,hI6⟩:=HI.out
  by_cases hlt:i<n
  ·obtain⟨b,off,x,rfl,hx,hdr,hc⟩:=HH.out.get hlt
   obtain⟨z0,z1,z2,z3⟩:=hc wr (HG.out▸hb)
   obtain⟨xk,xt,xa⟩:=x
   rw[hdr] at hI6
   have hlt':(i:Int)<(n:Int):=by omega
   have hi0:(0:Int)≤(i:Int):=by omega
   have HL:=Lib.hid hI3
   have HA:Hid (∀ W W':World,∀ o2:Obj,Below g w W→Below g w (W.alloc o2)):=fun W W' o2 hW=>hW.alloc (Nat.le_trans (Nat.le_of_eq HG.out.symm) hW.size) o2
   have hgw:g≤wr.heap.size:=Nat.le_trans (Nat.le_of_eq HG.out.symm) hb.size
   have HgL:Hid (g<wr.heap.size):=hI1.lt
   rcases crun_step hI6 with⟨h2,j,o',rfl,hr⟩|⟨h1,rfl,hr⟩|⟨h1,j,o',rfl,hr⟩|⟨h1,h2,j,o',rfl,hr⟩
   ·have h2:xk=2:=h2
    subst h2
    rw[List.length_cons] at hI3
    obtain⟨go_,rfl,hgo1,hgo2,hcap,hj⟩:=hI2.top
    obtain⟨k,rfl⟩:∃ k,m=k+1:=⟨m-1,by omega⟩
    have hk:o'.length=k:=by omega
    have hcut:=fun W=>cut_h (T:=44) (s:=1) Tryz.underlying44 (fun W=>by kernel_rfl) (n:=k+1) (c:=c') (k:=k) W (own_add hI2) (by omega)
    have HN:Hid (∀ o2:Obj,HasAt (wr.alloc o2) g n hf∧OwnO (wr.alloc o2) (g+1) (some ⟨go_,0,none⟩) c' o'∧Below g w (wr.alloc o2)):=fun o2=>
     have e:=(Turn.refl (fun _=>False) wr).alloc o2
     ⟨hI1.turn e id,hI2.pop.turn e (fun _ _=>id),HA.out wr wr o2 hb⟩
    have HNN:=Lib.hid (And.intro hk (And.intro (fun q=>Nat.le_succ_of_le (hI4 q)) (And.intro (fun j hj=>Nat.lt_succ_of_lt (hI5 j (List.mem_cons_of_mem _ hj))) hr)))
    clear hI1 hI2 hI3 hI4 hI5 hI6 HI hb hx hdr hc hlt hr hk HA HL hj hcap
    go_wp2
    go_roundw
    case rel=>exact⟨i+1,a',k,some ⟨go_,0,none⟩,c',hf,o',by omega,by omega,by omega,by go_num,rfl,rfl,(HN.out _).2.2,(HN.out _).1,(HN.out _).2.1,HNN.out.1,HNN.out.2.1,HNN.out.2.2.1,HNN.out.2.2.2⟩
    case measure=>simp[intOf];omega
   ·have h1:xk=1:=h1
    subst h1
    obtain rfl:m=0:=by rw[←hI3];rfl
    have HN:Hid (∀ o2:Obj,HasAt (wr.alloc o2) g n hf∧OwnO (wr.alloc o2) (g+1) A' c' []∧Below g w (wr.alloc o2)∧g+1≤(wr.alloc o2).heap.size):=fun o2=>
     have e:=(Turn.refl (fun _=>False) wr).alloc o2
     ⟨hI1.turn e id,OwnO.turn hI2 e (fun _ _=>id),HA.out wr wr o2 hb,Nat.le_trans HgL.out e.size⟩
    have HO:=Lib.hid hI2
    have HNN:=Lib.hid (And.intro (fun q=>Nat.le_succ_of_le (hI4 q)) hr)
    clear hI1 hI2 hI3 hI4 hI5 hI6 HI hb hx hdr hc hlt hr HA
    go_wp2_with (at_builtin;refine appendO _ rfl (.tmp 43) (.tmp 45) rfl (g+1) A' c' [] 0 rfl i _ (by simp) rfl (HN.out _).2.1 rfl (by omega) (HN.out _).2.2.2 ?_;intro A3 c3 w3 o3 g3;have O3:=Lib.hid o3;have B3:=Lib.hid ((HN.out _).2.2.1.grown g3 (Nat.le_of_succ_le (HN.out _).2.2.2) (fun q hq=>Nat.le_of_succ_le (HO.out.lt rfl hq).1));have F3:=Lib.hid ((HN.out _).1.turn (Turn.of_grown (F:=fun b=>g+1≤b) g3 (fun q hq _=>(HO.out.lt rfl hq).1)) (by omega));clear o3 g3)
    go_roundw
    case rel=>exact⟨i+1,a',1,A3,c3,hf,[i],by omega,by omega,by omega,by go_num,rfl,rfl,B3.out,F3.out,O3.out,rfl,HNN.out.1,fun j hj=>by rw[List.mem_singleton.1 hj];exact Nat.lt_succ_self _,HNN.out.2⟩
    case measure=>simp[intOf];omega
   ·have h1:xk=1:=h1
    subst h1
    rw[List.length_cons] at hI3
    obtain⟨go_,rfl,hgo1,hgo2,hcap,hj⟩:=hI2.top
    obtain⟨k,rfl⟩:∃ k,m=k+1:=⟨m-1,by omega⟩
    have hk:o'.length=k:=by omega
    rw[hk] at hj
    have hji:=hI5 j List.mem_cons_self
    obtain⟨hc1,hc2⟩:=hI1.cell (q:=j) (by omega)
    have hgl:=HgL.out
    have hfj:=hI4 j
    obtain⟨v,hv⟩:∃ v,hf j=v:=⟨_,rfl⟩
    rw[hv] at hc1 hfj
    have hv1:((v+1:Nat):Int)=(v:Int)+1:=by omega
    have hjn:(j:Int)<(n:Int):=by omega
    have hj0:(0:Int)≤(j:Int):=by omega
    have hk0:(k:Int)<(k:Int)+1:=by omega
    have HN:Hid (∀ o2:Obj,HasAt ((wr.setCell ⟨g,j,none⟩ (.int .i64 ((v:Int)+1))).alloc o2) g n (fun q=>hf q+if q=j then 1 else 0)∧OwnO ((wr.setCell ⟨g,j,none⟩ (.int .i64 ((v:Int)+1))).alloc o2) (g+1) (some ⟨go_,0,none⟩) c' (j::o')∧Below g w ((wr.setCell ⟨g,j,none⟩ (.int .i64 ((v:Int)+1))).alloc o2)∧g+1≤((wr.setCell ⟨g,j,none⟩ (.int .i64 ((v:Int)+1))).alloc o2).heap.size):=fun o2=>by
     have e:=((Turn.refl (fun b=>b=g) wr).put (p:=⟨g,j,none⟩) (.inl rfl) (.int .i64 ((v:Int)+1)))
     have e2:=(Turn.refl (fun _=>False) (wr.setCell ⟨g,j,none⟩ (.int .i64 ((v:Int)+1)))).alloc o2
     have p:=hI1.put (j:=j) (v:=v+1) (by rw[hv])
     rw[hv1] at p
     exact⟨p.turn e2 id,OwnO.turn (OwnO.turn hI2 e (fun b hb e=>absurd hb (by omega))) e2 (fun _ _=>id),(hb.trans (e.below hgw (fun _ e=>Nat.le_of_eq e.symm))).alloc (Nat.le_trans hgw e.size) o2,Nat.le_trans HgL.out (Nat.le_trans e.size e2.size)⟩
    have HO:=Lib.hid hI2
    have HK:Hid ((j::o').length=k+1):=by show _=_;rw[List.length_cons,hk]
    have HNN:=Lib.hid (And.intro (fun q=>show hf q+(if q=j then 1 else 0)≤i+1 from by have:=hI4 q;split <;> omega) (And.intro (fun(j2:Nat) (hj2:j2∈j::o')=>Nat.lt_succ_of_lt (hI5 j2 hj2)) hr))
    clear hI1 hI2 hI3 hI4 hI5 hI6 HI hb hx hdr hc hlt hr HA hv hv1 hk hji
    go_wp2_with (at_builtin;refine appendO _ rfl (.tmp 43) (.tmp 45) rfl (g+1) (some ⟨go_,0,none⟩) c' (j::o') (k+1) HK.out i _ (by simp) rfl (HN.out _).2.1 rfl (by omega) (HN.out _).2.2.2 ?_;intro A3 c3 w3 o3 g3;have O3:=Lib.hid o3;have B3:=Lib.hid ((HN.out _).2.2.1.grown g3 (Nat.le_of_succ_le (HN.out _).2.2.2) (fun q hq=>Nat.le_of_succ_le (HO.out.lt HK.out hq).1));have F3:=Lib.hid ((HN.out _).1.turn (Turn.of_grown (F:=fun b=>g+1≤b) g3 (fun q hq _=>(HO.out.lt HK.out hq).1)) (by omega));clear o3 g3)
    go_roundw
    case rel=>exact⟨i+1,a'+1,k+2,A3,c3,_,i::j::o',by omega,by omega,by omega,by go_num,by go_num,rfl,B3.out,F3.out,O3.out,by rw[List.length_cons,HK.out],HNN.out.1,fun j2 hj2=>(by rcases List.mem_cons.1 hj2 with e|e;rw[e];exact Nat.lt_succ_self _;exact HNN.out.2.1 j2 e),HNN.out.2.2⟩
    case measure=>simp[intOf];omega
   ·have b1:(xk == 1)=false:=beq_eq_false_iff_ne.2 h1
    have b2:(xk == 2)=false:=beq_eq_false_iff_ne.2 h2
    rw[List.length_cons] at hI3
    obtain⟨go_,rfl,hgo1,hgo2,hcap,hj⟩:=hI2.top
    obtain⟨k,rfl⟩:∃ k,m=k+1:=⟨m-1,by omega⟩
    have hk:o'.length=k:=by omega
    rw[hk] at hj
    have hji:=hI5 j List.mem_cons_self
    obtain⟨hc1,hc2⟩:=hI1.cell (q:=j) (by omega)
    have hgl:=HgL.out
    have hfj:=hI4 j
    obtain⟨v,hv⟩:∃ v,hf j=v:=⟨_,rfl⟩
    rw[hv] at hc1 hfj
    have hv1:((v+1:Nat):Int)=(v:Int)+1:=by omega
    have hjn:(j:Int)<(n:Int):=by omega
    have hj0:(0:Int)≤(j:Int):=by omega
    have hk0:(k:Int)<(k:Int)+1:=by omega
    have HN:Hid (∀ o2:Obj,HasAt ((wr.setCell ⟨g,j,none⟩ (.int .i64 ((v:Int)+1))).alloc o2) g n (fun q=>hf q+if q=j then 1 else 0)∧OwnO ((wr.setCell ⟨g,j,none⟩ (.int .i64 ((v:Int)+1))).alloc o2) (g+1) (some ⟨go_,0,none⟩) c' (j::o')∧Below g w ((wr.setCell ⟨g,j,none⟩ (.int .i64 ((v:Int)+1))).alloc o2)∧g+1≤((wr.setCell ⟨g,j,none⟩ (.int .i64 ((v:Int)+1))).alloc o2).heap.size):=fun o2=>by
     have e:=((Turn.refl (fun b=>b=g) wr).put (p:=⟨g,j,none⟩) (.inl rfl) (.int .i64 ((v:Int)+1)))
     have e2:=(Turn.refl (fun _=>False) (wr.setCell ⟨g,j,none⟩ (.int .i64 ((v:Int)+1)))).alloc o2
     have p:=hI1.put (j:=j) (v:=v+1) (by rw[hv])
     rw[hv1] at p
     exact⟨p.turn e2 id,OwnO.turn (OwnO.turn hI2 e (fun b hb e=>absurd hb (by omega))) e2 (fun _ _=>id),(hb.trans (e.below hgw (fun _ e=>Nat.le_of_eq e.symm))).alloc (Nat.le_trans hgw e.size) o2,Nat.le_trans HgL.out (Nat.le_trans e.size e2.size)⟩
    have HO:=Lib.hid hI2
    have HK:Hid ((j::o').length=k+1):=by show _=_;rw[List.length_cons,hk]
    have HNN:=Lib.hid (And.intro (fun q=>show hf q+(if q=j then 1 else 0)≤i+1 from by have:=hI4 q;split <;> omega) (And.intro (fun(j2:Nat) (hj2:j2∈j::o')=>Nat.lt_succ_of_lt (hI5 j2 hj2)) hr))
    clear hI1 hI2 hI3 hI4 hI5 hI6 HI hb hx hdr hc hlt hr HA hv hv1 hk hji h1 h2
    go_wp2
    go_roundw
    case rel=>exact⟨i+1,a'+1,k+1,some ⟨go_,0,none⟩,c',_,j::o',by omega,by omega,by omega,by go_num,by go_num,rfl,(HN.out _).2.2.1,(HN.out _).1,(HN.out _).2.1,HK.out,HNN.out.1,HNN.out.2.1,HNN.out.2.2⟩
    case measure=>simp[intOf];omega
  ·obtain rfl:i=n:=by omega
   rw[List.drop_of_length_le (by rw[HH.out.len];exact Nat.le_refl _),crun] at hI6
   injection hI6 with hI6
   injection hI6 with hI6 hI7
   subst hI6
   subst hI7
   have HE:Hid ((∃ g',Ending.returned (.tuple #[.slice (some ⟨g,0,none⟩) i i,.int .i64 (a':Nat)])=.returned (.tuple #[.slice (some ⟨g',0,none⟩) i i,.int .i64 (a':Nat)])∧w.heap.size≤g'∧HasAt wr g' i hf)∧Below w.heap.size w wr):=⟨⟨g,rfl,Nat.le_of_eq HG.out,hI1⟩,by rw[HG.out];exact hb⟩
   clear hI1 hI2 hI3 hI4 hI5 HI hb
   go_wp2
   go_ret2
   exact HE.out
end Go.Proofs.YtcgaeknikfaghaaGreatDoor
namespace Go.Proofs.YtcgaeknikfaghaaGreatDoor
open Go.RowKit
theorem katom (t:ITok) (w:World):
  Calls Tryz.prog 125 #[.agg #[.int .i64 t.1,.string t.2.1,.int .i64 t.2.2]] w fun e w'=>e=.returned (sval (Sx.atom t) none 0)∧Below w.heap.size w w':=by
 obtain⟨k,T,a⟩:=t
 go_enter Tryz.func125,Tryz.ntmps125
 go_wp2
 exact bodyPost_ret (v:=sval (Sx.atom (k,T,a)) none 0) (by simp[results,Tryz.results125,go_sem];exact⟨rfl,rfl,rfl,rfl,rfl,rfl⟩) rfl ⟨rfl,((Below.refl _ w).alloc (Nat.le_refl _) _).alloc (by simp) _⟩
abbrev World.sixAt (w:World) (g p:Nat) (u0 u1 u2 u3 u4 u5:Value):World:=(((((w.setCell ⟨g,p,none⟩ u0).setCell ⟨g,p+1,none⟩ u1).setCell ⟨g,p+2,none⟩ u2).setCell ⟨g,p+3,none⟩ u3).setCell ⟨g,p+4,none⟩ u4).setCell ⟨g,p+5,none⟩ u5
theorem sixAt_turn {F:Nat→Prop} {a w:World} (h:Turn F a w) (g p:Nat) (hF:F g) (u0 u1 u2 u3 u4 u5:Value):Turn F a (World.sixAt w g p u0 u1 u2 u3 u4 u5):=
 (((((h.put (p:=⟨g,p,none⟩) (.inl hF) u0).put (p:=⟨g,p+1,none⟩) (.inl hF) u1).put (p:=⟨g,p+2,none⟩) (.inl hF) u2).put (p:=⟨g,p+3,none⟩) (.inl hF) u3).put (p:=⟨g,p+4,none⟩) (.inl hF) u4).put (p:=⟨g,p+5,none⟩) (.inl hF) u5
theorem sixAt_lies {w:World} {g:Nat} {t:TypeId} {cs:Array Value} (h:Lies w g t cs) (p:Nat) (hp:p+6≤cs.size) (u0 u1 u2 u3 u4 u5:Value):
  ∃ cs',Lies (World.sixAt w g p u0 u1 u2 u3 u4 u5) g t cs'∧cs'.size=cs.size∧(∀ j,j<6→cs'[p+j]?=[u0,u1,u2,u3,u4,u5][j]?)∧(∀ i,¬(p≤i∧i<p+6)→cs'[i]?=cs[i]?):=by
 refine⟨_,(((((h.put p u0).put (p+1) u1).put (p+2) u2).put (p+3) u3).put (p+4) u4).put (p+5) u5,by simp,fun j hj=>?_,fun i hi=>?_⟩
 ·rcases(by omega:j=0∨j=1∨j=2∨j=3∨j=4∨j=5) with rfl|rfl|rfl|rfl|rfl|rfl
  all_goals
   simp only[Array.getElem?_setIfInBounds,Array.size_setIfInBounds]
   simp
   omega
 ·simp only[Array.getElem?_setIfInBounds,Array.size_setIfInBounds]
  rw[if_neg (by omega),if_neg (by omega),if_neg (by omega),if_neg (by omega),if_neg (by omega),if_neg (by omega)]
theorem kadd (w:World) (O R k cap r m n:Nat) (cs cu:Array Value) (x:Sx) (A:Option Addr) (c:Nat) (hO:Lies w O 27 cu) (hR:Lies w R 27 cs) (hne:O≠R) (hk:k≤1000000)
  (hL:cu[k*6+5]?=some (.slice (some ⟨R,r,none⟩) m n)) (hmn:m<n) (hrn:r+n*6≤cs.size):
  Calls Tryz.prog 183 #[.slice (some ⟨O,0,none⟩) (k+1) cap,sval x A c] w fun e w'=>e=.returned (.tuple #[])∧
   ∃ cs',Lies w' R 27 cs'∧cs'.size=cs.size∧(∀ j,j<6→cs'[r+m*6+j]?=(scells x A c)[j]?)∧(∀ i,¬(r+m*6≤i∧i<r+m*6+6)→cs'[i]?=cs[i]?)∧
    Lies w' O 27 (cu.setIfInBounds (k*6+5) (.slice (some ⟨R,r,none⟩) (m+1) n))∧Turn (fun b=>b=R∨b=O) w w':=by
 have hp:∀ j,j<6→r+m*6+j<cs.size:=fun j hj=>by omega
 have c0:=(hR.cell (r+m*6)).trans (show cs[r+m*6]?=some (cs[r+m*6+0]'(hp 0 (by decide))) from Array.getElem?_eq_getElem (hp 0 (by decide)))
 have c1:=(hR.cell (r+m*6+1)).trans (Array.getElem?_eq_getElem (hp 1 (by decide)))
 have c2:=(hR.cell (r+m*6+2)).trans (Array.getElem?_eq_getElem (hp 2 (by decide)))
 have c3:=(hR.cell (r+m*6+3)).trans (Array.getElem?_eq_getElem (hp 3 (by decide)))
 have c4:=(hR.cell (r+m*6+4)).trans (Array.getElem?_eq_getElem (hp 4 (by decide)))
 have c5:=(hR.cell (r+m*6+5)).trans (Array.getElem?_eq_getElem (hp 5 (by decide)))
 have f0:=hR.free (r+m*6)
 have f1:=hR.free (r+m*6+1)
 have f2:=hR.free (r+m*6+2)
 have f3:=hR.free (r+m*6+3)
 have f4:=hR.free (r+m*6+4)
 have f5:=hR.free (r+m*6+5)
 have o5:=(hO.cell (k*6+5)).trans hL
 have g5:=hO.free (k*6+5)
 have hRl:=hR.lt
 have hOl:=hO.lt
 have hkk:(k:Int)<(k:Int)+1:=by omega
 have hk0:(0:Int)≤(k:Int):=by omega
 have hm1:(m:Int)<(m:Int)+1:=by omega
 have hm0:(0:Int)≤(m:Int):=by omega
 have hmn1:m+1≤n:=hmn
 have hne':¬R=O:=fun e=>hne e.symm
 have HO:=Lib.hid hO
 have HR:=Lib.hid hR
 generalize cs[r+m*6+0]=v0 at c0
 generalize cs[r+m*6+1]=v1 at c1
 generalize cs[r+m*6+2]=v2 at c2
 generalize cs[r+m*6+3]=v3 at c3
 generalize cs[r+m*6+4]=v4 at c4
 generalize cs[r+m*6+5]=v5 at c5
 clear hO hR hL hp
 go_enter Tryz.func183,Tryz.ntmps183
 go_wp2_with fail
 go_region
 ·go_end0
  obtain⟨s1,l1,n1,e1,u1⟩:=sixAt_lies HR.out (r+m*6) (by omega) (.bool false) (.int .i64 0) (.string ⟨#[]⟩) (.int .i64 0) (.int .i64 0) (.slice none 0 0)
  obtain⟨s2,l2,n2,e2,u2⟩:=sixAt_lies l1 (r+m*6) (by omega) (.bool x.list) (.int .i64 x.k) (.string x.T) (.int .i64 x.ta) (.int .i64 x.at_) (.slice A x.L.length c)
  have t1:=sixAt_turn (F:=fun b=>b=R∨b=O) (Turn.refl _ w) R (r+m*6) (.inl rfl) (.bool false) (.int .i64 0) (.string ⟨#[]⟩) (.int .i64 0) (.int .i64 0) (.slice none 0 0)
  have t2:=sixAt_turn t1 R (r+m*6) (.inl rfl) (.bool x.list) (.int .i64 x.k) (.string x.T) (.int .i64 x.ta) (.int .i64 x.at_) (.slice A x.L.length c)
  have tR:=sixAt_turn (F:=fun b=>b=R) (sixAt_turn (F:=fun b=>b=R) (Turn.refl _ w) R (r+m*6) rfl (.bool false) (.int .i64 0) (.string ⟨#[]⟩) (.int .i64 0) (.int .i64 0) (.slice none 0 0)) R (r+m*6) rfl (.bool x.list) (.int .i64 x.k) (.string x.T) (.int .i64 x.ta) (.int .i64 x.at_) (.slice A x.L.length c)
  have lO:=(tR.lies HO.out hne).put (k*6+5) (.slice (some ⟨R,r,none⟩) (m+1) n)
  have tO:=(Turn.refl (fun b=>b=O) (World.sixAt (World.sixAt w R (r+m*6) (.bool false) (.int .i64 0) (.string ⟨#[]⟩) (.int .i64 0) (.int .i64 0) (.slice none 0 0)) R (r+m*6) (.bool x.list) (.int .i64 x.k) (.string x.T) (.int .i64 x.ta) (.int .i64 x.at_) (.slice A x.L.length c))).put (p:=⟨O,k*6+5,none⟩) (.inl rfl) (.slice (some ⟨R,r,none⟩) (m+1) n)
  have t3:=t2.put (p:=⟨O,k*6+5,none⟩) (.inl (.inr rfl)) (.slice (some ⟨R,r,none⟩) (m+1) n)
  have l3:=tO.lies l2 hne'
  have fin:∀ (W:World) (o1 o2:Obj),Turn (fun _=>False) W ((W.alloc o1).alloc o2).drew:=fun W o1 o2=>(((Turn.refl _ W).alloc o1).alloc o2).drew
  refine⟨rfl,s2,(fin _ _ _).lies l3 id,by rw[n2,n1],fun j hj=>?_,fun i hi=>(u2 i hi).trans (u1 i hi),(fin _ _ _).lies lO id,t3.trans (fin _ _ _) (fun _ e=>e.elim)⟩
  rw[e2 j hj]
 ·go_end0
  obtain⟨s1,l1,n1,e1,u1⟩:=sixAt_lies HR.out (r+m*6) (by omega) (.bool false) (.int .i64 0) (.string ⟨#[]⟩) (.int .i64 0) (.int .i64 0) (.slice none 0 0)
  have t1:=sixAt_turn (F:=fun b=>b=R∨b=O) (Turn.refl _ w) R (r+m*6) (.inl rfl) (.bool false) (.int .i64 0) (.string ⟨#[]⟩) (.int .i64 0) (.int .i64 0) (.slice none 0 0)
  have tR:=sixAt_turn (F:=fun b=>b=R) (Turn.refl _ w) R (r+m*6) rfl (.bool false) (.int .i64 0) (.string ⟨#[]⟩) (.int .i64 0) (.int .i64 0) (.slice none 0 0)
  have lO:=(tR.lies HO.out hne).put (k*6+5) (.slice (some ⟨R,r,none⟩) (m+1) n)
  have tO:=(Turn.refl (fun b=>b=O) (World.sixAt w R (r+m*6) (.bool false) (.int .i64 0) (.string ⟨#[]⟩) (.int .i64 0) (.int .i64 0) (.slice none 0 0))).put (p:=⟨O,k*6+5,none⟩) (.inl rfl) (.slice (some ⟨R,r,none⟩) (m+1) n)
  have l2':=tO.lies l1 hne'
  have t2:=t1.put (p:=⟨O,k*6+5,none⟩) (.inl (.inr rfl)) (.slice (some ⟨R,r,none⟩) (m+1) n)
  obtain⟨s2,l2,n2,e2,u2⟩:=sixAt_lies l2' (r+m*6) (by omega) (.bool x.list) (.int .i64 x.k) (.string x.T) (.int .i64 x.ta) (.int .i64 x.at_) (.slice A x.L.length c)
  have t3:=sixAt_turn t2 R (r+m*6) (.inl rfl) (.bool x.list) (.int .i64 x.k) (.string x.T) (.int .i64 x.ta) (.int .i64 x.at_) (.slice A x.L.length c)
  have tR2:=sixAt_turn (F:=fun b=>b=R) (Turn.refl _ ((World.sixAt w R (r+m*6) (.bool false) (.int .i64 0) (.string ⟨#[]⟩) (.int .i64 0) (.int .i64 0) (.slice none 0 0)).setCell ⟨O,k*6+5,none⟩ (.slice (some ⟨R,r,none⟩) (m+1) n))) R (r+m*6) rfl (.bool x.list) (.int .i64 x.k) (.string x.T) (.int .i64 x.ta) (.int .i64 x.at_) (.slice A x.L.length c)
  have lO2:=tR2.lies lO hne
  have fin:∀ (W:World) (o1 o2:Obj),Turn (fun _=>False) W ((W.alloc o1).alloc o2).drew:=fun W o1 o2=>(((Turn.refl _ W).alloc o1).alloc o2).drew
  refine⟨rfl,s2,(fin _ _ _).lies l2 id,by rw[n2,n1],fun j hj=>?_,fun i hi=>(u2 i hi).trans (u1 i hi),(fin _ _ _).lies lO2 id,t3.trans (fin _ _ _) (fun _ e=>e.elim)⟩
  rw[e2 j hj]
end Go.Proofs.YtcgaeknikfaghaaGreatDoor
namespace Go.Proofs.YtcgaeknikfaghaaGreatDoor
open Go.RowKit
abbrev MFr:=PFr×Option Addr
abbrev MFr.sx (q:MFr):MSx:=(Sx.node q.1.at_ q.1.L,q.2,q.1.n)
def Wr (used:Nat) (frs:List MFr) (p:Nat):Prop:=p<used∧∀ q∈frs,¬(q.1.st+q.1.L.length≤p∧p<q.1.st+q.1.n)
abbrev InRoom (R used:Nat) (frs:List MFr):Nat→Nat→Prop:=fun b off=>b=R∧∃ p,off=p*6∧Wr used frs p
structure Lay (w:World) (R all used:Nat) (frs:List MFr):Prop where
 room:∃ cs,Lies w R 27 cs∧cs.size=all*6
 le:used≤all
 fr:∀ q∈frs,(0<q.1.n→q.2=some ⟨R,q.1.st*6,none⟩)∧q.1.st+q.1.n≤used∧q.1.L.length≤q.1.n∧TreeL w (InRoom R used frs) q.2 q.1.L
 disj:frs.Pairwise fun f g=>g.1.st+g.1.n≤f.1.st
theorem TreeL.snoc {w:World} {G:Nat→Nat→Prop} {x:Sx} {A:Option Addr} {c:Nat}:∀ (l:List Sx) (b off:Nat),TreeL w G (some ⟨b,off,none⟩) l→SAt w b (off+l.length*6) x A c→G b (off+l.length*6)→STree w G x A c→TreeL w G (some ⟨b,off,none⟩) (l++[x])
 |[],b,off,_,h1,h2,h3=>by
  simp only[List.length_nil,Nat.zero_mul,Nat.add_zero] at h1 h2
  exact .cons b off x [] A c h1 h2 h3.le h3.tree (.nil _)
 |y::l,b,off,h,h1,h2,h3=>by
  cases h with
  |cons _ _ _ _ A' c' q1 q2 q3 q4 q5=>
   rw[List.length_cons,show off+(l.length+1)*6=off+6+l.length*6 by omega] at h1 h2
   exact .cons b off y _ A' c' q1 q2 q3 q4 (TreeL.snoc l b (off+6) q5 h1 h2 h3)
theorem Lay.turn {w w':World} {R all used:Nat} {frs:List MFr} {F:Nat→Prop} (h:Lay w R all used frs) (ht:Turn F w w') (hF:¬F R):Lay w' R all used frs:=by
 obtain⟨cs,h1,h2⟩:=h.room
 refine⟨⟨cs,ht.lies h1 hF,h2⟩,h.le,fun q hq=>?_,h.disj⟩
 obtain⟨q1,q2,q3,q4⟩:=h.fr q hq
 exact⟨q1,q2,q3,q4.imp ht.size (fun b off hb hG j _=>ht.cell (p:=⟨b,off+j,none⟩) hb (by rw[hG.1];exact hF)) (fun _ _ _ hG=>hG)⟩
theorem Lay.open_ {w:World} {R all used:Nat} {frs:List MFr} (h:Lay w R all used frs) (a:Int) (n:Nat) (Au:Option Addr) (hn:used+n≤all) (hA:0<n→Au=some ⟨R,used*6,none⟩):Lay w R all (used+n) ((⟨a,used,n,[]⟩,Au)::frs):=by
 have hW:∀ b off,InRoom R used frs b off→InRoom R (used+n) ((⟨a,used,n,[]⟩,Au)::frs) b off:=fun b off ⟨e,p,hp,h1,h2⟩=>⟨e,p,hp,by omega,fun q hq=>by
  rcases List.mem_cons.1 hq with rfl|hq
  ·show ¬(used+0≤p∧_)
   omega
  ·exact h2 q hq⟩
 refine⟨h.room,hn,fun q hq=>?_,?_⟩
 ·rcases List.mem_cons.1 hq with rfl|hq
  ·exact⟨hA,Nat.le_refl _,Nat.zero_le _,.nil _⟩
  ·obtain⟨q1,q2,q3,q4⟩:=h.fr q hq
   exact⟨q1,by omega,q3,q4.mono fun b off _ hG=>hW b off hG⟩
 ·exact List.Pairwise.cons (fun q hq=>(h.fr q hq).2.1) h.disj
theorem Lay.added {w w':World} {R all used:Nat} {frs:List MFr} {f:PFr} {fA:Option Addr} {fs:List MFr} {x:Sx} {A:Option Addr} {c:Nat} {cs':Array Value}
  (h:Lay w R all used frs) (hsub:∀ q∈(f,fA)::fs,q∈frs) (hdis:((f,fA)::fs).Pairwise fun f g=>g.1.st+g.1.n≤f.1.st) (hlt:f.L.length<f.n) (hx:STree w (InRoom R used frs) x A c)
  (hR:Lies w' R 27 cs') (hsz:cs'.size=all*6) (hnew:∀ j,j<6→cs'[f.st*6+f.L.length*6+j]?=(scells x A c)[j]?) (hold:∀ cs,Lies w R 27 cs→∀ i,¬(f.st*6+f.L.length*6≤i∧i<f.st*6+f.L.length*6+6)→cs'[i]?=cs[i]?) (hs:w.heap.size≤w'.heap.size):
  Lay w' R all used ((f.add x,fA)::fs):=by
 obtain⟨cs,h1,h2⟩:=h.room
 obtain⟨f1,f2,f3,f4⟩:=h.fr _ (hsub _ List.mem_cons_self)
 have hp0:f.st+f.L.length<used:=by
  have:f.st+f.n≤used:=f2
  omega
 have hcell:∀ b off,b<w.heap.size→InRoom R used frs b off→∀ j,j<6→w'.cell? ⟨b,off+j,none⟩=w.cell? ⟨b,off+j,none⟩:=fun b off _ ⟨e,p,hp,_,hq⟩ j hj=>by
  subst e
  subst hp
  rw[hR.cell,h1.cell]
  refine hold cs h1 _ ?_
  have:=hq _ (hsub _ List.mem_cons_self)
  simp only at this
  omega
 have hW:∀ b off,InRoom R used frs b off→InRoom R used ((f.add x,fA)::fs) b off:=fun b off ⟨e,p,hp,q1,q2⟩=>⟨e,p,hp,q1,fun q hq=>by
  rcases List.mem_cons.1 hq with rfl|hq
  ·have:=q2 _ (hsub _ List.mem_cons_self)
   simp only[PFr.add,List.length_append,List.length_cons,List.length_nil] at this ⊢
   omega
  ·exact q2 q (hsub q (List.mem_cons_of_mem _ hq))⟩
 have hmv:∀ (A':Option Addr) (L:List Sx),TreeL w (InRoom R used frs) A' L→TreeL w' (InRoom R used ((f.add x,fA)::fs)) A' L:=fun A' L ht=>ht.imp hs hcell (fun b off _ hG=>hW b off hG)
 refine⟨⟨cs',hR,hsz⟩,h.le,fun q hq=>?_,?_⟩
 ·rcases List.mem_cons.1 hq with rfl|hq
  ·refine⟨f1,f2,by simp only[PFr.add,List.length_append,List.length_cons,List.length_nil];omega,?_⟩
   have e:=f1 (show 0<f.n by omega)
   simp only at e
   subst e
   have hRl:=hR.lt
   have k:=fun j hj=>(hR.cell (f.st*6+f.L.length*6+j)).trans (hnew j hj)
   refine TreeL.snoc f.L R (f.st*6) (hmv _ _ f4) ⟨hRl,k 0 (by decide),k 1 (by decide),k 2 (by decide),k 3 (by decide),k 4 (by decide),k 5 (by decide)⟩ ⟨rfl,f.st+f.L.length,by omega,hp0,fun q hq=>?_⟩ ⟨hx.le,hmv _ _ hx.tree⟩
   rcases List.mem_cons.1 hq with rfl|hq
   ·simp only[PFr.add,List.length_append,List.length_cons,List.length_nil]
    omega
   ·have:=(List.pairwise_cons.1 hdis).1 q hq
    simp only at this
    omega
  ·obtain⟨q1,q2,q3,q4⟩:=h.fr q (hsub q (List.mem_cons_of_mem _ hq))
   exact⟨q1,q2,q3,hmv _ _ q4⟩
 ·refine List.Pairwise.cons (fun q hq=>?_) (List.pairwise_cons.1 hdis).2
  exact(List.pairwise_cons.1 hdis).1 q hq
def OwnF (w:World) (B:Nat) (A:Option Addr) (c:Nat) (frs:List MFr):Prop:=w.ownsRow B 27 6 (.slice A frs.length c) frs.length (xcellsOf (frs.map MFr.sx).reverse)
theorem OwnF.nil (w:World) (B:Nat):OwnF w B none 0 []:=World.ownsRow_nil _ _ _ _
theorem OwnF.turn {F:Nat→Prop} {w w':World} {B:Nat} {A:Option Addr} {c:Nat} {frs:List MFr} (h:OwnF w B A c frs) (ht:Turn F w w') (hF:∀ b,B≤b→¬F b):OwnF w' B A c frs:=
 ht.own h (fun g hg=>hF g (World.ownsRow.lt h g hg).1)
theorem OwnF.lt {w:World} {B:Nat} {A:Option Addr} {c n:Nat} {frs:List MFr} (h:OwnF w B A c frs) (hn:frs.length=n) {q:Nat} (hq:(Value.slice A n c).ownBlock=some q):B≤q∧q<w.heap.size:=by
 subst hn
 exact World.ownsRow.lt h q hq
theorem xs_rev (q:MFr) (frs:List MFr):xcellsOf ((q::frs).map MFr.sx).reverse=xcellsOf (frs.map MFr.sx).reverse++xcells q.sx:=by simp[xcellsOf]
theorem OwnF.top {w:World} {B:Nat} {A:Option Addr} {c:Nat} {q:MFr} {frs:List MFr} (h:OwnF w B A c (q::frs)):
  ∃ O cu,A=some ⟨O,0,none⟩∧B≤O∧Lies w O 27 cu∧frs.length+1≤c∧SAt w O (frs.length*6) (Sx.node q.1.at_ q.1.L) q.2 q.1.n∧cu[frs.length*6+5]?=some (.slice q.2 q.1.L.length q.1.n):=by
 have hl:(xcellsOf (frs.map MFr.sx).reverse).length=frs.length*6:=by rw[xs_length];simp
 have hc:=fun g (hg:(Value.slice A (q::frs).length c).ownBlock=some g) j (hj:j<6) u (hu:(xcells q.sx)[j]?=some u)=>World.ownsRow.cells h hg (frs.length*6+j) u (by rw[xs_rev,List.getElem?_append_right (by omega),hl,Nat.add_sub_cancel_left];exact hu)
 rcases h.2 with⟨_,h0⟩|⟨g,cap,cur,e,hb,hg,q1,_⟩
 ·exact absurd h0 (by simp)
 ·injection e with e1 e2 e3
  subst e1
  subst e3
  have k:=hc g rfl
  have a:∀ j,(⟨g,0,none⟩:Addr).add j=⟨g,j,none⟩:=fun j=>by rw[addr_add,Nat.zero_add]
  simp only[a] at k
  have hL:Lies w g 27 cur:=hg
  exact⟨g,cur,rfl,hb,hL,q1,⟨hL.lt,k 0 (by decide) _ rfl,k 1 (by decide) _ rfl,k 2 (by decide) _ rfl,k 3 (by decide) _ rfl,k 4 (by decide) _ rfl,k 5 (by decide) _ rfl⟩,(hL.cell _).symm.trans (k 5 (by decide) _ rfl)⟩
theorem OwnF.pop {w:World} {B:Nat} {A:Option Addr} {c:Nat} {q:MFr} {frs:List MFr} (h:OwnF w B A c (q::frs)):OwnF w B A c frs:=by
 have:=own_take (k:=frs.length) h (by simp)
 have hl:(xcellsOf (frs.map MFr.sx).reverse).length=frs.length*6:=by rw[xs_length];simp
 have e:(xcellsOf ((q::frs).map MFr.sx).reverse).take (frs.length*6)=xcellsOf (frs.map MFr.sx).reverse:=by rw[xs_rev,←hl,List.take_left]
 rw[e] at this
 exact this
theorem OwnF.added {w w':World} {B O:Nat} {c:Nat} {f:PFr} {fA:Option Addr} {fs:List MFr} {cu:Array Value} {x:Sx} (h:OwnF w B (some ⟨O,0,none⟩) c ((f,fA)::fs)) (hc:Lies w O 27 cu)
  (hO:Lies w' O 27 (cu.setIfInBounds (fs.length*6+5) (.slice fA (f.L.length+1) f.n))):OwnF w' B (some ⟨O,0,none⟩) c ((f.add x,fA)::fs):=by
 have hl:(xcellsOf (fs.map MFr.sx).reverse).length=fs.length*6:=by rw[xs_length];simp
 rcases h.2 with⟨_,h0⟩|⟨g,cap,cur,e,hb,hg,q1,q2,q3,q4⟩
 ·exact absurd h0 (by simp)
 ·injection e with e1 e2 e3
  injection e1 with e1
  injection e1 with e1 _ _
  subst e1
  subst e3
  have ecu:cur=cu:=by
   have:=Option.some.inj (Eq.trans hg.symm (show w.heap[O]?=some (.cells cu 27 (0,0)) from hc))
   injection this
  subst ecu
  rw[List.length_cons] at q4
  refine⟨by rw[xs_length];simp,.inr ⟨O,c,_,rfl,hb,hO,q1,q2,by simpa using q3,?_⟩⟩
  rw[List.length_cons,Array.toList_setIfInBounds,List.take_set,q4,xs_rev,xs_rev,←hl,List.set_append_right _ _ (by omega),Nat.add_sub_cancel_left]
  simp[xcells,scells,PFr.add,Sx.node]
end Go.Proofs.YtcgaeknikfaghaaGreatDoor
