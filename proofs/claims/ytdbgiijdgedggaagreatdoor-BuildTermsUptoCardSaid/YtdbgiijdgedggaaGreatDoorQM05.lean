import Derived.Test.YtdbgiijdgedggaaGreatDoorRows
import Derived.Test.YtdbgiijdgedggaaGreatDoorQM04
import Derived.WalkKit
import Derived.WalkSpells
import Derived.WalkLawsBesides
import Derived.Deep.QuietTactic
import Derived.BigQuiet
import Derived.Deep.Draws
import Derived.Lib.Hide
import Derived.Deep.AppendLies
import Derived.Deep.OwnRows
import Derived.Laws.CopyOwn
import Derived.Laws.Rows
import Derived.Deep.DeepCutAuto
import Derived.BigRegion
import Derived.RegionTactic
import Derived.ChangeAlike
import Derived.Deep.RegionWith
set_option linter.unusedSimpArgs false
set_option linter.unusedVariables false
set_option maxRecDepth 100000
set_option maxHeartbeats 25600000
namespace Go.Proofs.YtdbgiijdgedggaaGreatDoor
open Go.RowKit
theorem dH {k:IntKind} {a b:Int} (h:a=b):Ending.returned (.int k a)=.returned (.int k b):=by rw[h]
theorem nh {P:Program} {f:FuncId} {args:Array Value} {w:World} {a n:Nat} {v:Value}
  (h:Calls P f args (w.drewN (a+n)) fun e w'=>e=.returned v/\w'=w.drewN (a+n)):
  Calls P f args (w.drewN (a+n)) fun e r=>e=.returned v/\∃ m,r=w.drewN (a+m):=
 h.mono fun _ _ ⟨he,hm⟩=>⟨he,n,hm⟩
def aQ (w:World) (a:Option Addr) (n:Nat) (l:List Nat):Prop:=
 l.length=n/\M.Fit l/\(0<n->∃ b off,a=some ⟨b,off,none⟩/\b<w.heap.size/\∀ j,j<n->w.cell? ⟨b,off+j,none⟩=some (.int .u32 ((l.getD j 0:Nat):Int)))
theorem aQ.dI (w:World) (a:Option Addr):aQ w a 0 []:=⟨rfl,M.Fit.nil,fun h=>absurd h (by omega)⟩
theorem aQ.at_ {w:World} {a:Option Addr} {n:Nat} {l:List Nat} (h:aQ w a n l) (hn:0<n):
  ∃ b off,a=some ⟨b,off,none⟩/\b<w.heap.size/\∀ j,j<n->∃ x:Nat,Hid (x=l.getD j 0)/\x<=4294967295/\w.cell? ⟨b,off+j,none⟩=some (.int .u32 (x:Int)):=by
 obtain⟨L,r,I⟩:=h
 obtain⟨b,off,e,hb,hc⟩:=I hn
 refine⟨b,off,e,hb,fun j J=>⟨l.getD j 0,rfl,?_,hc j J⟩⟩
 have:=r j
 rw[M.bS] at this
 omega
theorem aQ.below {w w':World} {a:Option Addr} {n:Nat} {l:List Nat} (h:aQ w a n l) (hb:Below w.heap.size w w'):aQ w' a n l:=
 ⟨h.1,h.2.1,fun hn=>by
  obtain⟨b,off,e,r,I⟩:=h.2.2 hn
  exact⟨b,off,e,Fp r hb.size,fun j J=>(hb.cell r).trans (I j J)⟩⟩
theorem below_drewN {B:Nat} {a w:World} (h:Below B a w) (n:Nat):Below B a (w.drewN n):=⟨h.os,h.tape,h.output,h.size,h.block⟩
theorem aQ.take {w:World} {a:Option Addr} {n:Nat} {l:List Nat} (h:aQ w a n l) {k:Nat} (L:k<=n):aQ w a k (l.take k):=
 ⟨by rw[FK,h.1];omega,h.2.1.take k,fun hn=>by
  obtain⟨b,off,e,r,I⟩:=h.2.2 (by omega)
  refine⟨b,off,e,r,fun j J=>(I j (by omega)).trans ?_⟩
  congr 3
  simp[G3,J]⟩
def cellsOf (l:List Nat):List Value:=l.map fun(x:Nat)=> .int .u32 (x:Int)
theorem aP (l:List Nat):(cellsOf l).length=l.length:=by simp[cellsOf]
theorem dT {l:List Nat} {j:Nat} (h:j<l.length):(cellsOf l)[j]?=some (.int .u32 ((l.getD j 0:Nat):Int)):=by
 simp[cellsOf,G3,h]
theorem gG {l:List Nat}:∀ v∈cellsOf l,v.oneCell'=true:=by
 intro v hv
 obtain⟨x,_,rfl⟩:=Hh.1 hv
 rfl
def Row (w:World) (g:Nat) (l:List Nat):Prop:=w.heap[g]?=some (.cells (cellsOf l).toArray 206 (0,0))
theorem Row.lt {w:World} {g:Nat} {l:List Nat} (h:Row w g l):g<w.heap.size:=by
 rcases GX g w.heap.size with I|r
 ·exact I
 ·unfold Row at h;rw[Array.getElem?_eq_none r] at h;cases h
theorem Row.cell {w:World} {g:Nat} {l:List Nat} (h:Row w g l) {j:Nat} (r:j<l.length):w.cell? ⟨g,j,none⟩=some (.int .u32 ((l.getD j 0:Nat):Int)):=by
 rw[cell_of_row w g j _ _ (0,0) h,List.getElem?_toArray,dT r]
theorem Row.frozen {w:World} {g:Nat} {l:List Nat} (h:Row w g l) (i:Nat):w.frozen? ⟨g,i,none⟩=false:=by
 unfold Row at h
 simp[World.frozen?,h]
theorem Row.mf {w:World} {g:Nat} {l:List Nat} (h:Row w g l) (hf:M.Fit l) {n:Nat} (hn:l.length=n):aQ w (some ⟨g,0,none⟩) n l:=
 ⟨hn,hf,fun _=>⟨g,0,rfl,h.lt,fun j r=>by rw[FA];exact h.cell (by omega)⟩⟩
theorem Row.Br {w:World} {g:Nat} {l:List Nat} (h:Row w g l) (i x:Nat):Row (w.setCell ⟨g,i,none⟩ (.int .u32 (x:Int))) g (l.set i x):=by
 unfold Row at h ⊢
 simp[World.setCell,Array.getElem?_modify,h,cellsOf,List.map_set]
theorem Row.Dw {w:World} {g:Nat} {l:List Nat} (h:Row w g l) (i:Nat) {v:Int} (x:Nat) (hv:v=(x:Int)):Row (w.setCell ⟨g,i,none⟩ (.int .u32 v)) g (l.set i x):=by
 rw[hv]
 exact h.Br i x
theorem rq {a w:World} {row:Option Nat} (h:a.grownBy w row) (n:Nat):a.grownBy (w.drewN n) row:=⟨h.os,h.tape,h.output,h.size,h.block⟩
theorem fB {a w:World} {g:Nat} (h:a.grownBy w (some g)) {p:Addr} (hp:p.block=g\/a.heap.size<=p.block) (u:Value):a.grownBy (w.setCell p u) (some g):=
 ⟨h.os,h.tape,h.output,by simpa [World.setCell] using h.size,fun i hi r=>(Fs w p u i (by
  rintro rfl
  rcases hp with hp|hp
  ·exact r (by rw[hp])
  ·omega)).trans (h.block i hi r)⟩
def zeros (n:Nat):Array Value:=(cellsOf (List.replicate n 0)).toArray
theorem Row.ym (w:World) (n:Nat):Row (w.alloc (.cells (zeros n) 206)) w.heap.size (List.replicate n 0):=heap_alloc_new w _
theorem Tryz.qI:(Tryz.prog.info? 206).map (fun i=>(i.zero,i.size,i.bytes))=some (some (.int .u32 0),1,4):=by kernel_rfl
theorem Tryz.wI:(Tryz.prog.info? 206).map (·.size)=some 1:=by kernel_rfl
theorem yj (n:Nat):madeCells #[Value.int .u32 0] n=zeros n:=by
 apply Array.ext
 ·simp[madeCells,zeros,cellsOf]
 ·intro i h r
  have e:i % 1=0:=by omega
  simp[madeCells,zeros,cellsOf,e]
theorem pX (n:Nat) (hn:n<=1099511627776) (w:World):
  (Instr.makeSlice 45 (.int .i64 (n:Int)) (.int .i64 (n:Int))).run Tryz.prog w=.ok (.slice (some ⟨w.heap.size,0,none⟩) n n) (w.alloc (.cells (zeros n) 206)):=by
 rw[<-yj]
 exact run_make_row' 45 206 (.int .u32 0) 4 Tryz.underlying45 Tryz.qI rfl .i64 .i64 n (by omega) (by omega) w
theorem yI {w:World} {ops:Array Oper} {rest:List Oper} {o:Oper} {a:Act} {Q:Exit->Act->World->Prop} (O:o.guard=none) (d s:Operand)
  (Z:o.op=.call { callee:=.builtin .copy,args:=#[d,s],argTypes:=#[45,45] })
  {g m k n c:Nat} {A:Option Addr} {l:List Nat} (hd:a.eval d=.slice (some ⟨g,0,none⟩) m k) (hs:a.eval s=.slice A n c)
  (r:Row w g (List.replicate m 0)) (hl:aQ w A n l) (U:n<=m) {w0:World} (hb:Below g w0 w)
  (h:∀ w',Row w' g (l++List.replicate (m-n) 0)->Below g w0 w'->wpList Tryz.prog ops Q rest (a.put o.dst (goInt n)) w'):
  wpList Tryz.prog ops Q (o::rest) a w:=by
 have hlen:=hl.1
 refine wpList_copy_splice O d s 45 45 Z 206 Tryz.underlying45 Tryz.wI _ _ m k n c hd hs g 0 (cellsOf (List.replicate m 0)) 206 r (cellsOf l)
  (by rw[aP,hlen];exact(G6 U).symm) ?_ (by simp[aP];omega) gG g w0 hb (Fm _) ?_
 ·intro V
  rw[aP,hlen] at V
  obtain⟨b,off,e,_,hc⟩:=hl.2.2 V
  refine⟨rfl,_,e,fun j v hv=>?_⟩
  have X:j<l.length:=by
   rcases GX j l.length with J|J
   ·exact J
   ·rw[GB (by rw[aP];exact J)] at hv;cases hv
  rw[dT X] at hv
  injection hv with hv
  subst hv
  have:=hc j (by omega)
  unfold Addr.add
  split <;> simp_all
 ·intro w' I L
  have I:=I.out
  have e:splice (cellsOf (List.replicate m 0)) 0 (cellsOf l)=cellsOf (l++List.replicate (m-n) 0):=by
   simp[splice,cellsOf,hlen]
  rw[e] at I
  rw[aP,hlen]
  exact h w' I L
theorem lT (w:World) (x:Nat) (h:x<=4294967295):aQ (w.alloc (.cells #[.int .u32 (x:Int)] 206)) (some ⟨w.heap.size,0,none⟩) 1 [x]:=
 Row.mf (l:=[x]) (heap_alloc_new w _) (M.Fit.cons (by rw[M.bS];omega) M.Fit.nil) rfl
def kq (w:World) (l:List Nat) (cap:Nat) (e:Ending) (w':World):Prop:=
 ∃ A n c,e=.returned (.slice A n c)/\aQ w A n (l.take n)/\M.cS (l.take n)/\M.val (l.take n)=M.val l/\n<=l.length/\n<=c/\c<=cap/\w=w'
theorem oR {w:World} {l:List Nat} {cap:Nat} (hz:∀ j,0<=j->l.getD j 0=0):kq w l cap (.returned (.slice none 0 0)) w:=
 ⟨none,0,0,rfl,by simpa using aQ.dI w none,by simpa using M.cS.nil,M.cn l 0 hz,by omega,by omega,by omega,rfl⟩
theorem nS {w:World} {A:Option Addr} {n c k:Nat} {l:List Nat} (h:aQ w A n l) (r:k<=n) (hn:n<=c) (J:0<k) (I:l.getD (k-1) 0≠0) (hz:∀ j,k<=j->l.getD j 0=0):
  kq w l c (.returned (.slice A k c)) w:=by
 refine⟨A,k,c,rfl,h.take r,fun _=>?_,M.cn l k hz,by rw[h.1];exact r,by omega,by omega,rfl⟩
 rw[FK,h.1,G6 r]
 simpa [G3,GQ,show k-1<k from by omega] using I
def vg (w:World) (A:Option Addr) (l:List Nat) (cap:Nat) (e:Ending) (w':World):Prop:=
 kq w l cap e w'/\(e=.returned (.slice none 0 0)\/∃ n c,0<n/\e=.returned (.slice A n c))
theorem Ah (A:Option Addr) (n c:Nat) (l:List Nat) (w:World) (h:aQ w A n l) (hn:n<=c) (hc:c<=maxLen):
  Calls Tryz.prog 128 #[.slice A n c] w (vg w A l c):=by
 unfold maxLen at hc
 go_enter Tryz.func128,Tryz.ntmps128
 go_wp2
 go_loop [3] (fun t=>∃ k:Nat,k<=n/\t=.int .i64 k/\∀ j,k<=j->l.getD j 0=0) (fun t=>(intOf t).toNat)
 case atStart=>exact⟨n,Fm _,rfl,fun j Q=>M.aM (by rw[h.1];exact Q)⟩
 case round=>
  obtain⟨k,U,rfl,hz⟩:=hrel
  have I:=Gn hz
  clear hz
  by_cases O:0<k
  ·obtain⟨b,off,rfl,hb,hcs⟩:=h.at_ (by omega)
   obtain⟨x,L,X,hcell⟩:=hcs (k-1) (by omega)
   clear hcs
   by_cases r:x=0
   ·subst r
    go_wp2
    go_round
    case rel=>exact⟨k-1,by omega,by go_num,fun j Q=>by
     by_cases e:j=k-1
     ·subst e;exact L.out.symm
     ·exact I.out j (by omega)⟩
    case measure=>simp[intOf];omega
   ·have J:((x:Int) == 0)=false:=by simpa using r
    have V:((k:Int) == 0)=false:=by simp;omega
    clear r
    go_wp2
    go_ret
    exact⟨nS h U hn O (by rw[<-L.out];simpa using J) I.out,.inr ⟨k,c,O,rfl⟩⟩
  ·go_wp2
   go_ret
   exact⟨oR fun j _=>I.out j (by omega),.inl rfl⟩
theorem jo (A:Option Addr) (n c:Nat) (l:List Nat) (w:World) (h:aQ w A n l) (hn:n<=c) (hc:c<=maxLen):
 Calls Tryz.prog 128 #[.slice A n c] w (kq w l c):=(Ah A n c l w h hn hc).mono fun _ _ h=>h.1
theorem yK (b:Bool) (w:World):Calls Tryz.prog 171 #[.bool b] w fun e w'=>e=.returned (.int .i64 (if b then -1 else 1))/\w=w':=by
 cases b
 ·go_enter Tryz.func171,Tryz.ntmps171
  go_wp2
  go_ret
  exact⟨rfl,rfl⟩
 ·go_enter Tryz.func171,Tryz.ntmps171
  go_wp2
  go_ret
  exact⟨rfl,rfl⟩
def Num (w:World) (v:Value) (N:Nat):Prop:=
 ∃ A n c l,v=.slice A n c/\aQ w A n l/\M.cS l/\M.val l=N/\n<=c/\c<=maxLen
def tQ (W:World) (N:Nat) (e:Ending) (w':World):Prop:=∃ v,e=.returned v/\Num w' v N/\Below W.heap.size W w'
theorem Num.below {w w':World} {v:Value} {N:Nat} (h:Num w v N) (hb:Below w.heap.size w w'):Num w' v N:=by
 obtain⟨A,n,c,l,e,r,I⟩:=h
 exact⟨A,n,c,l,e,r.below hb,I⟩
theorem yY (A B:Option Addr) (n m c d:Nat) (k l:List Nat) (w:World) (U:aQ w A n k) (hl:aQ w B m l) (hn:n<=maxLen) (hm:m<=maxLen):
  Calls Tryz.prog 78 #[.slice A n c,.slice B m d] w fun e w'=>e=.returned (.bool (decide (k=l)))/\∃ j,w'=w.drewN j:=by
 unfold maxLen at hn hm
 by_cases h:n=m
 ·subst h
  go_enter Tryz.func78,Tryz.ntmps78
  go_wp2_with fail
  go_loopw [5] (fun i wr=>∃ k':Nat,k'<=n/\i=.int .i64 k'/\(∀ j,j<k'->k.getD j 0=l.getD j 0)/\∃ q,wr=w.drewN q) (fun i _=>n-(intOf i).toNat)
  case atStart=>exact⟨0,Fz _,rfl,fun j hj=>by omega,0,rfl⟩
  case round=>
   obtain⟨i,hi,rfl,hz,q,rfl⟩:=hrel
   have Z:=Gn hz
   clear hz
   by_cases O:i<n
   ·obtain⟨b,off,rfl,_,I⟩:=U.at_ (by omega)
    obtain⟨x,V,hx,av⟩:=I i O
    obtain⟨b',ao,rfl,_,J⟩:=hl.at_ (by omega)
    obtain⟨y,X,hy,a1⟩:=J i O
    clear I J
    by_cases r:x=y
    ·subst r
     go_wp2_with fail
     go_quiet (fail)
     go_wp2
     go_roundw
     case rel=>exact⟨i+1,by omega,by go_num,fun j hj=>by
      by_cases e:j=i
      ·subst e;rw[<-V.out,<-X.out]
      ·exact Z.out j (by omega),_,rfl⟩
     case measure=>simp[intOf];omega
    ·have ah:((x:Int) == (y:Int))=false:=by simp;omega
     have Q:decide (k=l)=false:=by
      rw[Hr];rintro rfl;exact r (V.out.trans X.out.symm)
     clear r
     have HN:=Gn Q
     clear Q
     go_wp2_with fail
     go_quiet (fail)
     go_wp2
     go_ret
     rw[HN.out]
     exact⟨rfl,_,World.drewN_drewN _ _ _⟩
   ·have L:decide (k=l)=true:=by
     rw[decide_eq_true_iff]
     have e1:=U.1
     have e2:=hl.1
     refine Hb (by omega) fun j h1 h2=>?_
     have:=Z.out j (by omega)
     rwa [M.getD_lt h1,M.getD_lt h2] at this
    have HK:=Gn L
    clear L
    go_wp2
    go_ret
    rw[HK.out]
    exact⟨rfl,_,rfl⟩
 ·have e:decide (k=l)=false:=by
   rw[Hr];rintro rfl;exact h (U.1.symm.trans hl.1)
  rw[e]
  have ad:((n:Int) == (m:Int))=false:=by simp;omega
  clear h e
  go_enter Tryz.func78,Tryz.ntmps78
  go_wp2
  go_ret
  exact⟨rfl,0,rfl⟩
def De (W:World) (N n:Nat) (e:Ending) (w':World):Prop:=
 ∃ l:List Nat,M.Fit l/\M.cS l/\M.val l=N/\l.length<=n/\Below W.heap.size W w'/\
  ((l=[]/\e=.returned (.slice none 0 0))\/(e=.returned (.slice (some ⟨W.heap.size,0,none⟩) l.length l.length)/\Row w' W.heap.size l))
theorem xW (A:Option Addr) (n c:Nat) (l:List Nat) (w:World) (h:aQ w A n l) (hn:n<=c) (hc:c<=maxLen) (hs:n<=4000000000):
  Calls Tryz.prog 147 #[.slice A n c] w (De w (M.val l) n):=by
 go_enter Tryz.func147,Tryz.ntmps147
 go_wp2_with fail
 refine(jo _ _ _ _ _ h hn hc).mono ?_
 rintro e w1 ⟨A',n',c',rfl,J,U,V,h4,h5,h6,rfl⟩
 have hl:=h.1
 have HL:=Gn hl
 clear hl
 have ah:n'<=4000000000:=by have:=HL.out;omega
 have L:n'<=n:=by have:=HL.out;omega
 have O:=Gn V
 have H1:=Gn J.1
 have X:=Gn U
 clear V U
 by_cases Q:n'=0
 ·subst Q
  go_wp2_with fail
  go_ret
  exact⟨[],M.Fit.nil,M.cS.nil,by rw[<-O.out];rfl,by simp,Gp _ _,.inl ⟨rfl,rfl⟩⟩
 ·have Z:((n':Int) == 0)=false:=by simp;omega
  clear Q
  have ad:=pX n' (by omega)
  go_wp2_with (refine yI rfl (.tmp 12) (.tmp 13) rfl rfl rfl (Row.ym _ _) (J.below ((Gp _ _).alloc (Fm _) _)) (Fm _) ((Gp _ _).alloc (Fm _) _) ?_;intro w2 r I)
  go_ret
  simp only[Nat.sub_self,List.replicate_zero,GH] at r
  exact⟨_,J.2.1,X.out,O.out,by rw[H1.out];exact L,I,.inr ⟨by rw[H1.out];rfl,r⟩⟩
theorem oO (b:Bool) (w:World) (n:Int) (hn:n=if b then -1 else 1):Calls Tryz.prog 171 #[.bool b] w fun e w'=>e=.returned (.int .i64 n)/\w'=w:=
 (yK b w).mono fun _ _ ⟨h,r⟩=>⟨by rw[h,hn],r.symm⟩
theorem zP (A B:Option Addr) (n m c d:Nat) (k l:List Nat) (w:World) (hk:aQ w A n k) (hl:aQ w B m l) (hn:n<=c) (hm:m<=d) (hc:c<=maxLen) (hd:d<=maxLen):
  Calls Tryz.prog 121 #[.slice A n c,.slice B m d] w fun e w'=>e=.returned (.int .i64 (M.di (M.val k) (M.val l)))/\∃ j,w'=w.drewN j:=by
 go_enter Tryz.func121,Tryz.ntmps121
 go_wp2_with fail
 refine(jo _ _ _ _ _ hk hn hc).mono ?_
 rintro e w1 ⟨A',n',c',rfl,r,h2,h3,h4,h5,h6,rfl⟩
 go_wp2_with fail
 refine(jo _ _ _ _ _ hl hm hd).mono ?_
 rintro e w1 ⟨B',m',d',rfl,g1,g2,g3,g4,g5,g6,rfl⟩
 generalize k.take n'=k' at*
 generalize l.take m'=l' at*
 have X:Hid (M.di (M.val k) (M.val l)=M.di (M.val k') (M.val l')):=by rw[h3,g3];exact rfl
 clear h3 g3
 have H2:=Gn h2
 have G2:=Gn g2
 clear h2 g2
 unfold maxLen at hc hd
 by_cases h:n'<m'
 ·have ad:((n':Int) == (m':Int))=false:=by simp;omega
  have hb:decide ((n':Int)<(m':Int))=true:=by simp;omega
  go_wp2_with fail
  refine(oO true _ _ rfl).mono ?_
  rintro e w1 ⟨rfl,rfl⟩
  go_wp2_with fail
  go_ret
  refine⟨dH ?_,0,rfl⟩
  rw[X.out,M.jz (M.dG r.2.1 G2.out (by rw[r.1,g1.1];exact h))]
 by_cases U:m'<n'
 ·have ad:((n':Int) == (m':Int))=false:=by simp;omega
  have hb:decide ((n':Int)<(m':Int))=false:=by simp;omega
  go_wp2_with fail
  refine(oO false _ _ rfl).mono ?_
  rintro e w1 ⟨rfl,rfl⟩
  go_wp2_with fail
  go_ret
  refine⟨dH ?_,0,rfl⟩
  rw[X.out,M.hH (M.dG g1.2.1 H2.out (by rw[r.1,g1.1];exact U))]
 obtain rfl:n'=m':=by omega
 clear h U
 have hlen:Hid (k'.length=l'.length):=r.1.trans g1.1.symm
 go_wp2_with fail
 go_loopw [24] (fun i wr=>∃ j:Nat,j<=n'/\i=.int .i64 j/\Hid (∀ q,n'-j<=q->k'.getD q 0=l'.getD q 0)/\∃ q,wr=w.drewN q) (fun i _=>n'-(intOf i).toNat)
 case atStart=>exact⟨0,Fz _,rfl,fun q J=>by rw[M.aM (by rw[r.1];exact J),M.aM (by rw[g1.1];exact J)],0,rfl⟩
 case round=>
  obtain⟨j,hj,rfl,HZ,q,rfl⟩:=hrel
  by_cases h:j<n'
  ·obtain⟨i,hi⟩:∃ i:Nat,Hid (n'-1-j=i):=⟨_,rfl⟩
   have a7:i<n':=by have:=hi.out;omega
   have ba:j<n':=h
   have he:(n':Int)-1-(j:Int)=(i:Int):=by have:=hi.out;omega
   obtain⟨b,off,rfl,_,O⟩:=r.at_ (by omega)
   obtain⟨x,Z,hx,av⟩:=O (i) (by omega)
   obtain⟨b',ao,rfl,_,Q⟩:=g1.at_ (by omega)
   obtain⟨y,HY,hy,a1⟩:=Q (i) (by omega)
   clear O Q
   have L:Hid (∀ q,i+1<=q->k'.getD q 0=l'.getD q 0):=fun q J=>HZ.out q (by have:=hi.out;omega)
   by_cases I:x=y
   ·subst I
    go_wp2_with fail
    go_quiet (fail)
    go_wp2_with fail
    go_roundw
    case rel=>exact⟨j+1,by omega,by go_num,fun q J=>by
     by_cases e:q=i
     ·subst e;rw[<-Z.out,<-HY.out]
     ·exact HZ.out q (by have:=hi.out;omega),_,rfl⟩
    case measure=>simp[intOf];omega
   ·have ah:((x:Int) == (y:Int))=false:=by simp;omega
    by_cases V:x<y
    ·have hb:decide ((x:Int)<(y:Int))=true:=by simp;omega
     have hv:Hid (M.di (M.val k) (M.val l)= -1):=by
      rw[X.out]
      exact M.jz (M.du (i) hlen.out (by rw[r.1];omega) r.2.1 L.out (by rw[<-Z.out,<-HY.out];exact V))
     clear I
     go_wp2_with fail
     go_quiet (fail)
     rw[World.drewN_drewN]
     generalize q+nq=q2
     go_wp2_with fail
     go_quiet ((go_at_call 171;exact nh (oO true _ _ rfl)))
     go_wp2_with fail
     go_ret
     first|exact⟨dH (by rw[hv.out]),_,rfl⟩|exact⟨dH (by rw[hv.out]),_,World.drewN_drewN _ _ _⟩
    ·have hb:decide ((x:Int)<(y:Int))=false:=by simp;omega
     have hv:Hid (M.di (M.val k) (M.val l)=1):=by
      rw[X.out]
      exact M.hH (M.du (i) hlen.out.symm (by rw[g1.1];omega) g1.2.1 (fun q J=>(L.out q J).symm) (by rw[<-Z.out,<-HY.out];omega))
     clear I
     go_wp2_with fail
     go_quiet (fail)
     rw[World.drewN_drewN]
     generalize q+nq=q2
     go_wp2_with fail
     go_quiet ((go_at_call 171;exact nh (oO false _ _ rfl)))
     go_wp2_with fail
     go_ret
     first|exact⟨dH (by rw[hv.out]),_,rfl⟩|exact⟨dH (by rw[hv.out]),_,World.drewN_drewN _ _ _⟩
  ·have hv:Hid (M.di (M.val k) (M.val l)=0):=by
    rw[X.out,M.eq_of_all hlen.out (fun q _=>HZ.out q (by omega))]
    exact M.ko _
   go_wp2_with fail
   go_ret
   exact⟨dH (by rw[hv.out]),_,rfl⟩
theorem CI {l:List Nat} (h:M.Fit l) (i:Nat):l.getD i 0<=4294967295:=by have:=h i;rw[M.bS] at this;omega
def tT (w:World) (g:Nat) (ds:List Nat):Prop:=
 ∃ cur:Array Value,w.heap[g]?=some (.cells cur 5 (0,0))/\∀ j,j<ds.length->cur[j]?=some (.int .u8 ((ds.getD j 0:Nat):Int))
theorem tT.cell {w:World} {g:Nat} {ds:List Nat} (h:tT w g ds) {j:Nat} (r:j<ds.length):w.cell? ⟨g,j,none⟩=some (.int .u8 ((ds.getD j 0:Nat):Int)):=by
 obtain⟨cur,h,hc⟩:=h
 rw[cell_of_row w g j _ _ (0,0) h]
 exact hc j r
theorem tT.frozen {w:World} {g:Nat} {ds:List Nat} (h:tT w g ds) (i:Nat):w.frozen? ⟨g,i,none⟩=false:=by
 obtain⟨cur,h,_⟩:=h
 simp[World.frozen?,h]
theorem tT.drewN {w:World} {g:Nat} {ds:List Nat} (h:tT w g ds) (n:Nat):tT (w.drewN n) g ds:=h
theorem tT.Br {w:World} {g:Nat} {ds:List Nat} (h:tT w g ds) {i:Nat} (hi:i<ds.length) (x:Nat):tT (w.setCell ⟨g,i,none⟩ (.int .u8 (x:Int))) g (ds.set i x):=by
 obtain⟨cur,h,hc⟩:=h
 refine⟨cur.setIfInBounds i (.int .u8 (x:Int)),by simp[World.setCell,Array.getElem?_modify,h],fun j I=>?_⟩
 rw[List.length_set] at I
 rw[Array.getElem?_setIfInBounds]
 split
 ·rename_i e
  subst e
  have:i<cur.size:=by
   rcases GX i cur.size with r|r
   ·exact r
   ·have:=hc i hi
    rw[Array.getElem?_eq_none r] at this
    cases this
  rw[Fx this]
  simp[G3,hi]
 ·rename_i e
  rw[hc j I]
  simp[G3,List.getElem?_set_ne e]
structure gY (ds es:List Nat) (n i:Nat):Prop where
 len:es.length=n
 done:∀ q,q<i->es.getD q 0=ds.getD (n-1-q) 0
 BL:∀ q,n-i<=q->q<n->es.getD q 0=ds.getD (n-1-q) 0
 rest:∀ q,i<=q->q<n-i->es.getD q 0=ds.getD q 0
theorem gY.step {ds es:List Nat} {n i x y:Nat} (h:gY ds es n i) (hi:i<n-1-i) (L:x=es.getD i 0) (hy:y=es.getD (n-1-i) 0):
  gY ds ((es.set i y).set (n-1-i) x) n (i+1):=by
 have r:x=ds.getD i 0:=by rw[L];exact h.rest i (by omega) (by omega)
 have I:y=ds.getD (n-1-i) 0:=by rw[hy];exact h.rest _ (by omega) (by omega)
 refine⟨by simp[h.len],fun q J=>?_,fun q J hn=>?_,fun q J hn=>?_⟩
 ·rw[M.eT _ _ _ _ (by omega)]
  by_cases e:i=q
  ·subst e;rw[M.og _ _ _ (by rw[h.len];omega),I]
  ·rw[M.eT _ _ _ _ e];exact h.done q (by omega)
 ·by_cases e:n-1-i=q
  ·subst e
   rw[M.og _ _ _ (by rw[List.length_set,h.len];omega),r]
   congr 1
   omega
  ·rw[M.eT _ _ _ _ e,M.eT _ _ _ _ (by omega)];exact h.BL q (by omega) hn
 ·rw[M.eT _ _ _ _ (by omega),M.eT _ _ _ _ (by omega)];exact h.rest q (by omega) (by omega)
theorem gY.end_ {ds es:List Nat} {n i:Nat} (h:gY ds es n i) (hl:ds.length=n) (hi:n<=2*i+1):es=ds.reverse:=by
 refine Hb (by rw[List.length_reverse,hl,h.len]) fun q r J=>?_
 rw[List.getElem_reverse]
 have I:q<n:=by rw[<-h.len];exact r
 have e:es.getD q 0=ds.getD (n-1-q) 0:=by
  by_cases a:q<i
  ·exact h.done q a
  ·by_cases b:n-i<=q
   ·exact h.BL q b I
   ·rw[h.rest q (by omega) (by omega)];congr 1;omega
 rw[M.getD_lt r,M.getD_lt (by omega)] at e
 rw[e]
 congr 1
 omega
def yi (W:World) (g:Nat) (ds:List Nat) (e:Ending) (w':World):Prop:=e=.returned (.tuple #[])/\tT w' g ds.reverse/\W.grownBy w' (some g)
theorem BG (g n c:Nat) (ds:List Nat) (w:World) (h:tT w g ds) (hl:ds.length=n) (hn:n<=1000000000):
  Calls Tryz.prog 149 #[.slice (some ⟨g,0,none⟩) n c] w (yi w g ds):=by
 have HL:=Gn hl
 clear hl
 go_enter Tryz.func149,Tryz.ntmps149
 go_wp2_with fail
 go_loopw [2,3] (fun iv jv wr=>∃ (i:Nat) (es:List Nat),i<=n/\iv=.int .i64 i/\jv=.int .i64 ((n:Int)-1-i)/\tT wr g es/\gY ds es n i/\w.grownBy wr (some g)) (fun iv _ _=>n-(intOf iv).toNat)
 case atStart=>exact⟨0,ds,by omega,rfl,by go_num,h,⟨HL.out,fun q hq=>by omega,fun q h1 h2=>by omega,fun _ _ _=>rfl⟩,World.grownBy.refl _ _⟩
 case round=>
  obtain⟨i,es,hi,rfl,rfl,hb,ht,J⟩:=hrel
  by_cases L:i<n-1-i
  ·obtain⟨j,r⟩:∃ j:Nat,Hid (n-1-i=j):=⟨_,rfl⟩
   have ah:j<n:=by have:=r.out;omega
   have ad:i<j:=by have:=r.out;omega
   have he:(n:Int)-1-(i:Int)=(j:Int):=by have:=r.out;omega
   obtain⟨x,O⟩:∃ x,Hid (x=es.getD i 0):=⟨_,rfl⟩
   obtain⟨y,Q⟩:∃ y,Hid (y=es.getD j 0):=⟨_,rfl⟩
   have hx:wr.cell? ⟨g,i,none⟩=some (.int .u8 (x:Int)):=by rw[O.out];exact hb.cell (by rw[ht.len];omega)
   have hy:wr.cell? ⟨g,j,none⟩=some (.int .u8 (y:Int)):=by rw[Q.out];exact hb.cell (by rw[ht.len];omega)
   have X:=hb.frozen i
   have Z:=hb.frozen j
   go_wp2_with fail
   go_region
   have I:=ht.step (x:=x) (y:=y) L O.out (by rw[r.out];exact Q.out)
   rw[r.out] at I
   have U:Hid (tT ((wr.setCell ⟨g,i,none⟩ (.int .u8 (y:Int))).setCell ⟨g,j,none⟩ (.int .u8 (x:Int))).drew g ((es.set i y).set j x)):=
    ((hb.Br (by rw[ht.len];omega) y).Br (by rw[List.length_set,ht.len];omega) x).drewN 1
   have V:Hid (w.grownBy ((wr.setCell ⟨g,i,none⟩ (.int .u8 (y:Int))).setCell ⟨g,j,none⟩ (.int .u8 (x:Int))).drew (some g)):=
    rq (fB (fB J (p:=⟨g,i,none⟩) (.inl rfl) _) (p:=⟨g,j,none⟩) (.inl rfl) _) 1
   clear hb ht J hx hy X Z
   go_wp2_with fail
   go_roundw
   case rel=>exact⟨i+1,_,by omega,by go_num,by go_num,U.out,I,V.out⟩
   case measure=>simp[intOf];omega
  ·have e:Hid (es=ds.reverse):=ht.end_ HL.out (by omega)
   go_wp2_with fail
   go_end0
   exact⟨rfl,by rw[<-e.out];exact hb,J⟩
def j8 (l:List UInt8):Bool:=!l.isEmpty&&decide (l.length<=2000)&&!(decide (l.getD 0 0=48)&&decide (l≠[48]))&&l.all fun c=>decide (48<=c.toNat)&&decide (c.toNat<=57)
theorem wN (s:ByteArray):s.data.toList.length=s.size:=by rw[Fv];rfl
theorem pR {s:ByteArray} {i:Nat} (h:i<s.size):s.data.toList.getD i 0=s[i]:=by
 have r:i<s.data.size:=h
 rw[G3,Hs,Array.getElem?_eq_getElem r]
 rfl
theorem DU {s:ByteArray} {p:UInt8->Bool}:(s.data.toList.all p=true)↔∀ i (h:i<s.size),p s[i]=true:=by
 rw[Gt]
 constructor
 ·intro h i hi
  have r:i<s.data.size:=hi
  have hm:s.data[i]∈s.data.toList:=Array.getElem_mem_toList r
  exact h _ hm
 ·intro h x I
  obtain⟨i,hi,rfl⟩:=GV I
  exact h i (by simpa using hi)
theorem lG (s:ByteArray) (w:World) (hs:s.size<=maxLen):
  Calls Tryz.prog 274 #[.string s] w fun e w'=>e=.returned (.bool (j8 s.data.toList))/\w=w':=by
 unfold maxLen at hs
 have hlen:=wN s
 have r:s.toList=s.data.toList:=by rw[GA]
 by_cases h0:s.size=0
 ·have J:s.data.toList=[]:=FV (by omega)
  have e:j8 s.data.toList=false:=by simp[j8,J]
  have hl:s.toList=[]:=by rw[r,J]
  rw[e]
  clear J r e h0 hlen
  go_enter Tryz.func274,Tryz.ntmps274
  go_wp2
  go_ret
  exact⟨rfl,rfl⟩
 have hl:s.toList.isEmpty=false:=by
  rw[r];cases h:s.data.toList with
  |nil=>rw[h] at hlen;simp at hlen;omega
  |cons _ _=>rfl
 have O:s.data.toList.isEmpty=false:=by rw[<-r];exact hl
 by_cases h1:2000<s.size
 ·have e:j8 s.data.toList=false:=by simp[j8,hlen];intros;omega
  rw[e]
  clear r e hlen O
  go_enter Tryz.func274,Tryz.ntmps274
  go_wp2
  go_ret
  exact⟨rfl,rfl⟩
 have hp:0<s.size:=by omega
 by_cases Q:s[0]=48/\s.data.toList≠[48]
 ·have e:j8 s.data.toList=false:=by
   unfold j8
   rw[pR hp,FW Q.1,FW Q.2]
   simp
  have hc:((s[0].toNat:Int) == 48)=true:=by rw[Q.1];rfl
  have hq:(s.toList == [48])=false:=by rw[r];simpa using Q.2
  rw[e]
  clear r e hlen O Q
  go_enter Tryz.func274,Tryz.ntmps274
  go_wp2
  go_ret
  exact⟨rfl,rfl⟩
 have U:j8 s.data.toList=s.data.toList.all fun c=>decide (48<=c.toNat)&&decide (c.toNat<=57):=by
  unfold j8
  rw[O,FW (show s.data.toList.length<=2000 by omega),pR hp]
  have:(decide (s[0]=48)&&decide (s.data.toList≠[48]))=false:=by
   rw[Bool.and_eq_false_iff]
   by_cases a:s[0]=48
   ·right
    rw[Hr]
    intro b
    exact Q ⟨a,b⟩
   ·left;exact Gq a
  rw[this]
  simp
 obtain⟨R,HR⟩:∃ R,Hid (j8 s.data.toList=R):=⟨_,rfl⟩
 have HA:Hid (R=s.data.toList.all fun c=>decide (48<=c.toNat)&&decide (c.toNat<=57)):=by rw[<-HR.out];exact U
 have HL:=Gn hlen
 rw[HR.out]
 have L:(s[0].toNat:Int) == 48->(s.toList == [48])=true:=by
  intro a
  have a':s[0]=48:=by
   have h1:(s[0].toNat:Int)=48:=by simpa using a
   have this:s[0].toNat=(48:UInt8).toNat:=by
    have:(48:UInt8).toNat=48:=rfl
    omega
   exact UInt8.toNat_inj.1 this
  rw[r]
  by_cases b:s.data.toList=[48]
  ·rw[b];rfl
  ·exact absurd ⟨a',b⟩ Q
 have main:∀ (_:True),Calls Tryz.prog 274 #[.string s] w fun e w'=>e=.returned (.bool R)/\w=w':=by
  intro _
  clear U r O Q hlen
  have ad:decide ((2000:Int)<(s.size:Int))=false:=by simp;omega
  have I:Hid (∀ k (h:k<s.size),(s[k].toNat<48\/57<s[k].toNat)->R=false):=by
   intro k Z hc
   rw[HA.out]
   cases h:s.data.toList.all fun c=>decide (48<=c.toNat)&&decide (c.toNat<=57) with
   |false=>rfl
   |true=>
    have:=DU.1 h k Z
    simp at this
    omega
  have V:Hid ((∀ k (h:k<s.size),48<=s[k].toNat/\s[k].toNat<=57)->R=true):=by
   intro Z
   rw[HA.out,DU]
   intro i hi
   have:=Z i hi
   simp;omega
  rcases(show(((s[0].toNat:Int) == 48)=true/\(s.toList == [48])=true)\/((s[0].toNat:Int) == 48)=false from by
   cases h:((s[0].toNat:Int) == 48) with
   |false=>exact .inr rfl
   |true=>exact .inl ⟨rfl,L h⟩) with⟨h3,hq⟩|h3
  all_goals
   clear L
   go_enter Tryz.func274,Tryz.ntmps274
   go_wp2_with fail
   go_loop [22] (fun iv=>∃ k:Nat,k<=s.size/\iv=.int .i64 k/\Hid (∀ j (h:j<s.size),j<k->48<=s[j].toNat/\s[j].toNat<=57)) (fun iv=>s.size-(intOf iv).toNat)
   case atStart=>exact⟨0,Fz _,rfl,fun j h hj=>by omega⟩
   case round=>
    obtain⟨k,Z,rfl,HK⟩:=hrel
    by_cases X:k<s.size
    ·by_cases ah:(s[k].toNat:Int)<48
     ·have hf:=Gn (I.out k X (by omega))
      go_wp2_with fail
      go_ret
      rw[hf.out]
      exact⟨rfl,rfl⟩
     ·by_cases ao:57<(s[k].toNat:Int)
      ·have hf:=Gn (I.out k X (by omega))
       go_wp2_with fail
       go_ret
       rw[hf.out]
       exact⟨rfl,rfl⟩
      ·go_wp2_with fail
       go_round
       case rel=>exact⟨k+1,by omega,by go_num,fun j h hj=>by
        by_cases e:j=k
        ·subst e;omega
        ·exact HK.out j h (by omega)⟩
       case measure=>simp[intOf];omega
    ·have ht:=Gn (V.out fun j h=>HK.out j h (by omega))
     go_wp2_with fail
     go_ret
     rw[ht.out]
     exact⟨rfl,rfl⟩
 exact main trivial
def AV (W:World) (g n k more:Nat) (L:List Nat) (e:Ending) (w':World):Prop:=
 ∃ (h:List Nat) (c:Nat),e=.returned (.tuple #[])/\Row w' g h/\W.grownBy w' (some g)/\h.length=n/\M.Fit h/\M.val h+M.BB^n*c=M.val L*k+more
theorem mg (g n c k more:Nat) (L:List Nat) (w:World) (O:Row w g L) (hf:M.Fit L) (hn:L.length=n) (hc:n<=1000000) (hk:k<=1000000000) (hm:more<=k):
  Calls Tryz.prog 275 #[.slice (some ⟨g,0,none⟩) n c,.int .u64 k,.int .u64 more] w (AV w g n k more L):=by
 have HN:=Gn hn
 clear hn
 go_enter Tryz.func275,Tryz.ntmps275
 go_wp2_with fail
 go_loopw [6,12] (fun cv iv wr=>∃ (i r:Nat) (J:List Nat),i<=n/\r<=1000000000/\iv=.int .i64 i/\cv=.int .u64 r/\Row wr g J/\T.jw L J n i k more r/\w.grownBy wr (some g)) (fun _ iv _=>n-(intOf iv).toNat)
 case atStart=>exact⟨0,more,L,by omega,by omega,rfl,rfl,O,T.jw.start HN.out hf hm,World.grownBy.refl _ _⟩
 case round=>
  obtain⟨i,r,J,hi,ah,rfl,rfl,h,ht,I⟩:=hrel
  by_cases Z:i<n
  ·obtain⟨x,V⟩:∃ x,Hid (x=J.getD i 0):=⟨_,rfl⟩
   have hx:x<=4294967295:=by rw[V.out];exact CI ht.fit i
   have hcell:wr.cell? ⟨g,i,none⟩=some (.int .u32 (x:Int)):=by rw[V.out];exact h.cell (by rw[ht.len];omega)
   have ao:=h.frozen i
   obtain⟨p,U⟩:∃ p,Hid (x*k=p):=⟨_,rfl⟩
   have hp:p<=4294967295000000000:=by rw[<-U.out];have:=Ht hx hk;omega
   have av:(x:Int)*(k:Int)=(p:Int):=by rw[<-U.out];rfl
   have Q:=ht.step (t:=p+r) Z V.out (by rw[U.out])
   have ad:=Q.carry
   have HR:Hid (Row (wr.setCell ⟨g,i,none⟩ (.int .u32 (((p:Int)+r) % 4294967296))) g (J.set i ((p+r) % M.BB))):=h.Dw i _ (by rw[M.bS];omega)
   have HG:Hid (w.grownBy (wr.setCell ⟨g,i,none⟩ (.int .u32 (((p:Int)+r) % 4294967296))) (some g)):=fB I (p:=⟨g,i,none⟩) (.inl rfl) _
   have X:Hid ((((p+r)/M.BB:Nat):Int)=((p:Int)+r)/4294967296):=by rw[M.bS];exact(show _=_ from by omega)
   clear h I ht
   go_wp2_with fail
   go_roundw
   case rel=>exact⟨i+1,_,_,by omega,by omega,by go_num,by rw[X.out],HR.out,Q,HG.out⟩
   case measure=>simp[intOf];omega
  ·obtain rfl:i=n:=by omega
   have he:=ht.end_ HN.out
   have HE:=Gn he
   clear he
   go_wp2_with fail
   go_end0
   exact⟨J,r,rfl,h,I,ht.len,ht.fit,HE.out⟩
theorem vD (s:ByteArray) (w:World) (hs:s.size<=maxLen) (h:j8 s.data.toList=false):
  Calls Tryz.prog 241 #[.string s] w fun e w'=>e=.returned (.tuple #[.slice none 0 0,.int .i64 8])/\w=w':=by
 have r:=Gn (lG s w hs)
 rw[h] at r
 go_enter Tryz.func241,Tryz.ntmps241
 go_wp2_with fail
 refine r.out.mono ?_
 rintro e I ⟨rfl,rfl⟩
 go_wp2_with fail
 go_ret2
 exact⟨rfl,rfl⟩
theorem mO {w w':World} {o:Obj} (h:Below (w.alloc o).heap.size (w.alloc o) w'):Below w.heap.size w w':=
 ((Gp _ _).alloc (Fm _) _).trans (h.mono (by simp))
theorem gV {l:List UInt8}:j8 l=true↔l≠[]/\l.length<=2000/\(l=[48]\/l.getD 0 0≠48)/\T.gq l:=by
 unfold j8 T.gq
 simp only[GY,Bool.not_eq_true',Hu,Gt,Bool.and_eq_false_iff,Hr,List.isEmpty_eq_false_iff]
 constructor
 ·rintro⟨⟨⟨I,J⟩,r⟩,L⟩
  refine⟨I,J,?_,L⟩
  rcases r with r|r
  ·exact .inr r
  ·exact .inl (Decidable.not_not.1 r)
 ·rintro⟨I,J,r,L⟩
  refine⟨⟨⟨I,J⟩,?_⟩,L⟩
  rcases r with r|r
  ·exact .inr (fun h=>h r)
  ·exact .inl r
def rT (W:World) (N:Nat) (e:Ending) (w':World):Prop:=∃ v,e=.returned (.tuple #[v,.int .i64 0])/\Num w' v N/\Below W.heap.size W w'
theorem rR (s:ByteArray) (w:World) (hs:s.size<=maxLen) (h:j8 s.data.toList=true):
  Calls Tryz.prog 241 #[.string s] w (rT w (T.dv s.data.toList)):=by
 obtain⟨h1,h2,_,J⟩:=gV.1 h
 have hlen:=wN s
 rw[hlen] at h2
 have bE:0<s.size:=by
  rcases Hn s.size with e|e
  ·rw[e] at hlen;exact absurd (FV hlen) h1
  ·exact e
 have HT:=Gn (lG s w hs)
 rw[h] at HT
 have HD:Hid (∀ i (hi:i<s.size),48<=s[i].toNat/\s[i].toNat<=57):=fun i hi=>by
  rw[<-pR hi]
  refine J _ ?_
  rw[G3,Ge (by rw[hlen];exact hi)]
  exact Gf _
 obtain⟨S,HS⟩:∃ S,Hid (s.data.toList=S):=⟨_,rfl⟩
 have HG:Hid (∀ i (hi:i<s.size),S.getD i 0=s[i]):=fun i hi=>by rw[<-HS.out];exact pR hi
 have HL:Hid (S.length=s.size):=by rw[<-HS.out];exact hlen
 have HA:Hid (T.gq S):=by rw[<-HS.out];exact J
 rw[HS.out]
 clear J h1 h hlen
 obtain⟨m,Hm⟩:∃ m,Hid (s.size/9+1=m):=⟨_,rfl⟩
 have hm:m<=300:=by have:=Hm.out;omega
 have bT:(s.size:Int)/9+1=(m:Int):=by have:=Hm.out;omega
 have b3:=pX m (by omega)
 go_enter Tryz.func241,Tryz.ntmps241
 go_wp2_with fail
 refine HT.out.mono ?_
 rintro e w1 ⟨rfl,rfl⟩
 go_wp2_with fail
 have r:=Row.ym w m
 have bp:Below w.heap.size w (w.alloc (.cells (zeros m) 206)):=(Gp _ _).alloc (Fm _) _
 go_loopw [5,6,18] (fun sv cv iv wr=>∃ (i sc ch:Nat) (L:List Nat),i<=s.size/\sc<=100000000/\ch<=100000000/\iv=.int .i64 i/\sv=.int .u64 sc/\cv=.int .u64 ch/\Row wr w.heap.size L/\T.Parsing S L m i sc ch/\(i=s.size->sc=1/\ch=0)/\Below w.heap.size w wr) (fun _ _ iv _=>s.size-(intOf iv).toNat)
 case atStart=>exact⟨0,1,0,_,by omega,by omega,by omega,rfl,rfl,rfl,r,T.Parsing.start S m,fun _=>⟨rfl,rfl⟩,bp⟩
 case round=>
  obtain⟨i,sc,ch,L,hi,b5,bL,rfl,rfl,rfl,r,hp,Z,I⟩:=hrel
  have HE:=Gn Z
  clear Z
  by_cases Q:i<s.size
  ·obtain⟨d,Hd⟩:∃ d,Hid (s[i].toNat-48=d):=⟨s[i].toNat-48,rfl⟩
   have hc:=HD.out i Q
   have a1:d<=9:=by have:=Hd.out;omega
   have ao:Hid (d=(S.getD i 0).toNat-48):=by rw[HG.out i Q];exact Hd.out.symm
   have bP:(s[i].toNat:Int)-48=(d:Int):=by have:=Hd.out;omega
   obtain⟨b4,ah⟩:=hp.small
   have bC:=hp.lt
   obtain⟨k,hk⟩:∃ k,Hid (sc*10=k):=⟨_,rfl⟩
   obtain⟨mo,U⟩:∃ mo,Hid (ch*10+d=mo):=⟨_,rfl⟩
   have b2:(sc:Int)*10=(k:Int):=by have:=hk.out;omega
   have bD:(ch:Int)*10+(d:Int)=(mo:Int):=by have:=U.out;omega
   have bz:k<=1000000000:=by have:=hk.out;omega
   have bb:mo<=k:=by have:=hk.out;have:=U.out;omega
   have O:Hid (∀ (X:List Nat) (c:Nat),X.length=m->M.Fit X->M.val X+M.BB^m*c=M.val L*k+mo->T.Parsing S X m (i+1) 1 0):=by
    intro X c q1 q2 q3
    rw[<-hk.out,<-U.out] at q3
    exact hp.flush (by rw[HL.out];exact Q) ao.out a1 HA.out (by rw[HL.out];exact Hm.out.symm) q1 q2 q3
   have bo:=Gn (mg w.heap.size m m k mo L wr r hp.fit hp.len (by omega) bz bb)
   by_cases hA:sc=100000000\/i+1=s.size
   ·rcases(show((k:Int) == 1000000000)=true\/((k:Int) == 1000000000)=false/\((i:Int) == (s.size:Int)-1)=true from by
     have:=hk.out
     rcases ah with e|e
     ·left;simp;omega
     ·right;constructor
      ·simp;omega
      ·rcases hA with e2|e2
       ·omega
       ·simp;omega) with av|⟨av,bx⟩
    all_goals
     clear hA ah
     go_wp2_with fail
     refine bo.out.mono ?_
     rintro e w2 ⟨X,c,rfl,r2,g2,l2,f2,v2⟩
     have V:=O.out X c l2 f2 v2
     have ad:=I.grown g2 I.size (by intro q hq;injection hq with hq;omega)
     clear v2 l2 g2
     go_wp2_with fail
     go_roundw
     case rel=>exact⟨i+1,1,0,X,by omega,by omega,by omega,by go_num,rfl,rfl,r2,V,fun _=>⟨rfl,rfl⟩,ad⟩
     case measure=>simp[intOf];omega
   ·have bB:sc<=10000000:=by omega
    have av:((k:Int) == 1000000000)=false:=by have:=hk.out;simp;omega
    have bx:((i:Int) == (s.size:Int)-1)=false:=by simp;omega
    have V:=hp.keep (by rw[HL.out];exact Q) ao.out a1 bB
    rw[hk.out,U.out] at V
    have a7:¬i+1=s.size:=fun e=>hA (.inr e)
    have bl:=Gn a7
    have b1:k<=100000000:=by have:=hk.out;omega
    clear hA ah a7
    go_wp2_with fail
    go_roundw
    case rel=>exact⟨i+1,k,mo,L,by omega,by omega,by omega,by go_num,rfl,rfl,r,V,fun e=>absurd e bl.out,I⟩
    case measure=>simp[intOf];omega
  ·obtain rfl:i=s.size:=by omega
   obtain⟨rfl,rfl⟩:=HE.out rfl
   have hv:Hid (M.val L=T.dv S):=by
    have:=hp.sum
    rw[Hp,Ho,Gr (by rw[HL.out];exact Fm _)] at this
    exact this
   have ba:=hp.len
   have bn:=Gn (jo (some ⟨w.heap.size,0,none⟩) m m L wr (r.mf hp.fit ba) (Fm _) (by unfold maxLen;omega))
   clear ba
   go_wp2_with fail
   refine bn.out.mono ?_
   rintro e w2 hT
   obtain⟨A3,n3,c3,rfl,t1,t2,t3,t4,t5,t6,rfl⟩:=hT
   have T2:=Gn t2
   have T3:=Gn (t3.trans hv.out)
   clear t2 t3
   go_wp2_with fail
   go_ret2
   exact⟨_,rfl,⟨A3,n3,c3,_,rfl,t1,T2.out,T3.out,t5,by unfold maxLen;omega⟩,I⟩
end Go.Proofs.YtdbgiijdgedggaaGreatDoor
