/- What the proofs of this claim use, text by text. -/
import Derived.Test.YtcgaeknikfaghaaGreatDoorRows
import Derived.Test.YtcgaeknikfaghaaGreatDoorQD03
import Derived.WalkKit
import Derived.WalkSpells
import Derived.WalkLawsBesides
import Derived.Deep.QuietTactic
import Derived.BigQuiet
import Derived.Deep.Draws
import Derived.Lib.Hide
import Derived.Deep.AppendLies
import Derived.Deep.OwnRows
import Derived.Laws.CopyOwn
import Derived.Laws.Rows
import Derived.Deep.DeepCutAuto
import Derived.BigRegion
import Derived.RegionTactic
import Derived.ChangeAlike
import Derived.Deep.RegionWith
import Derived.Laws.AppendOwnNone
import Derived.OpenShut
set_option linter.unusedSimpArgs false
set_option linter.unusedVariables false
set_option maxRecDepth 100000
set_option maxHeartbeats 25600000
namespace Go.Proofs.YtcgaeknikfaghaaGreatDoor
open Go.RowKit
theorem ret_int {k:IntKind} {a b:Int} (h:a=b):Ending.returned (.int k a)=.returned (.int k b):=by rw[h]
theorem quiet_add {P:Program} {f:FuncId} {args:Array Value} {w:World} {a n:Nat} {v:Value}
  (h:Calls P f args (w.drewN (a+n)) fun e w'=>e=.returned v∧w'=w.drewN (a+n)):
  Calls P f args (w.drewN (a+n)) fun e w''=>e=.returned v∧∃ m,w''=w.drewN (a+m):=
 h.mono fun _ _ ⟨he,hm⟩=>⟨he,n,hm⟩
def Lims (w:World) (a:Option Addr) (n:Nat) (l:List Nat):Prop:=
 l.length=n∧M.Fit l∧(0<n→∃ b off,a=some ⟨b,off,none⟩∧b<w.heap.size∧∀ j,j<n→w.cell? ⟨b,off+j,none⟩=some (.int .u32 ((l.getD j 0:Nat):Int)))
theorem Lims.nil_ (w:World) (a:Option Addr):Lims w a 0 []:=⟨rfl,M.Fit.nil,fun h=>absurd h (by omega)⟩
theorem Lims.at_ {w:World} {a:Option Addr} {n:Nat} {l:List Nat} (h:Lims w a n l) (hn:0<n):
  ∃ b off,a=some ⟨b,off,none⟩∧b<w.heap.size∧∀ j,j<n→∃ x:Nat,Hid (x=l.getD j 0)∧x≤4294967295∧w.cell? ⟨b,off+j,none⟩=some (.int .u32 (x:Int)):=by
 obtain⟨h1,h2,h3⟩:=h
 obtain⟨b,off,e,hb,hc⟩:=h3 hn
 refine⟨b,off,e,hb,fun j hj=>⟨l.getD j 0,rfl,?_,hc j hj⟩⟩
 have:=h2 j
 rw[M.BB_eq] at this
 omega
theorem Lims.below {w w':World} {a:Option Addr} {n:Nat} {l:List Nat} (h:Lims w a n l) (hb:Below w.heap.size w w'):Lims w' a n l:=
 ⟨h.1,h.2.1,fun hn=>by
  obtain⟨b,off,e,h1,h2⟩:=h.2.2 hn
  exact⟨b,off,e,Nat.lt_of_lt_of_le h1 hb.size,fun j hj=>(hb.cell h1).trans (h2 j hj)⟩⟩
theorem below_drewN {B:Nat} {a w:World} (h:Below B a w) (n:Nat):Below B a (w.drewN n):=⟨h.os,h.tape,h.output,h.size,h.block⟩
theorem Lims.take {w:World} {a:Option Addr} {n:Nat} {l:List Nat} (h:Lims w a n l) {k:Nat} (hk:k≤n):Lims w a k (l.take k):=
 ⟨by rw[List.length_take,h.1];omega,h.2.1.take k,fun hn=>by
  obtain⟨b,off,e,h1,h2⟩:=h.2.2 (by omega)
  refine⟨b,off,e,h1,fun j hj=>(h2 j (by omega)).trans ?_⟩
  congr 3
  simp[List.getD_eq_getElem?_getD,hj]⟩
def cellsOf (l:List Nat):List Value:=l.map fun(x:Nat)=> .int .u32 (x:Int)
theorem cellsOf_length (l:List Nat):(cellsOf l).length=l.length:=by simp[cellsOf]
theorem cellsOf_get {l:List Nat} {j:Nat} (h:j<l.length):(cellsOf l)[j]?=some (.int .u32 ((l.getD j 0:Nat):Int)):=by
 simp[cellsOf,List.getD_eq_getElem?_getD,h]
theorem cellsOf_one {l:List Nat}:∀ v∈cellsOf l,v.oneCell'=true:=by
 intro v hv
 obtain⟨x,_,rfl⟩:=List.mem_map.1 hv
 rfl
def Row (w:World) (g:Nat) (l:List Nat):Prop:=w.heap[g]?=some (.cells (cellsOf l).toArray 173 (0,0))
theorem Row.lt {w:World} {g:Nat} {l:List Nat} (h:Row w g l):g<w.heap.size:=by
 rcases Nat.lt_or_ge g w.heap.size with hlt|hge
 ·exact hlt
 ·unfold Row at h;rw[Array.getElem?_eq_none hge] at h;cases h
theorem Row.cell {w:World} {g:Nat} {l:List Nat} (h:Row w g l) {j:Nat} (hj:j<l.length):w.cell? ⟨g,j,none⟩=some (.int .u32 ((l.getD j 0:Nat):Int)):=by
 rw[cell_of_row w g j _ _ (0,0) h,List.getElem?_toArray,cellsOf_get hj]
theorem Row.frozen {w:World} {g:Nat} {l:List Nat} (h:Row w g l) (i:Nat):w.frozen? ⟨g,i,none⟩=false:=by
 unfold Row at h
 simp[World.frozen?,h]
theorem Row.lims {w:World} {g:Nat} {l:List Nat} (h:Row w g l) (hf:M.Fit l) {n:Nat} (hn:l.length=n):Lims w (some ⟨g,0,none⟩) n l:=
 ⟨hn,hf,fun _=>⟨g,0,rfl,h.lt,fun j hj=>by rw[Nat.zero_add];exact h.cell (by omega)⟩⟩
theorem Row.set_ {w:World} {g:Nat} {l:List Nat} (h:Row w g l) (i x:Nat):Row (w.setCell ⟨g,i,none⟩ (.int .u32 (x:Int))) g (l.set i x):=by
 unfold Row at h ⊢
 simp[World.setCell,Array.getElem?_modify,h,cellsOf,List.map_set]
theorem Row.set_' {w:World} {g:Nat} {l:List Nat} (h:Row w g l) (i:Nat) {v:Int} (x:Nat) (hv:v=(x:Int)):Row (w.setCell ⟨g,i,none⟩ (.int .u32 v)) g (l.set i x):=by
 rw[hv]
 exact h.set_ i x
theorem only_setCell {a w:World} {g:Nat} (h:a.grownBy w (some g)) {p:Addr} (hp:p.block=g∨a.heap.size≤p.block) (u:Value):a.grownBy (w.setCell p u) (some g):=
 ⟨h.os,h.tape,h.output,by simpa [World.setCell] using h.size,fun i hi hne=>(Below.heap_setCell w p u i (by
  rintro rfl
  rcases hp with hp|hp
  ·exact hne (by rw[hp])
  ·omega)).trans (h.block i hi hne)⟩
def zeros (n:Nat):Array Value:=(cellsOf (List.replicate n 0)).toArray
theorem Row.zeros_ (w:World) (n:Nat):Row (w.alloc (.cells (zeros n) 173)) w.heap.size (List.replicate n 0):=heap_alloc_new w _
theorem Tryz.info_u32:(Tryz.prog.info? 173).map (fun i=>(i.zero,i.size,i.bytes))=some (some (.int .u32 0),1,4):=by kernel_rfl
theorem Tryz.size_u32:(Tryz.prog.info? 173).map (·.size)=some 1:=by kernel_rfl
theorem zeros_eq (n:Nat):madeCells #[Value.int .u32 0] n=zeros n:=by
 apply Array.ext
 ·simp[madeCells,zeros,cellsOf]
 ·intro i h1 h2
  have e:i % 1=0:=by omega
  simp[madeCells,zeros,cellsOf,e]
theorem make_any (n:Nat) (hn:n≤1099511627776) (w:World):
  (Instr.makeSlice 45 (.int .i64 (n:Int)) (.int .i64 (n:Int))).run Tryz.prog w=.ok (.slice (some ⟨w.heap.size,0,none⟩) n n) (w.alloc (.cells (zeros n) 173)):=by
 rw[←zeros_eq]
 exact run_make_row' 45 173 (.int .u32 0) 4 Tryz.underlying45 Tryz.info_u32 rfl .i64 .i64 n (by omega) (by omega) w
theorem copy_any {w:World} {ops:Array Oper} {rest:List Oper} {o:Oper} {a:Act} {Q:Exit→Act→World→Prop} (hgd:o.guard=none) (d s:Operand)
  (ho:o.op=.call { callee:=.builtin .copy,args:=#[d,s],argTypes:=#[45,45] })
  {g m k n c:Nat} {A:Option Addr} {l:List Nat} (hd:a.eval d=.slice (some ⟨g,0,none⟩) m k) (hs:a.eval s=.slice A n c)
  (hrow:Row w g (List.replicate m 0)) (hl:Lims w A n l) (hnm:n≤m) {w0:World} (hb:Below g w0 w)
  (h:∀ w',Row w' g (l++List.replicate (m-n) 0)→Below g w0 w'→wpList Tryz.prog ops Q rest (a.put o.dst (goInt n)) w'):
  wpList Tryz.prog ops Q (o::rest) a w:=by
 have hlen:=hl.1
 refine wpList_copy_splice hgd d s 45 45 ho 173 Tryz.underlying45 Tryz.size_u32 _ _ m k n c hd hs g 0 (cellsOf (List.replicate m 0)) 173 hrow (cellsOf l)
  (by rw[cellsOf_length,hlen];exact(Nat.min_eq_left hnm).symm) ?_ (by simp[cellsOf_length];omega) cellsOf_one g w0 hb (Nat.le_refl _) ?_
 ·intro h0
  rw[cellsOf_length,hlen] at h0
  obtain⟨b,off,e,_,hc⟩:=hl.2.2 h0
  refine⟨rfl,_,e,fun j v hv=>?_⟩
  have hj:j<l.length:=by
   rcases Nat.lt_or_ge j l.length with h1|h1
   ·exact h1
   ·rw[List.getElem?_eq_none (by rw[cellsOf_length];exact h1)] at hv;cases hv
  rw[cellsOf_get hj] at hv
  injection hv with hv
  subst hv
  have:=hc j (by omega)
  unfold Addr.add
  split <;> simp_all
 ·intro w' hr hb'
  have hr:=hr.out
  have e:splice (cellsOf (List.replicate m 0)) 0 (cellsOf l)=cellsOf (l++List.replicate (m-n) 0):=by
   simp[splice,cellsOf,hlen]
  rw[e] at hr
  rw[cellsOf_length,hlen]
  exact h w' hr hb'
end Go.Proofs.YtcgaeknikfaghaaGreatDoor
namespace Go.Proofs.YtcgaeknikfaghaaGreatDoor
open Go.RowKit
def Trimmed (w:World) (l:List Nat) (cap:Nat) (e:Ending) (w':World):Prop:=
 ∃ A n c,e=.returned (.slice A n c)∧Lims w A n (l.take n)∧M.Top (l.take n)∧M.val (l.take n)=M.val l∧n≤l.length∧n≤c∧c≤cap∧w=w'
theorem trimmed_zero {w:World} {l:List Nat} {cap:Nat} (hz:∀ j,0≤j→l.getD j 0=0):Trimmed w l cap (.returned (.slice none 0 0)) w:=
 ⟨none,0,0,rfl,by simpa using Lims.nil_ w none,by simpa using M.Top.nil,M.val_zeros l 0 hz,by omega,by omega,by omega,rfl⟩
theorem trimmed_some {w:World} {A:Option Addr} {n c k:Nat} {l:List Nat} (h:Lims w A n l) (hk:k≤n) (hn:n≤c) (h0:0<k) (hx:l.getD (k-1) 0≠0) (hz:∀ j,k≤j→l.getD j 0=0):
  Trimmed w l c (.returned (.slice A k c)) w:=by
 refine⟨A,k,c,rfl,h.take hk,fun _=>?_,M.val_zeros l k hz,by rw[h.1];exact hk,by omega,by omega,rfl⟩
 rw[List.length_take,h.1,Nat.min_eq_left hk]
 simpa [List.getD_eq_getElem?_getD,List.getElem?_take,show k-1<k from by omega] using hx
def TrimmedAt (w:World) (A:Option Addr) (l:List Nat) (cap:Nat) (e:Ending) (w':World):Prop:=
 Trimmed w l cap e w'∧(e=.returned (.slice none 0 0)∨∃ n c,0<n∧e=.returned (.slice A n c))
theorem trim_at (A:Option Addr) (n c:Nat) (l:List Nat) (w:World) (h:Lims w A n l) (hn:n≤c) (hc:c≤maxLen):
  Calls Tryz.prog 198 #[.slice A n c] w (TrimmedAt w A l c):=by
 unfold maxLen at hc
 go_enter Tryz.func198,Tryz.ntmps198
 go_wp2
 go_loop [3] (fun t=>∃ k:Nat,k≤n∧t=.int .i64 k∧∀ j,k≤j→l.getD j 0=0) (fun t=>(intOf t).toNat)
 case atStart=>exact⟨n,Nat.le_refl _,rfl,fun j hj=>M.getD_ge (by rw[h.1];exact hj)⟩
 case round=>
  obtain⟨k,hk,rfl,hz⟩:=hrel
  have HZ:=Lib.hid hz
  clear hz
  by_cases h0:0<k
  ·obtain⟨b,off,rfl,hb,hcs⟩:=h.at_ (by omega)
   obtain⟨x,HX,hx,hcell⟩:=hcs (k-1) (by omega)
   clear hcs
   by_cases hx0:x=0
   ·subst hx0
    go_wp2
    go_round
    case rel=>exact⟨k-1,by omega,by go_num,fun j hj=>by
     by_cases e:j=k-1
     ·subst e;exact HX.out.symm
     ·exact HZ.out j (by omega)⟩
    case measure=>simp[intOf];omega
   ·have hx1:((x:Int) == 0)=false:=by simpa using hx0
    have hk1:((k:Int) == 0)=false:=by simp;omega
    clear hx0
    go_wp2
    go_ret
    exact⟨trimmed_some h hk hn h0 (by rw[←HX.out];simpa using hx1) HZ.out,.inr ⟨k,c,h0,rfl⟩⟩
  ·go_wp2
   go_ret
   exact⟨trimmed_zero fun j _=>HZ.out j (by omega),.inl rfl⟩
theorem trim_any (A:Option Addr) (n c:Nat) (l:List Nat) (w:World) (h:Lims w A n l) (hn:n≤c) (hc:c≤maxLen):
 Calls Tryz.prog 198 #[.slice A n c] w (Trimmed w l c):=(trim_at A n c l w h hn hc).mono fun _ _ h=>h.1
theorem sign_any (b:Bool) (w:World):Calls Tryz.prog 244 #[.bool b] w fun e w'=>e=.returned (.int .i64 (if b then -1 else 1))∧w=w':=by
 cases b
 ·go_enter Tryz.func244,Tryz.ntmps244
  go_wp2
  go_ret
  exact⟨rfl,rfl⟩
 ·go_enter Tryz.func244,Tryz.ntmps244
  go_wp2
  go_ret
  exact⟨rfl,rfl⟩
end Go.Proofs.YtcgaeknikfaghaaGreatDoor
namespace Go.Proofs.YtcgaeknikfaghaaGreatDoor
open Go.RowKit
def Num (w:World) (v:Value) (N:Nat):Prop:=
 ∃ A n c l,v=.slice A n c∧Lims w A n l∧M.Top l∧M.val l=N∧n≤c∧c≤maxLen
end Go.Proofs.YtcgaeknikfaghaaGreatDoor
namespace Go.Proofs.YtcgaeknikfaghaaGreatDoor
open Go.RowKit
def Normed (W:World) (N n:Nat) (e:Ending) (w':World):Prop:=
 ∃ l:List Nat,M.Fit l∧M.Top l∧M.val l=N∧l.length≤n∧Below W.heap.size W w'∧
  ((l=[]∧e=.returned (.slice none 0 0))∨(e=.returned (.slice (some ⟨W.heap.size,0,none⟩) l.length l.length)∧Row w' W.heap.size l))
theorem norm_row (A:Option Addr) (n c:Nat) (l:List Nat) (w:World) (h:Lims w A n l) (hn:n≤c) (hc:c≤maxLen) (hs:n≤1000000):
  Calls Tryz.prog 217 #[.slice A n c] w (Normed w (M.val l) n):=by
 go_enter Tryz.func217,Tryz.ntmps217
 go_wp2_with fail
 refine(trim_any _ _ _ _ _ h hn hc).mono ?_
 rintro e w1 ⟨A',n',c',rfl,h1,h2,h3,h4,h5,h6,rfl⟩
 have hl:=h.1
 have HL:=Lib.hid hl
 clear hl
 have hn':n'≤1000000:=by have:=HL.out;omega
 have hnn:n'≤n:=by have:=HL.out;omega
 have H3:=Lib.hid h3
 have H1:=Lib.hid h1.1
 have H2:=Lib.hid h2
 clear h3 h2
 by_cases h0:n'=0
 ·subst h0
  go_wp2_with fail
  go_ret
  exact⟨[],M.Fit.nil,M.Top.nil,by rw[←H3.out];rfl,by simp,Below.refl _ _,.inl ⟨rfl,rfl⟩⟩
 ·have h0':((n':Int) == 0)=false:=by simp;omega
  clear h0
  have hmk:=make_any n' (by omega)
  go_wp2_with (refine copy_any rfl (.tmp 12) (.tmp 13) rfl rfl rfl (Row.zeros_ _ _) (h1.below ((Below.refl _ _).alloc (Nat.le_refl _) _)) (Nat.le_refl _) ((Below.refl _ _).alloc (Nat.le_refl _) _) ?_;intro w2 hrow hbel)
  go_ret
  simp only[Nat.sub_self,List.replicate_zero,List.append_nil] at hrow
  exact⟨_,h1.2.1,H2.out,H3.out,by rw[H1.out];exact hnn,hbel,.inr ⟨by rw[H1.out];rfl,hrow⟩⟩
theorem sign_q (b:Bool) (w:World) (n:Int) (hn:n=if b then -1 else 1):Calls Tryz.prog 244 #[.bool b] w fun e w'=>e=.returned (.int .i64 n)∧w'=w:=
 (sign_any b w).mono fun _ _ ⟨h1,h2⟩=>⟨by rw[h1,hn],h2.symm⟩
theorem cmp_any (A B:Option Addr) (n m c d:Nat) (k l:List Nat) (w:World) (hk:Lims w A n k) (hl:Lims w B m l) (hn:n≤c) (hm:m≤d) (hc:c≤maxLen) (hd:d≤maxLen):
  Calls Tryz.prog 233 #[.slice A n c,.slice B m d] w fun e w'=>e=.returned (.int .i64 (M.cmpI (M.val k) (M.val l)))∧∃ j,w'=w.drewN j:=by
 go_enter Tryz.func233,Tryz.ntmps233
 go_wp2_with fail
 refine(trim_any _ _ _ _ _ hk hn hc).mono ?_
 rintro e w1 ⟨A',n',c',rfl,h1,h2,h3,h4,h5,h6,rfl⟩
 go_wp2_with fail
 refine(trim_any _ _ _ _ _ hl hm hd).mono ?_
 rintro e w1 ⟨B',m',d',rfl,g1,g2,g3,g4,g5,g6,rfl⟩
 generalize k.take n'=k' at*
 generalize l.take m'=l' at*
 have hr:Hid (M.cmpI (M.val k) (M.val l)=M.cmpI (M.val k') (M.val l')):=by rw[h3,g3];exact rfl
 clear h3 g3
 have H2:=Lib.hid h2
 have G2:=Lib.hid g2
 clear h2 g2
 unfold maxLen at hc hd
 by_cases hlt:n'<m'
 ·have hne:((n':Int) == (m':Int))=false:=by simp;omega
  have hb:decide ((n':Int)<(m':Int))=true:=by simp;omega
  go_wp2_with fail
  refine(sign_q true _ _ rfl).mono ?_
  rintro e w1 ⟨rfl,rfl⟩
  go_wp2_with fail
  go_ret
  refine⟨ret_int ?_,0,rfl⟩
  rw[hr.out,M.cmpI_lt (M.lt_of_shorter h1.2.1 G2.out (by rw[h1.1,g1.1];exact hlt))]
 by_cases hgt:m'<n'
 ·have hne:((n':Int) == (m':Int))=false:=by simp;omega
  have hb:decide ((n':Int)<(m':Int))=false:=by simp;omega
  go_wp2_with fail
  refine(sign_q false _ _ rfl).mono ?_
  rintro e w1 ⟨rfl,rfl⟩
  go_wp2_with fail
  go_ret
  refine⟨ret_int ?_,0,rfl⟩
  rw[hr.out,M.cmpI_gt (M.lt_of_shorter g1.2.1 H2.out (by rw[h1.1,g1.1];exact hgt))]
 obtain rfl:n'=m':=by omega
 clear hlt hgt
 have hlen:Hid (k'.length=l'.length):=h1.1.trans g1.1.symm
 go_wp2_with fail
 go_loopw [24] (fun i wr=>∃ j:Nat,j≤n'∧i=.int .i64 j∧Hid (∀ q,n'-j≤q→k'.getD q 0=l'.getD q 0)∧∃ q,wr=w.drewN q) (fun i _=>n'-(intOf i).toNat)
 case atStart=>exact⟨0,Nat.zero_le _,rfl,fun q hq=>by rw[M.getD_ge (by rw[h1.1];exact hq),M.getD_ge (by rw[g1.1];exact hq)],0,rfl⟩
 case round=>
  obtain⟨j,hj,rfl,HZ,q,rfl⟩:=hrel
  by_cases hlt:j<n'
  ·obtain⟨i,hi⟩:∃ i:Nat,Hid (n'-1-j=i):=⟨_,rfl⟩
   have hi1:i<n':=by have:=hi.out;omega
   have hi2:j<n':=hlt
   have he:(n':Int)-1-(j:Int)=(i:Int):=by have:=hi.out;omega
   obtain⟨b,off,rfl,_,hc1⟩:=h1.at_ (by omega)
   obtain⟨x,HX,hx,hcx⟩:=hc1 (i) (by omega)
   obtain⟨b',off',rfl,_,hc2⟩:=g1.at_ (by omega)
   obtain⟨y,HY,hy,hcy⟩:=hc2 (i) (by omega)
   clear hc1 hc2
   have HZ':Hid (∀ q,i+1≤q→k'.getD q 0=l'.getD q 0):=fun q hq=>HZ.out q (by have:=hi.out;omega)
   by_cases hxy:x=y
   ·subst hxy
    go_wp2_with fail
    go_quiet (fail)
    go_wp2_with fail
    go_roundw
    case rel=>exact⟨j+1,by omega,by go_num,fun q hq=>by
     by_cases e:q=i
     ·subst e;rw[←HX.out,←HY.out]
     ·exact HZ.out q (by have:=hi.out;omega),_,rfl⟩
    case measure=>simp[intOf];omega
   ·have hxy':((x:Int) == (y:Int))=false:=by simp;omega
    by_cases hlt2:x<y
    ·have hb:decide ((x:Int)<(y:Int))=true:=by simp;omega
     have hv:Hid (M.cmpI (M.val k) (M.val l)= -1):=by
      rw[hr.out]
      exact M.cmpI_lt (M.lt_of_top (i) hlen.out (by rw[h1.1];omega) h1.2.1 HZ'.out (by rw[←HX.out,←HY.out];exact hlt2))
     clear hxy
     go_wp2_with fail
     go_quiet (fail)
     rw[World.drewN_drewN]
     generalize q+nq=q2
     go_wp2_with fail
     go_quiet ((go_at_call 244;exact quiet_add (sign_q true _ _ rfl)))
     go_wp2_with fail
     go_ret
     first|exact⟨ret_int (by rw[hv.out]),_,rfl⟩|exact⟨ret_int (by rw[hv.out]),_,World.drewN_drewN _ _ _⟩
    ·have hb:decide ((x:Int)<(y:Int))=false:=by simp;omega
     have hv:Hid (M.cmpI (M.val k) (M.val l)=1):=by
      rw[hr.out]
      exact M.cmpI_gt (M.lt_of_top (i) hlen.out.symm (by rw[g1.1];omega) g1.2.1 (fun q hq=>(HZ'.out q hq).symm) (by rw[←HX.out,←HY.out];omega))
     clear hxy
     go_wp2_with fail
     go_quiet (fail)
     rw[World.drewN_drewN]
     generalize q+nq=q2
     go_wp2_with fail
     go_quiet ((go_at_call 244;exact quiet_add (sign_q false _ _ rfl)))
     go_wp2_with fail
     go_ret
     first|exact⟨ret_int (by rw[hv.out]),_,rfl⟩|exact⟨ret_int (by rw[hv.out]),_,World.drewN_drewN _ _ _⟩
  ·have hv:Hid (M.cmpI (M.val k) (M.val l)=0):=by
    rw[hr.out,M.eq_of_all hlen.out (fun q _=>HZ.out q (by omega))]
    exact M.cmpI_eq _
   go_wp2_with fail
   go_ret
   exact⟨ret_int (by rw[hv.out]),_,rfl⟩
end Go.Proofs.YtcgaeknikfaghaaGreatDoor
namespace Go.Proofs.YtcgaeknikfaghaaGreatDoor
open Go.RowKit
theorem fit_of {l:List Nat} (h:M.Fit l) (i:Nat):l.getD i 0≤4294967295:=by have:=h i;rw[M.BB_eq] at this;omega
end Go.Proofs.YtcgaeknikfaghaaGreatDoor
namespace Go.Proofs.YtcgaeknikfaghaaGreatDoor
open Go.RowKit
end Go.Proofs.YtcgaeknikfaghaaGreatDoor
namespace Go.Proofs.YtcgaeknikfaghaaGreatDoor
open Go.RowKit
end Go.Proofs.YtcgaeknikfaghaaGreatDoor
namespace Go.Proofs.YtcgaeknikfaghaaGreatDoor
open Go.RowKit
def isT (l:List UInt8):Bool:=!l.isEmpty&&decide (l.length≤2000)&&!(decide (l.getD 0 0=48)&&decide (l≠[48]))&&l.all fun c=>decide (48≤c.toNat)&&decide (c.toNat≤57)
theorem lenL (s:ByteArray):s.data.toList.length=s.size:=by rw[Array.length_toList];rfl
theorem getL {s:ByteArray} {i:Nat} (h:i<s.size):s.data.toList.getD i 0=s[i]:=by
 have h':i<s.data.size:=h
 rw[List.getD_eq_getElem?_getD,Array.getElem?_toList,Array.getElem?_eq_getElem h']
 rfl
theorem allL {s:ByteArray} {p:UInt8→Bool}:(s.data.toList.all p=true)↔∀ i (h:i<s.size),p s[i]=true:=by
 rw[List.all_eq_true]
 constructor
 ·intro h i hi
  have h':i<s.data.size:=hi
  have hm:s.data[i]∈s.data.toList:=Array.getElem_mem_toList h'
  exact h _ hm
 ·intro h x hx
  obtain⟨i,hi,rfl⟩:=List.getElem_of_mem hx
  exact h i (by simpa using hi)
theorem isText_any (s:ByteArray) (w:World) (hs:s.size≤maxLen):
  Calls Tryz.prog 196 #[.string s] w fun e w'=>e=.returned (.bool (isT s.data.toList))∧w=w':=by
 unfold maxLen at hs
 have hlen:=lenL s
 have htl:s.toList=s.data.toList:=by rw[ByteArray.toList_eq]
 by_cases h0:s.size=0
 ·have hnil:s.data.toList=[]:=List.eq_nil_of_length_eq_zero (by omega)
  have e:isT s.data.toList=false:=by simp[isT,hnil]
  have hl:s.toList=[]:=by rw[htl,hnil]
  rw[e]
  clear hnil htl e h0 hlen
  go_enter Tryz.func196,Tryz.ntmps196
  go_wp2
  go_ret
  exact⟨rfl,rfl⟩
 have hl:s.toList.isEmpty=false:=by
  rw[htl];cases h:s.data.toList with
  |nil=>rw[h] at hlen;simp at hlen;omega
  |cons _ _=>rfl
 have hl2:s.data.toList.isEmpty=false:=by rw[←htl];exact hl
 by_cases h1:2000<s.size
 ·have e:isT s.data.toList=false:=by simp[isT,hlen];intros;omega
  rw[e]
  clear htl e hlen hl2
  go_enter Tryz.func196,Tryz.ntmps196
  go_wp2
  go_ret
  exact⟨rfl,rfl⟩
 have hp:0<s.size:=by omega
 by_cases h2:s[0]=48∧s.data.toList≠[48]
 ·have e:isT s.data.toList=false:=by
   unfold isT
   rw[getL hp,decide_eq_true h2.1,decide_eq_true h2.2]
   simp
  have hc:((s[0].toNat:Int) == 48)=true:=by rw[h2.1];rfl
  have hq:(s.toList == [48])=false:=by rw[htl];simpa using h2.2
  rw[e]
  clear htl e hlen hl2 h2
  go_enter Tryz.func196,Tryz.ntmps196
  go_wp2
  go_ret
  exact⟨rfl,rfl⟩
 have hall:isT s.data.toList=s.data.toList.all fun c=>decide (48≤c.toNat)&&decide (c.toNat≤57):=by
  unfold isT
  rw[hl2,decide_eq_true (show s.data.toList.length≤2000 by omega),getL hp]
  have:(decide (s[0]=48)&&decide (s.data.toList≠[48]))=false:=by
   rw[Bool.and_eq_false_iff]
   by_cases a:s[0]=48
   ·right
    rw[decide_eq_false_iff_not]
    intro b
    exact h2 ⟨a,b⟩
   ·left;exact decide_eq_false a
  rw[this]
  simp
 obtain⟨R,HR⟩:∃ R,Hid (isT s.data.toList=R):=⟨_,rfl⟩
 have HA:Hid (R=s.data.toList.all fun c=>decide (48≤c.toNat)&&decide (c.toNat≤57)):=by rw[←HR.out];exact hall
 have HL:=Lib.hid hlen
 rw[HR.out]
 have htest:(s[0].toNat:Int) == 48→(s.toList == [48])=true:=by
  intro a
  have a':s[0]=48:=by
   have h1:(s[0].toNat:Int)=48:=by simpa using a
   have this:s[0].toNat=(48:UInt8).toNat:=by
    have:(48:UInt8).toNat=48:=rfl
    omega
   exact UInt8.toNat_inj.1 this
  rw[htl]
  by_cases b:s.data.toList=[48]
  ·rw[b];rfl
  ·exact absurd ⟨a',b⟩ h2
 have main:∀ (_:True),Calls Tryz.prog 196 #[.string s] w fun e w'=>e=.returned (.bool R)∧w=w':=by
  intro _
  clear hall htl hl2 h2 hlen
  have hb2:decide ((2000:Int)<(s.size:Int))=false:=by simp;omega
  have hfalse:Hid (∀ k (h:k<s.size),(s[k].toNat<48∨57<s[k].toNat)→R=false):=by
   intro k hk hc
   rw[HA.out]
   cases h:s.data.toList.all fun c=>decide (48≤c.toNat)&&decide (c.toNat≤57) with
   |false=>rfl
   |true=>
    have:=allL.1 h k hk
    simp at this
    omega
  have htrue:Hid ((∀ k (h:k<s.size),48≤s[k].toNat∧s[k].toNat≤57)→R=true):=by
   intro hk
   rw[HA.out,allL]
   intro i hi
   have:=hk i hi
   simp;omega
  rcases(show(((s[0].toNat:Int) == 48)=true∧(s.toList == [48])=true)∨((s[0].toNat:Int) == 48)=false from by
   cases h:((s[0].toNat:Int) == 48) with
   |false=>exact .inr rfl
   |true=>exact .inl ⟨rfl,htest h⟩) with⟨h3,hq⟩|h3
  all_goals
   clear htest
   go_enter Tryz.func196,Tryz.ntmps196
   go_wp2_with fail
   go_loop [22] (fun iv=>∃ k:Nat,k≤s.size∧iv=.int .i64 k∧Hid (∀ j (h:j<s.size),j<k→48≤s[j].toNat∧s[j].toNat≤57)) (fun iv=>s.size-(intOf iv).toNat)
   case atStart=>exact⟨0,Nat.zero_le _,rfl,fun j h hj=>by omega⟩
   case round=>
    obtain⟨k,hk,rfl,HK⟩:=hrel
    by_cases hlt:k<s.size
    ·by_cases hc1:(s[k].toNat:Int)<48
     ·have hf:=Lib.hid (hfalse.out k hlt (by omega))
      go_wp2_with fail
      go_ret
      rw[hf.out]
      exact⟨rfl,rfl⟩
     ·by_cases hc2:57<(s[k].toNat:Int)
      ·have hf:=Lib.hid (hfalse.out k hlt (by omega))
       go_wp2_with fail
       go_ret
       rw[hf.out]
       exact⟨rfl,rfl⟩
      ·go_wp2_with fail
       go_round
       case rel=>exact⟨k+1,by omega,by go_num,fun j h hj=>by
        by_cases e:j=k
        ·subst e;omega
        ·exact HK.out j h (by omega)⟩
       case measure=>simp[intOf];omega
    ·have ht:=Lib.hid (htrue.out fun j h=>HK.out j h (by omega))
     go_wp2_with fail
     go_ret
     rw[ht.out]
     exact⟨rfl,rfl⟩
 exact main trivial
def Timesed (W:World) (g n k more:Nat) (L:List Nat) (e:Ending) (w':World):Prop:=
 ∃ (L':List Nat) (c:Nat),e=.returned (.tuple #[])∧Row w' g L'∧W.grownBy w' (some g)∧L'.length=n∧M.Fit L'∧M.val L'+M.BB^n*c=M.val L*k+more
theorem timesPlus_any (g n c k more:Nat) (L:List Nat) (w:World) (hrow:Row w g L) (hf:M.Fit L) (hn:L.length=n) (hc:n≤1000000) (hk:k≤1000000000) (hm:more≤k):
  Calls Tryz.prog 197 #[.slice (some ⟨g,0,none⟩) n c,.int .u64 k,.int .u64 more] w (Timesed w g n k more L):=by
 have HN:=Lib.hid hn
 clear hn
 go_enter Tryz.func197,Tryz.ntmps197
 go_wp2_with fail
 go_loopw [6,12] (fun cv iv wr=>∃ (i cy:Nat) (L':List Nat),i≤n∧cy≤1000000000∧iv=.int .i64 i∧cv=.int .u64 cy∧Row wr g L'∧T.Times L L' n i k more cy∧w.grownBy wr (some g)) (fun _ iv _=>n-(intOf iv).toNat)
 case atStart=>exact⟨0,more,L,by omega,by omega,rfl,rfl,hrow,T.Times.start HN.out hf hm,World.grownBy.refl _ _⟩
 case round=>
  obtain⟨i,cy,L',hi,hcy,rfl,rfl,hrow',ht,hgr⟩:=hrel
  by_cases hlt:i<n
  ·obtain⟨x,HX⟩:∃ x,Hid (x=L'.getD i 0):=⟨_,rfl⟩
   have hx:x≤4294967295:=by rw[HX.out];exact fit_of ht.fit i
   have hcell:wr.cell? ⟨g,i,none⟩=some (.int .u32 (x:Int)):=by rw[HX.out];exact hrow'.cell (by rw[ht.len];omega)
   have hfr:=hrow'.frozen i
   obtain⟨p,HP⟩:∃ p,Hid (x*k=p):=⟨_,rfl⟩
   have hp:p≤4294967295000000000:=by rw[←HP.out];have:=Nat.mul_le_mul hx hk;omega
   have hpe:(x:Int)*(k:Int)=(p:Int):=by rw[←HP.out];rfl
   have ht':=ht.step (t:=p+cy) hlt HX.out (by rw[HP.out])
   have hc2:=ht'.carry
   have HR:Hid (Row (wr.setCell ⟨g,i,none⟩ (.int .u32 (((p:Int)+cy) % 4294967296))) g (L'.set i ((p+cy) % M.BB))):=hrow'.set_' i _ (by rw[M.BB_eq];omega)
   have HG:Hid (w.grownBy (wr.setCell ⟨g,i,none⟩ (.int .u32 (((p:Int)+cy) % 4294967296))) (some g)):=only_setCell hgr (p:=⟨g,i,none⟩) (.inl rfl) _
   have hcr:Hid ((((p+cy)/M.BB:Nat):Int)=((p:Int)+cy)/4294967296):=by rw[M.BB_eq];exact(show _=_ from by omega)
   clear hrow' hgr ht
   go_wp2_with fail
   go_roundw
   case rel=>exact⟨i+1,_,_,by omega,by omega,by go_num,by rw[hcr.out],HR.out,ht',HG.out⟩
   case measure=>simp[intOf];omega
  ·obtain rfl:i=n:=by omega
   have he:=ht.end_ HN.out
   have HE:=Lib.hid he
   clear he
   go_wp2_with fail
   go_end0
   exact⟨L',cy,rfl,hrow',hgr,ht.len,ht.fit,HE.out⟩
end Go.Proofs.YtcgaeknikfaghaaGreatDoor
namespace Go.Proofs.YtcgaeknikfaghaaGreatDoor
open Go.RowKit
theorem parse_bad (s:ByteArray) (w:World) (hs:s.size≤maxLen) (h:isT s.data.toList=false):
  Calls Tryz.prog 167 #[.string s] w fun e w'=>e=.returned (.tuple #[.slice none 0 0,.int .i64 8])∧w=w':=by
 have HT:=Lib.hid (isText_any s w hs)
 rw[h] at HT
 go_enter Tryz.func167,Tryz.ntmps167
 go_wp2_with fail
 refine HT.out.mono ?_
 rintro e w1 ⟨rfl,rfl⟩
 go_wp2_with fail
 go_ret2
 exact⟨rfl,rfl⟩
end Go.Proofs.YtcgaeknikfaghaaGreatDoor
namespace Go.Proofs.YtcgaeknikfaghaaGreatDoor
open Go.RowKit
theorem isT_parts {l:List UInt8}:isT l=true↔l≠[]∧l.length≤2000∧(l=[48]∨l.getD 0 0≠48)∧T.AllD l:=by
 unfold isT T.AllD
 simp only[Bool.and_eq_true,Bool.not_eq_true',decide_eq_true_eq,List.all_eq_true,Bool.and_eq_false_iff,decide_eq_false_iff_not,List.isEmpty_eq_false_iff]
 constructor
 ·rintro⟨⟨⟨h1,h2⟩,h3⟩,h4⟩
  refine⟨h1,h2,?_,h4⟩
  rcases h3 with h3|h3
  ·exact .inr h3
  ·exact .inl (Decidable.not_not.1 h3)
 ·rintro⟨h1,h2,h3,h4⟩
  refine⟨⟨⟨h1,h2⟩,?_⟩,h4⟩
  rcases h3 with h3|h3
  ·exact .inr (fun h=>h h3)
  ·exact .inl h3
def Parsed (W:World) (N:Nat) (e:Ending) (w':World):Prop:=∃ v,e=.returned (.tuple #[v,.int .i64 0])∧Num w' v N∧Below W.heap.size W w'
theorem parse_good (s:ByteArray) (w:World) (hs:s.size≤maxLen) (h:isT s.data.toList=true):
  Calls Tryz.prog 167 #[.string s] w (Parsed w (T.dv s.data.toList)):=by
 obtain⟨h1,h2,_,hall⟩:=isT_parts.1 h
 have hlen:=lenL s
 rw[hlen] at h2
 have hpos:0<s.size:=by
  rcases Nat.eq_zero_or_pos s.size with e|e
  ·rw[e] at hlen;exact absurd (List.eq_nil_of_length_eq_zero hlen) h1
  ·exact e
 have HT:=Lib.hid (isText_any s w hs)
 rw[h] at HT
 have HD:Hid (∀ i (hi:i<s.size),48≤s[i].toNat∧s[i].toNat≤57):=fun i hi=>by
  rw[←getL hi]
  refine hall _ ?_
  rw[List.getD_eq_getElem?_getD,List.getElem?_eq_getElem (by rw[hlen];exact hi)]
  exact List.getElem_mem _
 obtain⟨S,HS⟩:∃ S,Hid (s.data.toList=S):=⟨_,rfl⟩
 have HG:Hid (∀ i (hi:i<s.size),S.getD i 0=s[i]):=fun i hi=>by rw[←HS.out];exact getL hi
 have HL:Hid (S.length=s.size):=by rw[←HS.out];exact hlen
 have HA:Hid (T.AllD S):=by rw[←HS.out];exact hall
 rw[HS.out]
 clear hall h1 h hlen
 obtain⟨m,Hm⟩:∃ m,Hid (s.size/9+1=m):=⟨_,rfl⟩
 have hm:m≤300:=by have:=Hm.out;omega
 have hdm:(s.size:Int)/9+1=(m:Int):=by have:=Hm.out;omega
 have hmk:=make_any m (by omega)
 go_enter Tryz.func167,Tryz.ntmps167
 go_wp2_with fail
 refine HT.out.mono ?_
 rintro e w1 ⟨rfl,rfl⟩
 go_wp2_with fail
 have hrow:=Row.zeros_ w m
 have hb0:Below w.heap.size w (w.alloc (.cells (zeros m) 173)):=(Below.refl _ _).alloc (Nat.le_refl _) _
 go_loopw [5,6,18] (fun sv cv iv wr=>∃ (i sc ch:Nat) (L:List Nat),i≤s.size∧sc≤100000000∧ch≤100000000∧iv=.int .i64 i∧sv=.int .u64 sc∧cv=.int .u64 ch∧Row wr w.heap.size L∧T.Parsing S L m i sc ch∧(i=s.size→sc=1∧ch=0)∧Below w.heap.size w wr) (fun _ _ iv _=>s.size-(intOf iv).toNat)
 case atStart=>exact⟨0,1,0,_,by omega,by omega,by omega,rfl,rfl,rfl,hrow,T.Parsing.start S m,fun _=>⟨rfl,rfl⟩,hb0⟩
 case round=>
  obtain⟨i,sc,ch,L,hi,hsc,hch,rfl,rfl,rfl,hrow,hp,hend,hbel⟩:=hrel
  have HE:=Lib.hid hend
  clear hend
  by_cases hlt:i<s.size
  ·obtain⟨d,Hd⟩:∃ d,Hid (s[i].toNat-48=d):=⟨s[i].toNat-48,rfl⟩
   have hc:=HD.out i hlt
   have hd9:d≤9:=by have:=Hd.out;omega
   have HD2:Hid (d=(S.getD i 0).toNat-48):=by rw[HG.out i hlt];exact Hd.out.symm
   have hde:(s[i].toNat:Int)-48=(d:Int):=by have:=Hd.out;omega
   obtain⟨hs1,hs2⟩:=hp.small
   have hchl:=hp.lt
   obtain⟨k,hk⟩:∃ k,Hid (sc*10=k):=⟨_,rfl⟩
   obtain⟨mo,hmo⟩:∃ mo,Hid (ch*10+d=mo):=⟨_,rfl⟩
   have hke:(sc:Int)*10=(k:Int):=by have:=hk.out;omega
   have hmoe:(ch:Int)*10+(d:Int)=(mo:Int):=by have:=hmo.out;omega
   have hk9:k≤1000000000:=by have:=hk.out;omega
   have hmk':mo≤k:=by have:=hk.out;have:=hmo.out;omega
   have hflush:Hid (∀ (L':List Nat) (c:Nat),L'.length=m→M.Fit L'→M.val L'+M.BB^m*c=M.val L*k+mo→T.Parsing S L' m (i+1) 1 0):=by
    intro L' c q1 q2 q3
    rw[←hk.out,←hmo.out] at q3
    exact hp.flush (by rw[HL.out];exact hlt) HD2.out hd9 HA.out (by rw[HL.out];exact Hm.out.symm) q1 q2 q3
   have HTP:=Lib.hid (timesPlus_any w.heap.size m m k mo L wr hrow hp.fit hp.len (by omega) hk9 hmk')
   by_cases hA:sc=100000000∨i+1=s.size
   ·rcases(show((k:Int) == 1000000000)=true∨((k:Int) == 1000000000)=false∧((i:Int) == (s.size:Int)-1)=true from by
     have:=hk.out
     rcases hs2 with e|e
     ·left;simp;omega
     ·right;constructor
      ·simp;omega
      ·rcases hA with e2|e2
       ·omega
       ·simp;omega) with hb1|⟨hb1,hb2⟩
    all_goals
     clear hA hs2
     go_wp2_with fail
     refine HTP.out.mono ?_
     rintro e w2 ⟨L',c,rfl,r2,g2,l2,f2,v2⟩
     have hp2:=hflush.out L' c l2 f2 v2
     have hbel2:=hbel.grown g2 hbel.size (by intro q hq;injection hq with hq;omega)
     clear v2 l2 g2
     go_wp2_with fail
     go_roundw
     case rel=>exact⟨i+1,1,0,L',by omega,by omega,by omega,by go_num,rfl,rfl,r2,hp2,fun _=>⟨rfl,rfl⟩,hbel2⟩
     case measure=>simp[intOf];omega
   ·have hs3:sc≤10000000:=by omega
    have hb1:((k:Int) == 1000000000)=false:=by have:=hk.out;simp;omega
    have hb2:((i:Int) == (s.size:Int)-1)=false:=by simp;omega
    have hp2:=hp.keep (by rw[HL.out];exact hlt) HD2.out hd9 hs3
    rw[hk.out,hmo.out] at hp2
    have hi2:¬i+1=s.size:=fun e=>hA (.inr e)
    have HI2:=Lib.hid hi2
    have hk8:k≤100000000:=by have:=hk.out;omega
    clear hA hs2 hi2
    go_wp2_with fail
    go_roundw
    case rel=>exact⟨i+1,k,mo,L,by omega,by omega,by omega,by go_num,rfl,rfl,hrow,hp2,fun e=>absurd e HI2.out,hbel⟩
    case measure=>simp[intOf];omega
  ·obtain rfl:i=s.size:=by omega
   obtain⟨rfl,rfl⟩:=HE.out rfl
   have hv:Hid (M.val L=T.dv S):=by
    have:=hp.sum
    rw[Nat.mul_one,Nat.add_zero,List.take_of_length_le (by rw[HL.out];exact Nat.le_refl _)] at this
    exact this
   have hlm:=hp.len
   have HT2:=Lib.hid (trim_any (some ⟨w.heap.size,0,none⟩) m m L wr (hrow.lims hp.fit hlm) (Nat.le_refl _) (by unfold maxLen;omega))
   clear hlm
   go_wp2_with fail
   refine HT2.out.mono ?_
   rintro e w2 hT
   obtain⟨A3,n3,c3,rfl,t1,t2,t3,t4,t5,t6,rfl⟩:=hT
   have T2:=Lib.hid t2
   have T3:=Lib.hid (t3.trans hv.out)
   clear t2 t3
   go_wp2_with fail
   go_ret2
   exact⟨_,rfl,⟨A3,n3,c3,_,rfl,t1,T2.out,T3.out,t5,by unfold maxLen;omega⟩,hbel⟩
end Go.Proofs.YtcgaeknikfaghaaGreatDoor
namespace Go.Proofs.YtcgaeknikfaghaaGreatDoor
open Go.RowKit
end Go.Proofs.YtcgaeknikfaghaaGreatDoor
namespace Go.Proofs.YtcgaeknikfaghaaGreatDoor
open Go.RowKit
def OwnU (w:World) (B:Nat) (v:Value) (l:List Nat):Prop:=w.ownsRow B 173 1 v l.length (cellsOf l)
theorem OwnU.lims {w:World} {B:Nat} {v:Value} {l:List Nat} (h:OwnU w B v l) (hf:M.Fit l):∃ A c,v=.slice A l.length c∧Lims w A l.length l∧l.length≤c∧c≤maxLen:=by
 obtain⟨h1,⟨rfl,h2⟩|⟨g,cap,cur,rfl,hb,hh,hc,hm,hs,ht⟩⟩:=h
 ·exact⟨none,0,by rw[h2],⟨rfl,hf,fun h=>by omega⟩,by omega,by omega⟩
 ·have hlt:g<w.heap.size:=by
   rcases Nat.lt_or_ge g w.heap.size with h|h
   ·exact h
   ·rw[Array.getElem?_eq_none h] at hh;cases hh
  refine⟨_,cap,rfl,⟨rfl,hf,fun _=>⟨g,0,rfl,hlt,fun j hj=>?_⟩⟩,hc,hm⟩
  rw[Nat.zero_add,cell_of_row w g j cur _ (0,0) hh]
  have:=congrArg (·[j]?) ht
  simp only[Nat.mul_one] at this
  rw[cellsOf_get hj,List.getElem?_take,if_pos hj] at this
  simpa using this
end Go.Proofs.YtcgaeknikfaghaaGreatDoor
namespace Go.Proofs.YtcgaeknikfaghaaGreatDoor
open Go.RowKit
end Go.Proofs.YtcgaeknikfaghaaGreatDoor
namespace Go.Proofs.YtcgaeknikfaghaaGreatDoor
open Go.RowKit
end Go.Proofs.YtcgaeknikfaghaaGreatDoor
namespace Go.Proofs.YtcgaeknikfaghaaGreatDoor
open Go.RowKit
def In (w:World) (A:Option Addr) (n c N:Nat):Prop:=∃ l,Lims w A n l∧M.val l=N∧n≤c∧c≤maxLen∧n≤1000000
theorem In.below {w w':World} {A:Option Addr} {n c N:Nat} (h:In w A n c N) (hb:Below w.heap.size w w'):In w' A n c N:=by
 obtain⟨l,h1,h2⟩:=h
 exact⟨l,h1.below hb,h2⟩
theorem cmp_num {w:World} {A B:Option Addr} {n m c d N K:Nat} (h:In w A n c N) (k:In w B m d K):Calls Tryz.prog 233 #[.slice A n c,.slice B m d] w fun e w'=>e=.returned (.int .i64 (M.cmpI N K))∧Below w.heap.size w w':=by
 obtain⟨l,h1,rfl,h3,h4,h5⟩:=h
 obtain⟨l',k1,rfl,k3,k4,k5⟩:=k
 exact(cmp_any _ _ _ _ _ _ _ _ _ h1 k1 h3 k3 h4 k4).mono fun _ _ ⟨q1,j,q2⟩=>⟨q1,by rw[q2];exact below_drewN (Below.refl _ _) j⟩
end Go.Proofs.YtcgaeknikfaghaaGreatDoor
namespace Go.Proofs.YtcgaeknikfaghaaGreatDoor
open Go.RowKit
end Go.Proofs.YtcgaeknikfaghaaGreatDoor
namespace Go.Proofs.YtcgaeknikfaghaaGreatDoor
open Go.RowKit
end Go.Proofs.YtcgaeknikfaghaaGreatDoor
namespace Go.Proofs.YtcgaeknikfaghaaGreatDoor
open Go.RowKit
end Go.Proofs.YtcgaeknikfaghaaGreatDoor
namespace Go.Proofs.YtcgaeknikfaghaaGreatDoor
open Go.RowKit
end Go.Proofs.YtcgaeknikfaghaaGreatDoor
