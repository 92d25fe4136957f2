import Derived.Test.YtdbgiijdgedggaaGreatDoorQM05
import Derived.Laws.AppendOwnNone
import Derived.Deep.RegionWith
import Derived.OpenShut
set_option linter.unusedSimpArgs false
set_option linter.unusedVariables false
set_option maxRecDepth 100000
set_option maxHeartbeats 25600000
namespace Go.Proofs.YtdbgiijdgedggaaGreatDoor
open Go.RowKit
def dE (l:List Bool):List Value:=l.map Value.bool
theorem iy (l:List Bool):(dE l).length=l.length:=by simp[dE]
theorem lC {l:List Bool} {j:Nat} (h:j<l.length):(dE l)[j]?=some (.bool (l.getD j false)):=by
 simp[dE,G3,h]
theorem rQ {l:List Bool}:∀ v∈dE l,v.oneCell'=true:=by
 intro v hv
 obtain⟨x,_,rfl⟩:=Hh.1 hv
 rfl
theorem Tryz.uO:(Tryz.prog.info? 4).map (fun i=>(i.zero,i.size,i.bytes))=some (some (.bool false),1,1):=by kernel_rfl
def jZ (w:World) (A:Option Addr) (n c:Nat) (l:List Bool):Prop:=
 l.length=n/\n<=c/\c<=maxLen/\((A=none/\n=0/\c=0)\/∃ b off,A=some ⟨b,off,none⟩/\b<w.heap.size/\∀ j,j<n->w.cell? ⟨b,off+j,none⟩=some (.bool (l.getD j false)))
theorem jZ.below {w w':World} {A:Option Addr} {n c:Nat} {l:List Bool} (h:jZ w A n c l) (hb:Below w.heap.size w w'):jZ w' A n c l:=by
 obtain⟨J,L,O,r⟩:=h
 refine⟨J,L,O,?_⟩
 rcases r with r|⟨b,off,e,I,Q⟩
 ·exact .inl r
 ·exact .inr ⟨b,off,e,Fp I hb.size,fun j U=>(hb.cell I).trans (Q j U)⟩
theorem jZ.take {w:World} {A:Option Addr} {n c:Nat} {l:List Bool} (h:jZ w A n c l) {k:Nat} (V:k<=n):jZ w A k c (l.take k):=by
 obtain⟨Q,U,L,r⟩:=h
 refine⟨by rw[FK];omega,by omega,L,?_⟩
 rcases r with⟨r,J,I⟩|⟨b,off,e,J,I⟩
 ·exact .inl ⟨r,by omega,I⟩
 ·refine .inr ⟨b,off,e,J,fun j O=>(I j (by omega)).trans ?_⟩
  congr 2
  simp[G3,O]
theorem jZ.at_ {w:World} {A:Option Addr} {n c:Nat} {l:List Bool} (h:jZ w A n c l) (hn:0<n):
  ∃ b off,A=some ⟨b,off,none⟩/\b<w.heap.size/\∀ j,j<n->∃ x:Bool,Hid (x=l.getD j false)/\w.cell? ⟨b,off+j,none⟩=some (.bool x):=by
 obtain⟨_,_,_,I⟩:=h
 rcases I with⟨_,r,_⟩|⟨b,off,e,r,J⟩
 ·omega
 ·exact⟨b,off,e,r,fun j L=>⟨_,rfl,J j L⟩⟩
def dq (w:World) (B:Nat) (v:Value) (l:List Bool):Prop:=w.ownsRow B 4 1 v l.length (dE l)
theorem dq.dI (w:World) (B:Nat):dq w B (.slice none 0 0) []:=Gg w B _ _
theorem dq.vV {w:World} {B:Nat} {v:Value} {l:List Bool} (h:dq w B v l):∃ A c,v=.slice A l.length c/\jZ w A l.length c l:=by
 obtain⟨O,⟨rfl,J⟩|⟨g,cap,cur,rfl,hb,r,hc,hm,hs,ht⟩⟩:=h
 ·exact⟨none,0,by rw[J],rfl,by omega,by omega,.inl ⟨rfl,J,rfl⟩⟩
 ·have I:g<w.heap.size:=by
   rcases GX g w.heap.size with h|h
   ·exact h
   ·rw[Array.getElem?_eq_none h] at r;cases r
  refine⟨_,cap,rfl,rfl,hc,hm,.inr ⟨g,0,rfl,I,fun j L=>?_⟩⟩
  rw[FA,cell_of_row w g j cur _ (0,0) r]
  have:=G1 (·[j]?) ht
  simp only[Hp] at this
  rw[lC L,GQ,Fx L] at this
  simpa using this
theorem dq.gl {w:World} {B:Nat} {v:Value} {l:List Bool} (h:dq w B v l) {b:Nat} (hb:b<=B):∀ k,v.ownBlock=some k->b<=k:=fun k e=>by
 have:=(Gh h k e).1
 omega
theorem dq.alloc {w:World} {B:Nat} {v:Value} {l:List Bool} (h:dq w B v l) (o:Obj):dq (w.alloc o) B v l:=Gk h o
theorem dq.lit (w:World) {B:Nat} (b:Bool) (h:B<=w.heap.size):dq (w.alloc (.cells #[.bool b] 4)) B (.slice (some ⟨w.heap.size,0,none⟩) 1 1) [b]:=
 World.ownsRow_lit w #[.bool b] 1 h (by unfold maxLen;omega) rfl
theorem gR {w:World} {ops:Array Oper} {rest:List Oper} {o:Oper} {a:Act} {Q:Exit->Act->World->Prop} (J:o.guard=none) (s x:Operand)
  (X:o.op=.call { callee:=.builtin .append,args:=#[s,x],argTypes:=#[125,125] })
  {B m c N:Nat} {A:Option Addr} {v:Value} {l k:List Bool} (hs:a.eval s=v) (r:dq w B v l) (Z:a.eval x=.slice A m c) (hk:jZ w A m c k)
  (hn:l.length+m<=N) (hN:N<=1000000000) (hB:B<=w.heap.size)
  (h:∀ v' w',dq w' B v' (l++k)->w.grownBy w' v.ownBlock->wpList Tryz.prog ops Q rest (a.put o.dst v') w'):
  wpList Tryz.prog ops Q (o::rest) a w:=by
 obtain⟨i0,L,O,U,V⟩:=Gj Tryz.uO
 obtain⟨I,h2,h3,h4⟩:=hk
 rcases h4 with⟨rfl,rfl,rfl⟩|⟨b,off,rfl,h5,h6⟩
 ·obtain rfl:k=[]:=FV I
  refine Hv J s x 125 X B 4 i0 1 Tryz.underlying125 L v l.length (dE l) hs r Z ?_
  exact h v w (by rw[GH];exact r) (World.grownBy.refl _ _)
 ·refine wpList_append_own w J s x 125 X B 4 i0 (.bool false) 1 1 Tryz.underlying125 L O U V rfl (by omega) v l.length (dE l) hs r ⟨b,off,none⟩ m c (dE k) Z (by rw[iy,I,Hp]) ?_ rQ (by unfold maxLen;omega) (by omega) hB ?_
  ·intro j u hu
   have hj:j<k.length:=by
    rcases GX j k.length with I|I
    ·exact I
    ·rw[GB (by rw[iy];exact I)] at hu;cases hu
   rw[lC hj] at hu
   injection hu with hu
   subst hu
   have:=h6 j (by omega)
   unfold Addr.add
   split <;> simp_all
  ·intro v' w' g1 g2 _
   refine h v' w' ?_ g2
   have e:dE l++dE k=dE (l++k):=by simp[dE]
   rw[e] at g1
   unfold dq
   rw[Gb,I]
   exact g1
def AD (w:World) (v:Value) (N:Nat):Prop:=∃ A n c l,v=.slice A n c/\jZ w A n c l/\Bt.cS l/\Bt.val l=N
def fQ (W:World) (N:Nat) (e:Ending) (w':World):Prop:=∃ v,e=.returned v/\AD w' v N/\Below W.heap.size W w'
theorem gW (A:Option Addr) (n c:Nat) (l:List Bool) (w:World) (h:jZ w A n c l) (hs:n<=100000000):
  Calls Tryz.prog 169 #[.slice A n c] w (fQ w (Bt.val l)):=by
 have hc:c<=9223372036854775807:=h.2.2.1
 have hn:=h.2.1
 go_enter Tryz.func169,Tryz.ntmps169
 go_wp2_with fail
 go_loop [3] (fun t=>∃ k:Nat,k<=n/\t=.int .i64 k/\Hid (∀ j,k<=j->l.getD j false=false)) (fun t=>(intOf t).toNat)
 case atStart=>exact⟨n,Fm _,rfl,fun j hj=>Bt.aM (by rw[h.1];exact hj)⟩
 case round=>
  obtain⟨k,hk,rfl,HZ⟩:=hrel
  by_cases I:0<k/\l.getD (k-1) false=false
  ·obtain⟨X,r⟩:=I
   obtain⟨b,off,rfl,hb,hcs⟩:=h.at_ (by omega)
   obtain⟨x,Q,hcell⟩:=hcs (k-1) (by omega)
   rw[r] at Q
   have Z:=Gn r
   obtain rfl:x=false:=Q.out
   clear hcs r
   go_wp2_with fail
   go_round
   case rel=>exact⟨k-1,by omega,by go_num,fun j hj=>by
    by_cases e:j=k-1
    ·subst e;exact Z.out
    ·exact HZ.out j (by omega)⟩
   case measure=>simp[intOf];omega
  ·have V:Hid (Bt.cS (l.take k)):=Bt.xv l k (by rw[h.1];exact hk) fun X=>by
    cases e:l.getD (k-1) false with
    |true=>rfl
    |false=>exact absurd ⟨X,e⟩ I
   have hval:Hid (Bt.val (l.take k)=Bt.val l):=Bt.cn l k HZ.out
   have L:∀ v w',dq w' w.heap.size v (([]:List Bool)++l.take k)->w.grownBy w' (Value.slice none 0 0).ownBlock->fQ w (Bt.val l) (.returned v) w':=by
    intro v w' O U
    rw[FY] at O
    obtain⟨A',c',rfl,hb⟩:=O.vV
    exact⟨_,rfl,⟨A',_,c',_,rfl,hb,V.out,hval.out⟩,(Gp _ _).grown U (Fm _) (by intro q hq;cases hq)⟩
   have HF:=Gn L
   clear L
   have J:Hid (jZ w A k c (l.take k)):=h.take hk
   by_cases X:0<k
   ·have r:l.getD (k-1) false=true:=by
     cases e:l.getD (k-1) false with
     |true=>rfl
     |false=>exact absurd ⟨X,e⟩ I
    obtain⟨b,off,rfl,hb,hcs⟩:=h.at_ (by omega)
    obtain⟨x,Q,hcell⟩:=hcs (k-1) (by omega)
    rw[r] at Q
    obtain rfl:x=true:=Q.out
    clear hcs r I
    go_wp2_with (refine gR rfl (.const (.slice none 0 0)) (.tmp 20) rfl (N:=n) rfl (dq.dI _ _) rfl J.out (by simp;omega) (by omega) (Fm _) ?_;intro v w2 O U)
    go_ret
    exact HF.out _ _ O U
   ·obtain rfl:k=0:=by omega
    clear I
    go_wp2_with (refine gR rfl (.const (.slice none 0 0)) (.tmp 20) rfl (N:=n) rfl (dq.dI _ _) rfl J.out (by simp) (by omega) (Fm _) ?_;intro v w2 O U)
    go_ret
    exact HF.out _ _ O U
theorem jr (A:Option Addr) (n c:Nat) (l:List Nat) (w:World) (h:aQ w A n l) (hs:n<=1000000):
  Calls Tryz.prog 119 #[.slice A n c] w (fQ w (M.val l)):=by
 have hN:Hid (M.val l=M.val (l.take n)):=by rw[Gr (by rw[h.1];exact Fm _)];exact rfl
 go_enter Tryz.func119,Tryz.ntmps119
 go_wp2_with fail
 go_loopw [3,4] (fun dv iv wr=>∃ (i:Nat) (ds:List Bool),i<=n/\iv=.int .i64 i/\Bt.fK l ds i/\dq wr w.heap.size dv ds/\Below w.heap.size w wr) (fun _ iv _=>n-(intOf iv).toNat)
 case atStart=>exact⟨0,[],by omega,rfl,Bt.fK.start l,dq.dI _ _,Gp _ _⟩
 case round=>
  obtain⟨i,ds,hi,rfl,X,Q,J⟩:=hrel
  have av:=X.len
  have ad:=Gn av
  clear av
  by_cases bp:i<n
  ·obtain⟨b,off,rfl,hb,hcs⟩:=h.at_ (by omega)
   obtain⟨x,HX,hx,hcell⟩:=hcs i bp
   have a7:wr.cell? ⟨b,off+i,none⟩=some (.int .u32 (x:Int)):=(J.cell hb).trans hcell
   clear hcs hcell
   obtain⟨wo,rfl⟩:∃ wo:World,wo=wr:=⟨_,rfl⟩
   go_wp2_with fail
   go_loopw [3,5,6] (fun dv cv jv wi=>∃ (j L:Nat) (es:List Bool),j<=32/\L<=4294967295/\jv=.int .i64 j/\cv=.int .u32 L/\Bt.Chunk ds es x j L/\dq wi w.heap.size dv es/\Below w.heap.size w wi) (fun _ _ jv _=>32-(intOf jv).toNat)
   case atStart=>exact⟨0,x,ds,by omega,hx,rfl,rfl,Bt.Chunk.start (by omega),Q,J⟩
   case round=>
    obtain⟨j,L,es,hj,bC,rfl,rfl,Z,I,r⟩:=hrel
    have bn:=Z.len
    have bz:es.length<=33000000:=by have:=ad.out;omega
    clear bn
    by_cases a1:j<32
    ·have O:=Z.step a1
     obtain⟨U,HB⟩:∃ U,Hid (decide (L % 2=1)=U):=⟨_,rfl⟩
     rw[HB.out] at O
     have bB:((L:Int) % 2 == 1)=U:=by
      rw[<-HB.out]
      cases e:decide (L % 2=1) with
      |true=>have:=FX e;simp;omega
      |false=>have:=of_decide_eq_false e;simp;omega
     have ah:=fun W:World=>(dq.lit W (B:=W.heap.size) U (Fm _)).vV
     have ba:Hid (∀ W:World,jZ (W.alloc (.cells #[.bool U] 4)) (some ⟨W.heap.size,0,none⟩) 1 1 [U]):=fun W=>by
      obtain⟨A',c',e,h⟩:=ah W
      injection e with e1 _ e2
      subst e1 e2
      exact h
     clear ah
     go_wp2_with (refine gR rfl (.tmp 21) (.tmp 25) rfl (N:=33000001) rfl (I.alloc _) rfl (ba.out _) (by omega) (by omega) (by simp;have:=r.size;omega) ?_;intro v4 w4 bx bo)
     have V:=(r.alloc r.size (.cells #[.bool U] 4)).grown bo (by simp;have:=r.size;omega) (I.gl (Fm _))
     go_roundw
     case rel=>exact⟨j+1,L/2,_,by omega,by omega,by go_num,by go_num,O,bx,V⟩
     case measure=>simp[intOf];omega
    ·obtain rfl:j=32:=by omega
     have ao:=X.step HX.out Z
     go_wp2_with fail
     go_roundw
     case rel=>exact⟨i+1,es,by omega,by go_num,ao,I,r⟩
     case measure=>simp[intOf];omega
  ·obtain rfl:i=n:=by omega
   obtain⟨A',c',rfl,hb⟩:=Q.vV
   have hd:ds.length<=100000000:=by have:=ad.out;omega
   have HS:=Gn (X.sum.trans hN.out.symm)
   go_wp2_with fail
   refine(gW _ _ _ _ _ hb hd).mono ?_
   rintro e w2 ⟨v,rfl,hv,bl⟩
   rw[HS.out] at hv
   go_wp2_with fail
   go_ret
   exact⟨v,rfl,hv,J.trans (bl.mono J.size)⟩
def iq (w:World) (B:Nat) (v:Value) (l:List Nat):Prop:=w.ownsRow B 206 1 v l.length (cellsOf l)
theorem iq.dI (w:World) (B:Nat):iq w B (.slice none 0 0) []:=Gg w B _ _
theorem iq.mf {w:World} {B:Nat} {v:Value} {l:List Nat} (h:iq w B v l) (hf:M.Fit l):∃ A c,v=.slice A l.length c/\aQ w A l.length l/\l.length<=c/\c<=maxLen:=by
 obtain⟨O,⟨rfl,L⟩|⟨g,cap,cur,rfl,hb,r,hc,hm,hs,ht⟩⟩:=h
 ·exact⟨none,0,by rw[L],⟨rfl,hf,fun h=>by omega⟩,by omega,by omega⟩
 ·have I:g<w.heap.size:=by
   rcases GX g w.heap.size with h|h
   ·exact h
   ·rw[Array.getElem?_eq_none h] at r;cases r
  refine⟨_,cap,rfl,⟨rfl,hf,fun _=>⟨g,0,rfl,I,fun j J=>?_⟩⟩,hc,hm⟩
  rw[FA,cell_of_row w g j cur _ (0,0) r]
  have:=G1 (·[j]?) ht
  simp only[Hp] at this
  rw[dT J,GQ,Fx J] at this
  simpa using this
theorem iq.gl {w:World} {B:Nat} {v:Value} {l:List Nat} (h:iq w B v l) {b:Nat} (hb:b<=B):∀ k,v.ownBlock=some k->b<=k:=fun k e=>by
 have:=(Gh h k e).1
 omega
theorem iq.alloc {w:World} {B:Nat} {v:Value} {l:List Nat} (h:iq w B v l) (o:Obj):iq (w.alloc o) B v l:=Gk h o
theorem AK {w:World} {ops:Array Oper} {rest:List Oper} {o:Oper} {a:Act} {Q:Exit->Act->World->Prop} (J:o.guard=none) (s x:Operand)
  (ho:o.op=.call { callee:=.builtin .append,args:=#[s,x],argTypes:=#[45,45] })
  {B m c N:Nat} {A:Addr} {v:Value} {l k:List Nat} (hs:a.eval s=v) (I:iq w B v l) (hx:a.eval x=.slice (some A) m c) (hk:aQ w (some A) m k)
  (hn:l.length+m<=N) (hN:N<=1000000000) (hB:B<=w.heap.size)
  (h:∀ v' w',iq w' B v' (l++k)->w.grownBy w' v.ownBlock->wpList Tryz.prog ops Q rest (a.put o.dst v') w'):
  wpList Tryz.prog ops Q (o::rest) a w:=by
 obtain⟨i0,L,O,U,V⟩:=Gj Tryz.qI
 obtain⟨r,h2,X⟩:=hk
 refine wpList_append_own w J s x 45 ho B 206 i0 (.int .u32 0) 1 4 Tryz.underlying45 L O U V rfl (by omega) v l.length (cellsOf l) hs I A m c (cellsOf k) hx (by rw[aP,r,Hp]) ?_ gG (by unfold maxLen;omega) (by omega) hB ?_
 ·intro j u hu
  have hj:j<k.length:=by
   rcases GX j k.length with r|r
   ·exact r
   ·rw[GB (by rw[aP];exact r)] at hu;cases hu
  rw[dT hj] at hu
  injection hu with hu
  subst hu
  obtain⟨b,off,e,_,Z⟩:=X (by omega)
  injection e with e
  subst e
  have:=Z j (by omega)
  unfold Addr.add
  split <;> simp_all
 ·intro v' w' g1 g2 _
  refine h v' w' ?_ g2
  have e:cellsOf l++cellsOf k=cellsOf (l++k):=by simp[cellsOf]
  rw[e] at g1
  unfold iq
  rw[Gb,r]
  exact g1
def sx (W:World) (N:Nat) (e:Ending) (w':World):Prop:=∃ v,e=.returned v/\Num w' v N/\Below W.heap.size W w'/\∀ q,v.ownBlock=some q->W.heap.size<=q
theorem mX (A:Option Addr) (n c:Nat) (l:List Bool) (w:World) (h:jZ w A n c l) (hs:n<=30000000):
  Calls Tryz.prog 118 #[.slice A n c] w (sx w (Bt.val l)):=by
 obtain⟨V,HV⟩:∃ V,Hid (Bt.val l=V):=⟨_,rfl⟩
 have bL:Hid (V<2^n):=by rw[<-HV.out];have:=Bt.bm l;rw[h.1] at this;exact this
 rw[HV.out]
 have HT:=Gn (gW A n c l w h (by omega))
 rw[HV.out] at HT
 go_enter Tryz.func118,Tryz.ntmps118
 go_wp2_with fail
 refine HT.out.mono ?_
 rintro e w1 ⟨v1,rfl,⟨A',n',c',bs,rfl,X,Z,hval⟩,ah⟩
 have cb:n'<=30000000:=by
  have:=Bt.ep (k:=n) Z (by rw[hval];exact bL.out)
  rw[X.1] at this
  omega
 have a1:=Gn Z
 have a7:=Gn hval
 clear Z hval
 go_wp2_with fail
 go_loopw [3,4] (fun dv iv wr=>∃ (t:Nat) (out:List Nat),iv=.int .i64 ((32*t:Nat):Int)/\(t=0\/32*(t-1)<n')/\Bt.dZ bs out t/\iq wr w1.heap.size dv out/\Below w.heap.size w wr/\Below w1.heap.size w1 wr)
  (fun _ iv _=>n'+32-(intOf iv).toNat)
 case atStart=>exact⟨0,[],rfl,.inl rfl,Bt.dZ.start bs,iq.dI _ _,ah,Gp _ _⟩
 case round=>
  obtain⟨t,out,rfl,ht,U,J,Q,I⟩:=hrel
  have bo:=U.len
  have bC:=Gn bo
  clear bo
  have cf:t<=1000000:=by omega
  obtain⟨i,HI⟩:∃ i,Hid (32*t=i):=⟨_,rfl⟩
  rw[HI.out]
  have hi:i<=32000000:=by have:=HI.out;omega
  by_cases ca:i<n'
  ·obtain⟨wo,rfl⟩:∃ wo:World,wo=wr:=⟨_,rfl⟩
   go_wp2_with fail
   go_loop [5,6] (fun nv kv=>∃ r O:Nat,r<=32/\O<=4294967295/\kv=.int .i64 ((i:Int)+r-1)/\nv=.int .u32 O/\Hid (O=Bt.val ((bs.drop (i+r)).take (32-r)))) (fun _ kv=>(intOf kv-i+1).toNat)
   case atStart=>exact⟨32,0,by omega,by omega,by go_num,rfl,rfl⟩
   case round=>
    obtain⟨r,O,hr,b4,rfl,rfl,HN⟩:=hrel
    by_cases cc:0<r
    ·obtain⟨k,hk⟩:∃ k:Nat,Hid (i+r-1=k):=⟨_,rfl⟩
     have he:(i:Int)+(r:Int)-1=(k:Int):=by have:=hk.out;omega
     have b8:i<=k:=by have:=hk.out;omega
     have b9:k<=40000000:=by have:=hk.out;omega
     have b7:O<=2147483647:=by
      have h1:=Bt.jn bs (i+r) (32-r)
      rw[<-HN.out] at h1
      have h2:2^(32-r)<=2^31:=Gy (by omega) (by omega)
      omega
     obtain⟨bb,HB⟩:∃ bb,Hid (bs.getD k false=bb):=⟨_,rfl⟩
     have L:Hid (bb.toNat+2*O=Bt.val ((bs.drop (i+(r-1))).take (32-(r-1)))):=by
      have h1:=Bt.mV bs k (32-r)
      have e1:k+1=i+r:=by have:=hk.out;omega
      have e2:i+(r-1)=k:=by have:=hk.out;omega
      rw[e1,<-HN.out,HB.out] at h1
      rw[e2,show 32-(r-1)=32-r+1 from by omega,h1]
      exact rfl
     by_cases b1:k<n'
     ·obtain⟨b,off,rfl,hb,hcs⟩:=(X.below I).at_ (by omega)
      obtain⟨x,HX,hcell⟩:=hcs k b1
      rw[HB.out] at HX
      obtain rfl:x=bb:=HX.out
      clear hcs
      cases x
      ·go_wp2_with fail
       go_round
       case rel=>exact⟨r-1,2*O,by omega,by omega,by go_num,by go_num,(show _=_ from by simpa using L.out)⟩
       case measure=>simp[intOf];omega
      ·go_wp2_with fail
       go_round
       case rel=>exact⟨r-1,1+2*O,by omega,by omega,by go_num,by go_num,(show _=_ from by simpa using L.out)⟩
       case measure=>simp[intOf];omega
     ·have bP:bb=false:=by rw[<-HB.out];exact Bt.aM (by rw[X.1];omega)
      subst bP
      go_wp2_with fail
      go_round
      case rel=>exact⟨r-1,2*O,by omega,by omega,by go_num,by go_num,(show _=_ from by simpa using L.out)⟩
      case measure=>simp[intOf];omega
    ·obtain rfl:r=0:=by omega
     have bB:Hid (O=Bt.val ((bs.drop (32*t)).take 32)):=by rw[HI.out];exact HN.out
     have av:=U.step bB.out
     have bn:∀ W:World,aQ (W.alloc (.cells #[.int .u32 (O:Int)] 206)) (some ⟨W.heap.size,0,none⟩) 1 [O]:=fun W=>lT W O b4
     have bz:=Gn bn
     clear bn
     have hz:((0:Nat):Int)=0:=rfl
     have b6:(i:Int)+((0:Nat):Int)-1<(i:Int):=by omega
     go_wp2_with (refine AK rfl (.tmp 36) (.tmp 38) rfl (N:=1000001) rfl (J.alloc _) rfl (bz.out _) (by have:=bC.out;omega) (by omega) (by simp;have:=I.size;omega) ?_;intro v4 w4 b5 bl)
     have ao:=(Q.alloc Q.size (.cells #[.int .u32 (O:Int)] 206)).grown bl (by simp;have:=Q.size;omega) (J.gl ah.size)
     have ad:=(I.alloc I.size (.cells #[.int .u32 (O:Int)] 206)).grown bl (by simp;have:=I.size;omega) (J.gl (Fm _))
     go_roundw
     case rel=>exact⟨t+1,_,by have:=HI.out;go_num,.inr (by have:=HI.out;omega),av,b5,ao,ad⟩
     case measure=>simp[intOf];omega
  ·obtain⟨bp,bx⟩:=U.end_ a1.out (by rw[X.1];have:=HI.out;omega) (by rw[X.1];exact ht)
   have bD:=Gn bp
   have bE:=Gn (bx.trans a7.out)
   have ba:=U.fit
   clear bp bx
   obtain⟨Ao,co,rfl,b3,b2,bT⟩:=J.mf ba
   have HOW:=Gn (J.gl ah.size)
   go_wp2_with fail
   go_ret
   exact⟨_,rfl,⟨Ao,_,co,out,rfl,b3,bD.out,bE.out,b2,bT⟩,Q,HOW.out⟩
theorem mU (A:Option Addr) (n c:Nat) (l:List Bool) (w:World) (h:jZ w A n c l) (hs:n<=30000000):
  Calls Tryz.prog 118 #[.slice A n c] w (tQ w (Bt.val l)):=
 (mX A n c l w h hs).mono fun _ _ ⟨v,r,I,J,_⟩=>⟨v,r,I,J⟩
theorem nE (A:Option Addr) (n c:Nat) (l:List Nat) (w:World) (h:aQ w A n l) (hs:n<=900000):
  Calls Tryz.prog 75 #[.slice A n c] w (sx w (M.val l)):=by
 have I:=M.bm h.2.1
 rw[h.1,Bt.lS] at I
 have Q:=Gn I
 clear I
 have HB:=Gn (jr A n c l w h (by omega))
 generalize M.val l=V at*
 go_enter Tryz.func75,Tryz.ntmps75
 go_wp2_with fail
 refine HB.out.mono ?_
 rintro e w1 ⟨v1,rfl,⟨A',n',c',bs,rfl,J,O,hval⟩,r⟩
 have Z:n'<=30000000:=by
  have:=Bt.ep (k:=32*n) O (by rw[hval];exact Q.out)
  rw[J.1] at this
  omega
 have HL:=Gn (mX A' n' c' bs w1 J Z)
 rw[hval] at HL
 clear hval
 go_wp2_with fail
 refine HL.out.mono ?_
 rintro e w2 ⟨v,rfl,hv,X,L⟩
 have U:=Gn L
 clear L
 go_wp2_with fail
 go_ret
 exact⟨v,rfl,hv,r.trans (X.mono r.size),fun q hq=>Fo r.size (U.out q hq)⟩
theorem vm (A:Option Addr) (n c:Nat) (l:List Nat) (w:World) (h:aQ w A n l) (hs:n<=900000):
  Calls Tryz.prog 75 #[.slice A n c] w (tQ w (M.val l)):=
 (nE A n c l w h hs).mono fun _ _ ⟨v,r,I,J,_⟩=>⟨v,r,I,J⟩
theorem CH (A:Option Addr) (n c:Nat) (l:List Nat) (w:World) (h:aQ w A n l) (hs:n<=900000) (hv:4611686018427387904<=(M.val l:Int)):
  Calls Tryz.prog 248 #[.slice A n c] w fun e w'=>e=.returned (.tuple #[.int .i64 0,.bool false])/\Below w.heap.size w w':=by
 have Q:=Gn (jr A n c l w h (by omega))
 have O:=Gn hv
 clear hv
 generalize M.val l=V at*
 go_enter Tryz.func248,Tryz.ntmps248
 go_wp2_with fail
 refine Q.out.mono ?_
 rintro e w1 ⟨v1,rfl,⟨A',n',X,bs,rfl,L,r,hval⟩,J⟩
 have U:62<n':=by
  rcases GX 62 n' with I|I
  ·exact I
  ·have:=Bt.bm bs
   rw[hval,L.1] at this
   have Z:2^n'<=2^62:=Gy (by omega) I
   have:=O.out
   omega
 clear hval r O
 go_wp2_with fail
 go_ret2
 exact⟨rfl,J⟩
theorem C8 (A:Option Addr) (n c:Nat) (l:List Nat) (w:World) (h:aQ w A n l) (hs:n<=900000) (hv:(M.val l:Int)<4611686018427387904):
  Calls Tryz.prog 248 #[.slice A n c] w fun e w'=>e=.returned (.tuple #[.int .i64 (M.val l:Nat),.bool true])/\Below w.heap.size w w':=by
 have HB:=Gn (jr A n c l w h (by omega))
 have HV:=Gn hv
 clear hv
 generalize M.val l=V at*
 go_enter Tryz.func248,Tryz.ntmps248
 go_wp2_with fail
 refine HB.out.mono ?_
 rintro e w1 ⟨v1,rfl,⟨A',n',c',bs,rfl,r,J,hval⟩,Z⟩
 have ad:n'<=62:=by
  have:=Bt.ep (k:=62) J (by rw[hval];have:=HV.out;omega)
  rw[r.1] at this
  exact this
 have X:=Gn hval
 clear hval J HV
 go_wp2_with fail
 go_loop [5,6] (fun nv iv=>∃ i I:Nat,i<=n'/\iv=.int .i64 ((i:Int)-1)/\nv=.int .i64 I/\Hid (I=Bt.val (bs.drop i))) (fun _ iv=>(intOf iv+1).toNat)
 case atStart=>exact⟨n',0,by omega,by go_num,rfl,by rw[Gz (by rw[r.1];exact Fm _)];exact rfl⟩
 case round=>
  obtain⟨i,I,hi,rfl,rfl,HN⟩:=hrel
  by_cases h0:0<i
  ·obtain⟨k,hk⟩:∃ k:Nat,Hid (i-1=k):=⟨_,rfl⟩
   have he:(i:Int)-1=(k:Int):=by have:=hk.out;omega
   have O:k<n':=by have:=hk.out;omega
   obtain⟨b,off,rfl,hb,hcs⟩:=r.at_ (by omega)
   obtain⟨x,HX,hcell⟩:=hcs k O
   clear hcs
   have L:Hid (x.toNat+2*I=Bt.val (bs.drop k)):=by
    rw[HX.out,Bt.getD_lt (by rw[r.1];exact O),HN.out,FC (i:=k) (by rw[r.1];exact O),Bt.ai,show k+1=i from by have:=hk.out;omega]
    exact rfl
   have Q:Hid (x.toNat+2*I<2^62):=by
    rw[L.out]
    have h1:=Bt.bm (bs.drop k)
    have h2:2^(bs.drop k).length<=2^62:=Gy (by omega) (by rw[FU,r.1];omega)
    exact Fp h1 h2
   have ah:IntKind.i64.wrap ((I:Int)*2)=(I:Int)*2:=GR _ (by have:=Q.out;omega)
   have U:x=true->IntKind.i64.wrap ((I:Int)*2+1)=(I:Int)*2+1:=fun e=>GR _ (by have:=Q.out;rw[e] at this;simp at this;omega)
   clear Q
   cases x
   ·clear U
    go_wp2_with fail
    go_round
    case rel=>exact⟨k,2*I,by omega,by go_num,by go_num,(show _=_ from by simpa using L.out)⟩
    case measure=>simp[intOf];omega
   ·have U:=U rfl
    go_wp2_with fail
    go_round
    case rel=>exact⟨k,1+2*I,by omega,by go_num,by go_num,(show _=_ from by simpa using L.out)⟩
    case measure=>simp[intOf];omega
  ·obtain rfl:i=0:=by omega
   have hV:Hid (I=V):=by rw[HN.out,Hw,X.out];exact rfl
   have hz:((0:Nat):Int)-1<0:=by omega
   go_wp2_with fail
   go_ret2
   refine⟨?_,Z⟩
   rw[<-hV.out]
   rfl
theorem tE {A:Option Addr} {n c i:Nat} {x:Bool} {l:List Bool} {w:World} (h:jZ w A n c l) (hi:i<=1000000000) (I:Hid (x=l.getD i false)):
  Calls Tryz.prog 186 #[.slice A n c,.int .i64 i] w fun e w'=>e=.returned (.bool x)/\w=w':=by
 have hc:c<=9223372036854775807:=h.2.2.1
 have hn:=h.2.1
 by_cases r:i<n
 ·obtain⟨b,off,rfl,_,hcs⟩:=h.at_ (by omega)
  obtain⟨y,J,hcell⟩:=hcs i r
  obtain rfl:y=x:=J.out.trans I.out.symm
  clear hcs
  go_enter Tryz.func186,Tryz.ntmps186
  go_wp2
  go_ret
  exact⟨rfl,rfl⟩
 ·obtain rfl:x=false:=by rw[I.out];exact Bt.aM (by rw[h.1];omega)
  go_enter Tryz.func186,Tryz.ntmps186
  go_wp2
  go_ret
  exact⟨rfl,rfl⟩
theorem DG (A B:Option Addr) (n m c d:Nat) (k l:List Bool) (w:World) (hk:jZ w A n c k) (hl:jZ w B m d l) (hn:n<=100000000) (hm:m<=100000000):
  Calls Tryz.prog 249 #[.slice A n c,.slice B m d] w fun e w'=>e=.returned (.int .i64 (M.di (Bt.val k) (Bt.val l)))/\w=w':=by
 obtain⟨p,hp,av,a1⟩:∃ p:Nat,Hid ((p=n/\m<=n)\/(p=m/\n<m))/\n<=p/\m<=p:=by
  by_cases h:n<m
  ·exact⟨m,.inr ⟨rfl,h⟩,by omega,by omega⟩
  ·exact⟨n,.inl ⟨rfl,by omega⟩,by omega,by omega⟩
 have a7:p<=100000000:=by rcases hp.out with h|h <;> omega
 obtain⟨z,U⟩:∃ z,Hid (M.di (Bt.val k) (Bt.val l)=z):=⟨_,rfl⟩
 rw[U.out]
 rcases(show(p=n/\m<=n/\decide (n<m)=false)\/(p=m/\n<m/\decide (n<m)=true) from by
  rcases hp.out with⟨X,Z⟩|⟨X,Z⟩
  ·exact .inl ⟨X,Z,by simp;omega⟩
  ·exact .inr ⟨X,Z,by simp;omega⟩) with⟨rfl,J,ad⟩|⟨rfl,J,ad⟩
 all_goals
  clear hp
  go_enter Tryz.func249,Tryz.ntmps249
  go_wp2_with fail
  go_loopw [6] (fun iv wr=>∃ i:Nat,i<=p/\iv=.int .i64 ((i:Int)-1)/\Hid (∀ j,i<=j->k.getD j false=l.getD j false)/\wr=w) (fun iv _=>(intOf iv+1).toNat)
  case atStart=>exact⟨p,by omega,rfl,fun j V=>by rw[Bt.aM (by rw[hk.1];omega),Bt.aM (by rw[hl.1];omega)],rfl⟩
  case round=>
   obtain⟨i,hi,rfl,HE,rfl⟩:=hrel
   by_cases h0:0<i
   ·obtain⟨j,V⟩:∃ j:Nat,Hid (i-1=j):=⟨_,rfl⟩
    have he:(i:Int)-1=(j:Int):=by have:=V.out;omega
    have ao:j<=100000000:=by have:=V.out;omega
    obtain⟨x,L⟩:∃ x,Hid (x=k.getD j false):=⟨_,rfl⟩
    obtain⟨y,O⟩:∃ y,Hid (y=l.getD j false):=⟨_,rfl⟩
    have H1:=Gn (tE hk (show j<=1000000000 by omega) L)
    have Q:=Gn (tE hl (show j<=1000000000 by omega) O)
    have r:Hid (∀ q,j<q->k.getD q false=l.getD q false):=fun q J=>HE.out q (by have:=V.out;omega)
    have hz:Hid ((x=false/\y=true->z= -1)/\(x=true/\y=false->z=1)):=by
     constructor
     ·rintro⟨rfl,rfl⟩
      rw[<-U.out,M.jz (Bt.du j r.out L.out.symm O.out.symm)]
     ·rintro⟨rfl,rfl⟩
      rw[<-U.out,M.hH (Bt.du j (fun q J=>(r.out q J).symm) O.out.symm L.out.symm)]
    cases x <;> cases y
    ·go_wp2_with fail
     refine H1.out.mono ?_
     rintro e I ⟨rfl,rfl⟩
     go_wp2_with fail
     refine Q.out.mono ?_
     rintro e I ⟨rfl,rfl⟩
     go_wp2_with fail
     go_roundw
     case rel=>exact⟨j,by omega,by go_num,fun q J=>by
      by_cases e:q=j
      ·subst e;rw[<-L.out,<-O.out]
      ·exact r.out q (by omega),by trivial⟩
     case measure=>simp[intOf];omega
    ·go_wp2_with fail
     refine H1.out.mono ?_
     rintro e I ⟨rfl,rfl⟩
     go_wp2_with fail
     refine Q.out.mono ?_
     rintro e I ⟨rfl,rfl⟩
     go_wp2_with fail
     go_ret
     exact⟨dH (hz.out.1 ⟨by trivial,by trivial⟩).symm,by trivial⟩
    ·go_wp2_with fail
     refine H1.out.mono ?_
     rintro e I ⟨rfl,rfl⟩
     go_wp2_with fail
     refine Q.out.mono ?_
     rintro e I ⟨rfl,rfl⟩
     go_wp2_with fail
     go_ret
     exact⟨dH (hz.out.2 ⟨by trivial,by trivial⟩).symm,by trivial⟩
    ·go_wp2_with fail
     refine H1.out.mono ?_
     rintro e I ⟨rfl,rfl⟩
     go_wp2_with fail
     refine Q.out.mono ?_
     rintro e I ⟨rfl,rfl⟩
     go_wp2_with fail
     go_roundw
     case rel=>exact⟨j,by omega,by go_num,fun q J=>by
      by_cases e:q=j
      ·subst e;rw[<-L.out,<-O.out]
      ·exact r.out q (by omega),by trivial⟩
     case measure=>simp[intOf];omega
   ·obtain rfl:i=0:=by omega
    have hz:Hid (z=0):=by
     rw[<-U.out,Bt.ui fun j=>HE.out j (by omega)]
     exact M.ko _
    have ah:((0:Nat):Int)-1<0:=by omega
    go_wp2_with fail
    go_ret
    exact⟨dH hz.out.symm,by trivial⟩
theorem AW (r:Bool) (W:World):jZ (W.alloc (.cells #[.bool r] 4)) (some ⟨W.heap.size,0,none⟩) 1 1 [r]:=by
 obtain⟨A',L,e,h⟩:=(dq.lit W (B:=W.heap.size) r (Fm _)).vV
 injection e with I _ J
 subst I J
 exact h
theorem qi (A B:Option Addr) (n m c d:Nat) (k l:List Bool) (w:World) (hk:jZ w A n c k) (hl:jZ w B m d l) (hn:n<=90000000) (hm:m<=90000000):
  Calls Tryz.prog 141 #[.slice A n c,.slice B m d] w (fQ w (Bt.val k+Bt.val l)):=by
 obtain⟨p,bz,bx,bp⟩:∃ p:Nat,n<=p/\m<=p/\p<=90000000:=⟨max n m,by omega,by omega,by omega⟩
 have Z:=Gn AW
 go_enter Tryz.func141,Tryz.ntmps141
 go_wp2_with fail
 go_loopw [5,6,7] (fun dv cv iv wr=>∃ (i:Nat) (J:Bool) (out:List Bool),i<=p+1/\(i<=p\/J=false)/\iv=.int .i64 i/\cv=.bool J/\Bt.cI k l out i J/\dq wr w.heap.size dv out/\Below w.heap.size w wr) (fun _ _ iv _=>p+1-(intOf iv).toNat)
 case atStart=>exact⟨0,false,[],by omega,.inl (by omega),rfl,rfl,Bt.cI.start k l,dq.dI _ _,Gp _ _⟩
 case round=>
  obtain⟨i,J,out,hi,X,rfl,rfl,hinv,L,r⟩:=hrel
  have bl:=hinv.len
  have bn:out.length<=90000001:=by omega
  clear bl
  by_cases I:i<n\/i<m\/J=true
  ·have bo:i<=p:=by
    rcases I with h|h|h
    ·omega
    ·omega
    ·rcases X with Q|Q
     ·exact Q
     ·rw[h] at Q;cases Q
   obtain⟨x,HX⟩:∃ x,Hid (x=k.getD i false):=⟨_,rfl⟩
   obtain⟨y,HY⟩:∃ y,Hid (y=l.getD i false):=⟨_,rfl⟩
   have H1:=Gn (tE (hk.below r) (show i<=1000000000 by omega) HX)
   have H2:=Gn (tE (hl.below r) (show i<=1000000000 by omega) HY)
   have O:=hinv.step HX.out HY.out rfl
   have HS:=Gn O
   have ah:i+1<=p\/(decide (1<x.toNat+y.toNat+J.toNat))=false:=by
    rcases GX i p with h|h
    ·exact .inl h
    ·right
     have hx:x=false:=by rw[HX.out];exact Bt.aM (by rw[hk.1];omega)
     have hy:y=false:=by rw[HY.out];exact Bt.aM (by rw[hl.1];omega)
     subst hx hy
     cases J <;> rfl
   have ao:=Gn ah
   clear O ah X
   rcases(show i<n\/(¬i<n/\i<m)\/(¬i<n/\¬i<m/\J=true) from by
    rcases I with h|h|h
    ·exact .inl h
    ·by_cases U:i<n
     ·exact .inl U
     ·exact .inr (.inl ⟨U,h⟩)
    ·by_cases U:i<n
     ·exact .inl U
     ·by_cases Q:i<m
      ·exact .inr (.inl ⟨U,Q⟩)
      ·exact .inr (.inr ⟨U,Q,h⟩)) with ad|⟨ad,a1⟩|⟨ad,a1,rfl⟩
   all_goals
    clear I
    try cases J
    all_goals
     cases x <;> cases y
     all_goals
      go_wp2_with fail
      refine H1.out.mono ?_
      rintro e w1 ⟨rfl,rfl⟩
      go_wp2_with fail
      refine H2.out.mono ?_
      rintro e w1 ⟨rfl,rfl⟩
      go_wp2_with (refine gR rfl (.tmp 41) (.tmp 45) rfl (N:=90000002) rfl (L.alloc _) rfl (Z.out _ _) (by omega) (by omega) (by simp;have:=r.size;omega) ?_;intro v4 w4 bb ba)
      have V:=(r.alloc r.size _).grown ba (by simp;have:=r.size;omega) (L.gl (Fm _))
      go_roundw
      case rel=>exact⟨i+1,_,_,by omega,ao.out,by go_num,rfl,HS.out,bb,V⟩
      case measure=>simp[intOf];omega
  ·have a7:J=false:=by
    cases J with
    |false=>rfl
    |true=>exact absurd (.inr (.inr rfl)) I
   subst a7
   have U:¬i<n:=fun h=>I (.inl h)
   have Q:¬i<m:=fun h=>I (.inr (.inl h))
   have HE:=Gn (hinv.end_ (by rw[hk.1];omega) (by rw[hl.1];omega))
   obtain⟨A',c',rfl,hb⟩:=L.vV
   clear I X
   go_wp2_with fail
   refine(gW _ _ _ _ _ hb (by omega)).mono ?_
   rintro e w2 ⟨v,rfl,hv,av⟩
   rw[HE.out] at hv
   go_wp2_with fail
   go_ret
   exact⟨v,rfl,hv,r.trans (av.mono r.size)⟩
theorem yN (A B:Option Addr) (n m c d:Nat) (k l:List Bool) (w:World) (hk:jZ w A n c k) (hl:jZ w B m d l) (hn:n<=40000000) (hm:m<=40000000):
  Calls Tryz.prog 142 #[.slice A n c,.slice B m d] w (fQ w (Bt.val k*Bt.val l)):=by
 have bp:Hid (Bt.val l<2^m):=by have:=Bt.bm l;rw[hl.1] at this;exact this
 have a1:Hid (k.length=n):=hk.1
 go_enter Tryz.func142,Tryz.ntmps142
 go_wp2_with fail
 go_loopw [5,6] (fun dv iv wr=>∃ (i:Nat) (A':Option Addr) (n' c':Nat) (os:List Bool),i<=n/\iv=.int .i64 ((i:Int)-1)/\dv=.slice A' n' c'/\jZ wr A' n' c' os/\n'<=n-i+m/\Hid (Bt.val os=Bt.val (k.drop i)*Bt.val l)/\Below w.heap.size w wr) (fun _ iv _=>(intOf iv+1).toNat)
 case atStart=>exact⟨n,none,0,0,[],by omega,rfl,rfl,⟨rfl,by omega,by omega,.inl ⟨rfl,rfl,rfl⟩⟩,by omega,by rw[Gz (by rw[a1.out];exact Fm _)];exact(Hx _).symm,Gp _ _⟩
 case round=>
  obtain⟨i,A',n',c',os,hi,rfl,rfl,O,bL,HV,h⟩:=hrel
  by_cases h0:0<i
  ·obtain⟨j,hj⟩:∃ j:Nat,Hid (i-1=j):=⟨_,rfl⟩
   have he:(i:Int)-1=(j:Int):=by have:=hj.out;omega
   have bD:j<n:=by have:=hj.out;omega
   obtain⟨b,off,rfl,hb,hcs⟩:=hk.at_ (by omega)
   obtain⟨x,HX,hcell⟩:=hcs j bD
   have av:=Gn hcell
   clear hcs hcell
   have bl:Hid (Bt.val (k.drop j)=x.toNat+2*Bt.val (k.drop i)):=by
    rw[Bt.lP k j,HX.out,show j+1=i from by have:=hj.out;omega]
    exact rfl
   have Q:=fun W:World=>dq.lit W (B:=w.heap.size) false
   have J:=Gn Q
   clear Q
   have bT:n'<=80000000:=by omega
   have bP:n'+1<=n-j+m:=by have:=hj.out;omega
   have bn:([false]++os).length<=n-j+m:=by simp;rw[O.1];omega
   obtain⟨n5,ad⟩:∃ n5,Hid (([false]++os).length=n5):=⟨_,rfl⟩
   rw[ad.out] at bn
   have a7:Hid (Bt.val ([false]++os)=2*(Bt.val (k.drop i)*Bt.val l)):=by
    rw[List.singleton_append,Bt.ai,HV.out]
    exact(FA _)
   cases x
   ·go_wp2_with (refine gR rfl (.tmp 14) (.tmp 15) rfl (N:=80000001) rfl (J.out _ h.size) rfl (O.below ((Gp _ _).alloc (Fm _) _)) (by simp;omega) (by omega) (by simp;have:=h.size;omega) ?_;intro v4 w4 ah Z;have r:=(h.alloc h.size _).grown Z (by simp;have:=h.size;omega) (dq.gl (J.out _ h.size) (Fm _));have bb:=(r.cell (p:=⟨b,off+j,none⟩) hb).trans av.out;obtain⟨A5,c5,e5,L⟩:=ah.vV;rw[ad.out] at e5 L;subst e5)
    have U:Hid (Bt.val ([false]++os)=Bt.val (k.drop j)*Bt.val l):=(show Bt.val ([false]++os)=Bt.val (k.drop j)*Bt.val l from by rw[bl.out,a7.out,<-FJ];simp)
    go_roundw
    case rel=>exact⟨j,A5,n5,c5,_,by omega,by go_num,rfl,L,bn,U,r⟩
    case measure=>simp[intOf];omega
   ·go_wp2_with (refine gR rfl (.tmp 14) (.tmp 15) rfl (N:=80000001) rfl (J.out _ h.size) rfl (O.below ((Gp _ _).alloc (Fm _) _)) (by simp;omega) (by omega) (by simp;have:=h.size;omega) ?_;intro v4 w4 ah Z;have r:=(h.alloc h.size _).grown Z (by simp;have:=h.size;omega) (dq.gl (J.out _ h.size) (Fm _));have bb:=(r.cell (p:=⟨b,off+j,none⟩) hb).trans av.out;obtain⟨A5,c5,e5,L⟩:=ah.vV;rw[ad.out] at e5 L;subst e5)
    have I:=qi A5 B n5 m c5 d _ l w4 L (hl.below r) (by omega) (by omega)
    have U:Hid (Bt.val ([false]++os)+Bt.val l=Bt.val (k.drop j)*Bt.val l):=by
     rw[bl.out,a7.out,<-FJ,show(true.toNat+2*Bt.val (k.drop i))=2*Bt.val (k.drop i)+1 from by simp;omega,Hj,Hk]
     exact rfl
    rw[U.out] at I
    have bx:=Gn I
    clear I
    go_wp2_with fail
    refine bx.out.mono ?_
    rintro e w5 ⟨v,rfl,⟨A6,n6,c6,ps,rfl,ba,bo,ao⟩,V⟩
    have X:=r.trans (V.mono r.size)
    have bE:n6<=n-j+m:=by
     have h1:Bt.val ps<2^(n-j+m):=by
      rw[ao,Hq]
      have h2:=Bt.bm (k.drop j)
      rw[FU,a1.out] at h2
      have h3:=bp.out
      exact Nat.mul_lt_mul'' h2 h3
     have:=Bt.ep bo h1
     rw[ba.1] at this
     exact this
    have bz:=Gn ao
    clear ao bo
    go_wp2_with fail
    go_roundw
    case rel=>exact⟨j,A6,n6,c6,ps,by omega,by go_num,rfl,ba,bE,bz.out,X⟩
    case measure=>simp[intOf];omega
  ·obtain rfl:i=0:=by omega
   have hz:((0:Nat):Int)-1<0:=by omega
   have bB:Hid (Bt.val os=Bt.val k*Bt.val l):=by rw[HV.out,Hw];exact rfl
   go_wp2_with fail
   refine(gW _ _ _ _ _ O (by omega)).mono ?_
   rintro e w2 ⟨v,rfl,hv,bC⟩
   rw[bB.out] at hv
   go_wp2_with fail
   go_ret
   exact⟨v,rfl,hv,h.trans (bC.mono h.size)⟩
def In (w:World) (A:Option Addr) (n c N:Nat):Prop:=∃ l,aQ w A n l/\M.val l=N/\n<=c/\c<=maxLen/\n<=1000000
def AX (w:World) (A:Option Addr) (n c N:Nat):Prop:=∃ l,aQ w A n l/\M.val l=N/\n<=c/\c<=maxLen/\n<=4000000000
theorem In.wide {w:World} {A:Option Addr} {n c N:Nat} (h:In w A n c N):AX w A n c N:=by
 obtain⟨l,r,I,J,L,O⟩:=h
 exact⟨l,r,I,J,L,by omega⟩
theorem AX.below {w w':World} {A:Option Addr} {n c N:Nat} (h:AX w A n c N) (hb:Below w.heap.size w w'):AX w' A n c N:=by
 obtain⟨l,r,I⟩:=h
 exact⟨l,r.below hb,I⟩
theorem In.below {w w':World} {A:Option Addr} {n c N:Nat} (h:In w A n c N) (hb:Below w.heap.size w w'):In w' A n c N:=by
 obtain⟨l,r,I⟩:=h
 exact⟨l,r.below hb,I⟩
theorem zW {w:World} {A B:Option Addr} {n m c d N K:Nat} (h:AX w A n c N) (k:AX w B m d K):Calls Tryz.prog 121 #[.slice A n c,.slice B m d] w fun e w'=>e=.returned (.int .i64 (M.di N K))/\Below w.heap.size w w':=by
 obtain⟨l,r,rfl,I,J,X⟩:=h
 obtain⟨l',L,rfl,O,Q,Z⟩:=k
 exact(zP _ _ _ _ _ _ _ _ _ r L I O J Q).mono fun _ _ ⟨U,j,V⟩=>⟨U,by rw[V];exact below_drewN (Gp _ _) j⟩
theorem Ei {w:World} {A:Option Addr} {n c k:Nat} {l:List Nat} (h:aQ w A n l) (hn:n<=c) (hc:c<=maxLen) (r:n<=k) (I:k<=1000000):In w A n c (M.val l)/\M.val l<M.BB^k:=by
 refine⟨⟨l,h,rfl,hn,hc,by omega⟩,?_⟩
 have:=M.bm h.2.1
 rw[h.1] at this
 exact Fp this (Gy M.aV r)
theorem qt {w:World} {A:Option Addr} {n c N:Nat} (h:In w A n c N):Calls Tryz.prog 119 #[.slice A n c] w (fQ w N):=by
 obtain⟨l,r,rfl,J,L,I⟩:=h
 exact jr _ _ _ _ _ r I
theorem AD.vV {w:World} {v:Value} {N k:Nat} (h:AD w v N) (L:N<M.BB^k):∃ A n c l,v=.slice A n c/\jZ w A n c l/\Bt.cS l/\Bt.val l=N/\n<=32*k:=by
 obtain⟨A,n,c,l,rfl,r,I,J⟩:=h
 have:=Bt.ep (k:=32*k) I (by rw[J,<-Bt.lS];exact L)
 rw[r.1] at this
 exact⟨A,n,c,l,rfl,r,I,J,this⟩
theorem sf {w:World} {A:Option Addr} {n c N:Nat} (h:In w A n c N) (hn:n<=900000):Calls Tryz.prog 75 #[.slice A n c] w (sx w N):=by
 obtain⟨l,r,rfl,I,J,L⟩:=h
 exact nE _ _ _ _ _ r hn
theorem vj {w:World} {A:Option Addr} {n c N:Nat} (h:In w A n c N) (hn:n<=900000):Calls Tryz.prog 75 #[.slice A n c] w (tQ w N):=by
 obtain⟨l,r,rfl,I,J,L⟩:=h
 exact vm _ _ _ _ _ r hn
end Go.Proofs.YtdbgiijdgedggaaGreatDoor
