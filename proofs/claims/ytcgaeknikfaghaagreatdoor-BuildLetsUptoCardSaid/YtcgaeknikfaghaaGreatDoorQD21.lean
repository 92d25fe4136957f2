/- What the proofs of this claim use, text by text. -/
import Derived.Test.YtcgaeknikfaghaaGreatDoorQD20
set_option linter.unusedSimpArgs false
set_option linter.unusedVariables false
set_option maxRecDepth 100000
set_option maxHeartbeats 25600000
namespace Go.Proofs.YtcgaeknikfaghaaGreatDoor
open Go.RowKit
abbrev AnyP:Nat→Nat→Prop:=fun _ _=>True
theorem sbox_in {w W0:World} {x:Sx} {A:Option Addr} {c n:Nat} {l:Bool} (hn:x.L.length=n) (hl:x.list=l) (h:STree w AnyP x A c)
  (hW0:w.alloc (Obj.cells #[Value.bool l,Value.int IntKind.i64 x.k,Value.string x.T,Value.int IntKind.i64 x.ta,Value.int IntKind.i64 x.at_,Value.slice A n c] 27)=W0):
  Below w.heap.size w W0∧STree W0 AnyP x A c∧SAt W0 w.heap.size 0 x A c:=by
 have e:w.alloc (sbox x A c)=W0:=by rw[←hW0,sbox,hn,hl]
 rw[←e]
 exact⟨(Below.refl _ w).alloc (Nat.le_refl _) _,h.kept ((Below.refl _ w).alloc (Nat.le_refl _) _),sbox_at w x A c⟩
theorem rDepth (x:Sx) (A:Option Addr) (c:Nat) (w:World) (h:STree w AnyP x A c):
  Calls Tryz.prog 30 #[sval x A c] w fun e w'=>e=.returned (.int .i64 (Sx.dep 65 x:Nat))∧Below w.heap.size w w':=by
 have hb0:=(Below.refl _ w).alloc (Nat.le_refl _) (sbox x A c)
 have H:=Lib.hid (rdepth 65 x A c _ (by decide) (h.kept hb0))
 obtain⟨X,hX⟩:∃ X:Nat,Sx.dep 65 x=X:=⟨_,rfl⟩
 rw[hX] at H ⊢
 have HB:=Lib.hid hb0
 clear hb0 hX h
 go_enter Tryz.func30,Tryz.ntmps30
 go_wp2_with (go_at_call 62;refine H.out.mono ?_;rintro e w2 ⟨rfl,b2⟩)
 go_ret
 exact⟨rfl,HB.out.trans (b2.mono HB.out.size)⟩
theorem rsize:∀ (k:Nat) (x:Sx) (A:Option Addr) (c:Nat) (w:World),x.size≤k→k≤1000000000→STree w AnyP x A c→
  Calls Tryz.prog 24 #[sval x A c] w fun e w'=>(∃ z:Nat,e=.returned (.int .i64 (z:Nat))∧z≤x.size∧(x.size≤5000→z=x.size)∧(5000<x.size→5000<z))∧Below w.heap.size w w':=by
 intro k
 induction k with
 |zero=>
  intro x A c w hk
  exact absurd x.size_pos (by omega)
 |succ k ih=>
  intro x A c w hk hk9 h
  obtain⟨n,hn⟩:∃ n,x.L.length=n:=⟨_,rfl⟩
  have HN:=Lib.hid hn
  have hl:n≤maxLen:=hn▸Nat.le_trans h.le.1 h.le.2
  unfold maxLen at hl
  obtain⟨X,hX⟩:∃ X,x.size=X:=⟨_,rfl⟩
  have HX:=Lib.hid hX
  have hXs:=x.size_eq
  rw[hX] at hk hXs ⊢
  have HXs:=Lib.hid hXs
  unfold sval
  rw[hn]
  clear hn hX hXs
  go_enter Tryz.func24,Tryz.ntmps24
  go_wp2
  generalize hW0:w.alloc (Obj.cells #[Value.bool x.list,Value.int IntKind.i64 x.k,Value.string x.T,Value.int IntKind.i64 x.ta,Value.int IntKind.i64 x.at_,Value.slice A n c] 27)=W0
  have HB0:=Lib.hid (sbox_in HN.out rfl h hW0)
  clear h hW0
  go_loopw [3,4] (fun zv iv wr=>∃ i z:Nat,i≤n∧zv=.int .i64 (z:Nat)∧iv=.int .i64 (i:Nat)∧Below W0.heap.size W0 wr∧z+Sx.sizes (x.L.drop i)≤X∧Hid ((X≤5000→z+Sx.sizes (x.L.drop i)=X)∧(5000<X→z≤5000→5000<z+Sx.sizes (x.L.drop i)))) (fun _ iv _=>n-(intOf iv).toNat)
  case atStart=>exact⟨0,1,Nat.zero_le _,rfl,rfl,Below.refl _ _,by rw[List.drop_zero];have:=HXs.out;omega,by show _∧_;rw[List.drop_zero];have:=HXs.out;constructor <;> omega⟩
  case round=>
   obtain⟨i,z,hi,rfl,rfl,hb,hz,HI⟩:=hrel
   obtain⟨hb1,ht1,hbx1⟩:=HB0.out
   have hbx2:=hbx1.below hb
   obtain⟨q,q0,q1,q2,q3,q4,q5⟩:=hbx2
   rw[HN.out] at q5
   simp only[Nat.zero_add] at q0 q1 q2 q3 q4 q5
   have HB:=Lib.hid (hb1.trans (hb.mono hb1.size))
   have hzX:z≤X:=by omega
   by_cases hlt:i<n
   ·by_cases h5:z≤5000
    ·obtain⟨b,off,y,A',c',rfl,hy,hdr,hym,hs,hty⟩:=(ht1.kept hb).get (i:=i) (by rw[HN.out];exact hlt)
     obtain⟨y_,y0,y1,y2,y3,y4,y5⟩:=hs
     have hyX:=Sx.size_lt hym
     rw[HX.out] at hyX
     have hsz:=Sx.sizes_get hy
     have hIH:=Lib.hid (ih y A' c' wr (by omega) (by omega) hty)
     obtain⟨d,hd⟩:∃ d,y.size=d:=⟨_,rfl⟩
     have hd0:=y.size_pos
     rw[hd] at hIH hsz hyX hd0
     obtain⟨r,hr⟩:∃ r,Sx.sizes (x.L.drop (i+1))=r:=⟨_,rfl⟩
     have HR:=Lib.hid hr
     rw[hr] at hsz
     rw[←hsz] at hz HI
     have hz':=Lib.hid hz
     have HBr:=Lib.hid hb
     have hlt':(i:Int)<(n:Int):=by omega
     have hi0:(0:Int)≤(i:Int):=by omega
     have h5':(z:Int)≤5000:=by omega
     have HY:=Lib.hid hyX
     clear hd ht1 hbx1 hb1 hty hdr hy hb hym hr hsz hz hyX hd0
     go_wp2_with (go_at_call 24;refine hIH.out.mono ?_;rintro e w2 ⟨⟨v,rfl,v1,v2,v3⟩,b2⟩;have hv9:z+v≤1000000001:=(by have:=hz'.out;omega);have HV:=Lib.hid (And.intro v1 (And.intro v2 v3));clear v1 v2 v3)
     go_roundw
     case rel=>exact⟨i+1,z+v,by omega,by go_num,by go_num,HBr.out.trans (b2.mono HBr.out.size),by rw[HR.out];have:=hz'.out;have:=HV.out;omega,by show _∧_;rw[HR.out];have:=HI.out;have:=HV.out;have:=HY.out;constructor <;> omega⟩
     case measure=>simp[intOf];omega
    ·have h5':¬(z:Int)≤5000:=by omega
     have h5b:decide ((z:Int)≤5000)=false:=decide_eq_false h5'
     have hlt':(i:Int)<(n:Int):=by omega
     have HE:Hid (∃ z':Nat,Ending.returned (.int .i64 (z:Nat))=.returned (.int .i64 (z':Nat))∧z'≤X∧(X≤5000→z'=X)∧(5000<X→5000<z')):=⟨z,rfl,hzX,fun e=>absurd hzX (by omega),fun _=>by omega⟩
     clear HI hz ht1 hbx1 hb1 hb
     go_wp2
     go_ret
     exact⟨HE.out,HB.out⟩
   ·obtain rfl:i=n:=by omega
    have HE:Hid (∃ z':Nat,Ending.returned (.int .i64 (z:Nat))=.returned (.int .i64 (z':Nat))∧z'≤X∧(X≤5000→z'=X)∧(5000<X→5000<z')):=by
     have hI:=HI.out
     rw[List.drop_of_length_le (by rw[HN.out];exact Nat.le_refl _)] at hI
     simp only[Sx.sizes,Nat.add_zero] at hI
     refine⟨z,rfl,hzX,hI.1,fun h=>?_⟩
     by_cases h5:z≤5000
     ·exact hI.2 h h5
     ·omega
    clear HI hz ht1 hbx1 hb1 hb
    go_wp2
    go_ret
    exact⟨HE.out,HB.out⟩
end Go.Proofs.YtcgaeknikfaghaaGreatDoor
namespace Go.Proofs.YtcgaeknikfaghaaGreatDoor
open Go.RowKit
structure SItem where
 X:Sx
 E:Int
 at_:Int
structure ItS (w:World) (A:Option Addr) (n:Nat) (l:List SItem):Prop where
 len:l.length=n
 at_:0<n→∃ b off,A=some ⟨b,off,none⟩∧∀ (i:Nat) (x:SItem),l[i]?=some x→∃ A' c',SAt w b (off+i*8) x.X A' c'∧STree w AnyP x.X A' c'∧w.cell? ⟨b,off+i*8+6,none⟩=some (.int .i64 x.E)∧w.cell? ⟨b,off+i*8+7,none⟩=some (.int .i64 x.at_)
theorem ItS.get {w:World} {A:Option Addr} {n i:Nat} {l:List SItem} (h:ItS w A n l) (hi:i<n):
  ∃ b off x A' c',A=some ⟨b,off,none⟩∧l[i]?=some x∧l.drop i=x::l.drop (i+1)∧SAt w b (off+i*8) x.X A' c'∧STree w AnyP x.X A' c'∧w.cell? ⟨b,off+i*8+6,none⟩=some (.int .i64 x.E)∧w.cell? ⟨b,off+i*8+7,none⟩=some (.int .i64 x.at_):=by
 obtain⟨b,off,e,hc⟩:=h.at_ (by omega)
 have hi':i<l.length:=by rw[h.len];exact hi
 obtain⟨A',c',h1,h2,h3,h4⟩:=hc i _ (List.getElem?_eq_getElem hi')
 exact⟨b,off,l[i],A',c',e,List.getElem?_eq_getElem hi',List.drop_eq_getElem_cons hi',h1,h2,h3,h4⟩
end Go.Proofs.YtcgaeknikfaghaaGreatDoor
namespace Go.Proofs.YtcgaeknikfaghaaGreatDoor
def Sx.atom (t:ITok):Sx:=⟨false,t.1,t.2.1,t.2.2,t.2.2,[]⟩
def Sx.node (a:Int) (L:List Sx):Sx:=⟨true,0,ByteArray.empty,0,a,L⟩
mutual
def Sx.deep:Sx→Nat
 |⟨list,_,_,_,_,L⟩=>if list then Sx.deeps L+1 else 0
def Sx.deeps:List Sx→Nat
 |[]=>0
 |x::l=>max (Sx.deep x) (Sx.deeps l)
end
theorem Sx.deep_list {x:Sx} (h:x.list=true):x.deep=Sx.deeps x.L+1:=by
 cases x
 subst h
 rw[Sx.deep,if_pos rfl]
theorem Sx.deep_atom {x:Sx} (h:x.list=false):x.deep=0:=by
 cases x
 subst h
 rw[Sx.deep,if_neg (by decide)]
theorem Sx.dep_deep:∀ (m:Nat) (x:Sx),Sx.dep m x=min m x.deep
 |0,x=>by simp[Sx.dep]
 |m+1,x=>by
  have h:∀ l:List Sx,(l.map (Sx.dep m)).foldl max 0=min m (Sx.deeps l):=by
   intro l
   induction l with
   |nil=>simp[Sx.deeps]
   |cons y l ih=>
    rw[List.map_cons,List.foldl_cons,foldl_max,ih,Sx.dep_deep m y,Sx.deeps]
    omega
  rw[Sx.dep,h]
  cases hx:x.list
  ·rw[Sx.deep_atom hx]
   simp
  ·rw[Sx.deep_list hx]
   simp
theorem Sx.deeps_app:∀ l m:List Sx,Sx.deeps (l++m)=max (Sx.deeps l) (Sx.deeps m)
 |[],m=>by simp[Sx.deeps]
 |x::l,m=>by rw[List.cons_append,Sx.deeps,Sx.deeps,Sx.deeps_app l m];omega
def clos:Nat→Nat→List ITok→Option (Nat×Nat)
 |_,_,[]=>none
 |n,most,t::l=>
  let n':=if t.1=1 then n+1 else if t.1=2 then n-1 else n
  if n'=0 then some (1,max most n') else(clos n' (max most n') l).map fun x=>(x.1+1,x.2)
inductive Reads:List ITok→List Sx→Prop
 |nil:Reads [] []
 |atom (t:ITok) (l:List ITok) (L:List Sx):t.1≠1→t.1≠2→Reads l L→Reads (t::l) (Sx.atom t::L)
 |list (o c:ITok) (m l:List ITok) (M L:List Sx):o.1=1→c.1=2→Reads m M→Reads l L→Reads (o::(m++c::l)) (Sx.node o.2.2 M::L)
theorem clos_open {n most:Nat} {t:ITok} (l:List ITok) (h:t.1=1):clos n most (t::l)=(clos (n+1) (max most (n+1)) l).map fun x=>(x.1+1,x.2):=by
 rw[clos]
 simp only[h,if_true]
 rw[if_neg (by omega)]
theorem clos_last {most:Nat} {t:ITok} (l:List ITok) (h:t.1=2):clos 1 most (t::l)=some (1,most):=by
 rw[clos]
 simp[h]
theorem clos_close {n most:Nat} {t:ITok} (l:List ITok) (h:t.1=2) (hm:n+1≤most):clos (n+2) most (t::l)=(clos (n+1) most l).map fun x=>(x.1+1,x.2):=by
 rw[clos]
 have e:(if t.1=1 then n+2+1 else if t.1=2 then n+2-1 else n+2)=n+1:=by rw[if_neg (by omega),if_pos h];omega
 simp only[e]
 rw[if_neg (by omega),Nat.max_eq_left hm]
theorem clos_atom {n most:Nat} {t:ITok} (l:List ITok) (h1:t.1≠1) (h2:t.1≠2) (hm:n+1≤most):clos (n+1) most (t::l)=(clos (n+1) most l).map fun x=>(x.1+1,x.2):=by
 rw[clos]
 simp only[h1,h2,if_false]
 rw[if_neg (by omega),Nat.max_eq_left hm]
theorem map_shift (o:Option (Nat×Nat)) (a b:Nat):(o.map fun x=>(x.1+a,x.2)).map (fun x=>(x.1+b,x.2))=o.map fun x=>(x.1+(a+b),x.2):=by
 cases o
 ·rfl
 ·simp[Nat.add_assoc]
theorem Reads.pass {m:List ITok} {M:List Sx} (h:Reads m M):∀ (n most:Nat) (r:List ITok),n+1≤most→clos (n+1) most (m++r)=(clos (n+1) (max most (n+1+Sx.deeps M)) r).map fun x=>(x.1+m.length,x.2):=by
 induction h with
 |nil=>
  intro n most r hm
  rw[Sx.deeps,Nat.add_zero,Nat.max_eq_left hm]
  cases h:clos (n+1) most r <;> simp[h]
 |atom t l L h1 h2 _ ih=>
  intro n most r hm
  rw[List.cons_append,clos_atom _ h1 h2 hm,ih n most r hm,map_shift,Sx.deeps,Sx.deep_atom (x:=Sx.atom t) rfl,List.length_cons,Nat.zero_max]
 |list o c m l M L h1 h2 _ _ i1 i2=>
  intro n most r hm
  rw[List.cons_append,List.append_assoc,List.cons_append,clos_open _ h1,i1 (n+1) _ _ (by omega),clos_close _ h2 (by omega),i2 n _ r (by omega),map_shift,map_shift,map_shift]
  rw[Sx.deeps,Sx.deep_list (x:=Sx.node o.2.2 M) rfl]
  show Option.map _ (clos (n+1) (max (max (max most (n+1+1)) (n+1+1+Sx.deeps M)) (n+1+Sx.deeps L)) r)=Option.map _ (clos (n+1) (max most (n+1+max (Sx.deeps M+1) (Sx.deeps L))) r)
  rw[show max (max (max most (n+1+1)) (n+1+1+Sx.deeps M)) (n+1+Sx.deeps L)=max most (n+1+max (Sx.deeps M+1) (Sx.deeps L)) by omega]
  congr 1
  funext x
  rw[List.length_cons,List.length_append,List.length_cons]
  congr 1
  omega
theorem Reads.closing {m:List ITok} {M:List Sx} (h:Reads m M) {o c:ITok} (ho:o.1=1) (hc:c.1=2) (r:List ITok):clos 0 0 (o::(m++c::r))=some (m.length+2,Sx.deeps M+1):=by
 rw[clos_open _ ho,h.pass 0 _ _ (by omega),clos_last _ hc]
 simp
 omega
theorem clos_some:∀ (k:Nat) (l:List ITok) (n most:Nat),l.length≤k→n+1≤most→clos (n+1) most l≠none→∃ m M c r,l=m++c::r∧c.1=2∧Reads m M:=by
 intro k
 induction k with
 |zero=>
  intro l n most hl _ h
  obtain rfl:l=[]:=List.eq_nil_of_length_eq_zero (by omega)
  exact absurd rfl h
 |succ k ih=>
  intro l n most hl hm h
  cases l with
  |nil=>exact absurd rfl h
  |cons t l=>
   rw[List.length_cons] at hl
   by_cases h2:t.1=2
   ·exact⟨[],[],t,l,rfl,h2,.nil⟩
   ·by_cases h1:t.1=1
    ·rw[clos_open _ h1] at h
     have h':clos (n+1+1) (max most (n+1+1)) l≠none:=fun e=>h (by rw[e];rfl)
     obtain⟨m,M,c,r,rfl,hc,hr⟩:=ih l (n+1) _ (by omega) (by omega) h'
     rw[hr.pass _ _ _ (by omega),clos_close _ hc (by omega)] at h'
     rw[List.length_append,List.length_cons] at hl
     obtain⟨m',M',c',r',rfl,hc',hr'⟩:=ih r n _ (by omega) (show n+1≤max (max most (n+1+1)) (n+1+1+Sx.deeps M) by omega) (fun e=>h' (by rw[e];rfl))
     exact⟨t::(m++c::m'),_,c',r',by simp,hc',.list t c m m' M M' h1 hc hr hr'⟩
    ·rw[clos_atom _ h1 h2 hm] at h
     obtain⟨m,M,c,r,rfl,hc,hr⟩:=ih l n most (by omega) hm (fun e=>h (by rw[e];rfl))
     exact⟨t::m,_,c,r,rfl,hc,.atom t m M h1 h2 hr⟩
theorem clos_reads {o:ITok} {l:List ITok} {s d:Nat} (ho:o.1=1) (h:clos 0 0 (o::l)=some (s,d)):∃ m M c r,l=m++c::r∧c.1=2∧Reads m M∧s=m.length+2∧d=Sx.deeps M+1:=by
 have h':=h
 rw[clos_open _ ho] at h'
 obtain⟨m,M,c,r,rfl,hc,hr⟩:=clos_some l.length l 0 1 (Nat.le_refl _) (by omega) (fun e=>by rw[show max 0 (0+1)=1 from rfl,e] at h';cases h')
 rw[hr.closing ho hc r] at h
 injection h with h
 injection h with h1 h2
 exact⟨m,M,c,r,rfl,hc,hr,h1.symm,h2.symm⟩
theorem Reads.split {m m':List ITok} {M M':List Sx} (h:Reads m M) (h':Reads m' M') {c c':ITok} {l l':List ITok} (hc:c.1=2) (hc':c'.1=2) (e:m++c::l=m'++c'::l'):m=m'∧c=c'∧l=l':=by
 have h1:=h.closing (o:=(1,ByteArray.empty,0)) rfl hc l
 have h2:=h'.closing (o:=(1,ByteArray.empty,0)) rfl hc' l'
 rw[e,h2] at h1
 injection h1 with h1
 injection h1 with h1 _
 obtain⟨e1,e2⟩:=List.append_inj e (by omega)
 injection e2 with e2 e3
 exact⟨e1,e2,e3⟩
theorem Reads.inv {t:ITok} {l:List ITok} {M:List Sx} (h:Reads (t::l) M):(t.1≠1∧t.1≠2∧∃ L,M=Sx.atom t::L∧Reads l L)∨(t.1=1∧∃ c m M' l' L,l=m++c::l'∧c.1=2∧Reads m M'∧M=Sx.node t.2.2 M'::L∧Reads l' L):=by
 cases h with
 |atom _ _ L h1 h2 h3=>exact .inl ⟨h1,h2,L,rfl,h3⟩
 |list _ c m l' M' L h1 h2 h3 h4=>exact .inr ⟨h1,c,m,M',l',L,rfl,h2,h3,rfl,h4⟩
theorem Reads.uniq {m:List ITok} {M:List Sx} (h:Reads m M):∀ M',Reads m M'→M=M':=by
 induction h with
 |nil=>intro M' h';cases h';rfl
 |atom t l L h1 h2 _ ih=>
  intro M' h'
  rcases h'.inv with⟨_,_,L',rfl,h4⟩|⟨h3,_⟩
  ·rw[ih L' h4]
  ·exact absurd h3 h1
 |list o c m l M L h1 h2 h3 _ i1 i2=>
  intro M' h'
  rcases h'.inv with⟨h4,_⟩|⟨_,c',m',N,l',L',e,hc',hr',rfl,hr2⟩
  ·exact absurd h1 h4
  ·obtain⟨rfl,rfl,rfl⟩:=h3.split hr' h2 hc' e
   rw[i1 N hr',i2 L' hr2]
theorem Reads.app {m m':List ITok} {M M':List Sx} (h:Reads m M) (h':Reads m' M'):Reads (m++m') (M++M'):=by
 induction h with
 |nil=>exact h'
 |atom t l L h1 h2 _ ih=>exact .atom t _ _ h1 h2 ih
 |list o c m l M L h1 h2 h3 _ _ i2=>
  rw[List.cons_append,List.append_assoc,List.cons_append,List.cons_append]
  exact .list o c m _ M _ h1 h2 h3 i2
inductive Says (z:Int):List ITok→List SItem→Prop
 |nil:Says z [] []
 |close (t:ITok) (l:List ITok) (I:List SItem):t.1=2→Says z l I→Says z (t::l) (⟨Sx.zero,60,t.2.2⟩::I)
 |atom (t:ITok) (l:List ITok) (I:List SItem):t.1≠1→t.1≠2→Says z l I→Says z (t::l) (⟨Sx.atom t,0,t.2.2⟩::I)
 |ends (t:ITok) (l:List ITok):t.1=1→clos 0 0 (t::l)=none→Says z (t::l) [⟨Sx.zero,51,z⟩]
 |deep (o c:ITok) (m l:List ITok) (M:List Sx) (I:List SItem):o.1=1→c.1=2→Reads m M→64<Sx.deeps M+1→Says z l I→Says z (o::(m++c::l)) (⟨Sx.zero,2,o.2.2⟩::I)
 |list (o c:ITok) (m l:List ITok) (M:List Sx) (I:List SItem):o.1=1→c.1=2→Reads m M→¬64<Sx.deeps M+1→Says z l I→Says z (o::(m++c::l)) (⟨Sx.node o.2.2 M,0,o.2.2⟩::I)
theorem Says.inv {z:Int} {t:ITok} {l:List ITok} {I:List SItem} (h:Says z (t::l) I):
  (t.1=2∧∃ J,I=⟨Sx.zero,60,t.2.2⟩::J∧Says z l J)∨(t.1≠1∧t.1≠2∧∃ J,I=⟨Sx.atom t,0,t.2.2⟩::J∧Says z l J)∨(t.1=1∧clos 0 0 (t::l)=none∧I=[⟨Sx.zero,51,z⟩])∨
  (t.1=1∧∃ c m l' M J,l=m++c::l'∧c.1=2∧Reads m M∧Says z l' J∧I=(if 64<Sx.deeps M+1 then⟨Sx.zero,2,t.2.2⟩ else⟨Sx.node t.2.2 M,0,t.2.2⟩)::J):=by
 cases h with
 |close _ _ J h1 h2=>exact .inl ⟨h1,J,rfl,h2⟩
 |atom _ _ J h1 h2 h3=>exact .inr (.inl ⟨h1,h2,J,rfl,h3⟩)
 |ends _ _ h1 h2=>exact .inr (.inr (.inl ⟨h1,h2,rfl⟩))
 |deep _ c m l' M J h1 h2 h3 h4 h5=>exact .inr (.inr (.inr ⟨h1,c,m,l',M,J,rfl,h2,h3,h5,by rw[if_pos h4]⟩))
 |list _ c m l' M J h1 h2 h3 h4 h5=>exact .inr (.inr (.inr ⟨h1,c,m,l',M,J,rfl,h2,h3,h5,by rw[if_neg h4]⟩))
theorem Says.uniq {z:Int}:∀ (k:Nat) (l:List ITok) (I J:List SItem),l.length≤k→Says z l I→Says z l J→I=J:=by
 intro k
 induction k with
 |zero=>
  intro l I J hl h h'
  obtain rfl:l=[]:=List.eq_nil_of_length_eq_zero (by omega)
  cases h
  cases h'
  rfl
 |succ k ih=>
  intro l I J hl h h'
  cases l with
  |nil=>
   cases h
   cases h'
   rfl
  |cons t l=>
   rw[List.length_cons] at hl
   rcases h.inv with⟨h1,I',rfl,h2⟩|⟨h1,h2,I',rfl,h3⟩|⟨h1,h2,rfl⟩|⟨h1,c,m,l',M,I',rfl,hc,hr,h3,rfl⟩
   ·rcases h'.inv with⟨_,J',rfl,g2⟩|⟨g1,g2,_⟩|⟨g1,_⟩|⟨g1,_⟩
    ·rw[ih l I' J' (by omega) h2 g2]
    ·exact absurd h1 g2
    ·exact absurd (g1.symm.trans h1) (by decide)
    ·exact absurd (g1.symm.trans h1) (by decide)
   ·rcases h'.inv with⟨g1,_⟩|⟨_,_,J',rfl,g3⟩|⟨g1,_⟩|⟨g1,_⟩
    ·exact absurd g1 h2
    ·rw[ih l I' J' (by omega) h3 g3]
    ·exact absurd g1 h1
    ·exact absurd g1 h1
   ·rcases h'.inv with⟨g1,_⟩|⟨g1,_⟩|⟨_,_,rfl⟩|⟨_,c,m,l',M,J',rfl,hc,hr,_⟩
    ·exact absurd (h1.symm.trans g1) (by decide)
    ·exact absurd h1 g1
    ·rfl
    ·rw[hr.closing h1 hc l'] at h2
     cases h2
   ·rcases h'.inv with⟨g1,_⟩|⟨g1,_⟩|⟨_,g2,_⟩|⟨_,c',m',l'',M',J',e,hc',hr',g3,rfl⟩
    ·exact absurd (h1.symm.trans g1) (by decide)
    ·exact absurd h1 g1
    ·rw[hr.closing h1 hc l'] at g2
     cases g2
    ·obtain⟨rfl,rfl,rfl⟩:=hr.split hr' hc hc' e
     rw[hr.uniq M' hr']
     rw[List.length_append,List.length_cons] at hl
     rw[ih l' I' J' (by omega) h3 g3]
end Go.Proofs.YtcgaeknikfaghaaGreatDoor
namespace Go.Proofs.YtcgaeknikfaghaaGreatDoor
mutual
def Sx.cnt:Sx→List Nat
 |⟨list,_,_,_,_,L⟩=>if list then L.length::(Sx.cnts L++[0]) else[0]
def Sx.cnts:List Sx→List Nat
 |[]=>[]
 |x::l=>Sx.cnt x++Sx.cnts l
end
def atP (i:Nat):List Nat→Nat→Nat
 |[],_=>0
 |x::c,q=>(if q=i then x else 0)+atP (i+1) c q
theorem atP_app:∀ (c d:List Nat) (i q:Nat),atP i (c++d) q=atP i c q+atP (i+c.length) d q
 |[],d,i,q=>by simp[atP]
 |x::c,d,i,q=>by rw[List.cons_append,atP,atP,atP_app c d,List.length_cons,show i+1+c.length=i+(c.length+1) by omega];omega
theorem atP_below:∀ (c:List Nat) (i q:Nat),q<i→atP i c q=0
 |[],_,_,_=>rfl
 |x::c,i,q,h=>by rw[atP,if_neg (by omega),atP_below c (i+1) q (by omega)]
theorem atP_get:∀ (c:List Nat) (i q:Nat),q<c.length→c[q]?=some (atP i c (i+q))
 |[],i,q,h=>by simp at h
 |x::c,i,0,h=>by rw[atP,Nat.add_zero,if_pos rfl,atP_below c (i+1) i (by omega)];rfl
 |x::c,i,q+1,h=>by
  rw[atP,if_neg (by omega),List.getElem?_cons_succ,atP_get c (i+1) q (by simpa using h),show i+1+q=i+(q+1) by omega,Nat.zero_add]
theorem Sx.cnts_atom (t:ITok) (L:List Sx):Sx.cnts (Sx.atom t::L)=0::Sx.cnts L:=by
 rw[Sx.cnts,Sx.atom,Sx.cnt,if_neg (by decide)]
 rfl
theorem Sx.cnts_node (a:Int) (M L:List Sx):Sx.cnts (Sx.node a M::L)=M.length::(Sx.cnts M++0::Sx.cnts L):=by
 rw[Sx.cnts,Sx.node,Sx.cnt,if_pos rfl]
 simp
theorem Reads.cnts_len {m:List ITok} {M:List Sx} (h:Reads m M):(Sx.cnts M).length=m.length:=by
 induction h with
 |nil=>rfl
 |atom t l L _ _ _ ih=>rw[Sx.cnts,Sx.atom,Sx.cnt,if_neg (by decide),List.length_append,ih];simp;omega
 |list o c m l M L _ _ _ _ i1 i2=>
  rw[Sx.cnts,Sx.node,Sx.cnt,if_pos rfl,List.length_append,i2,List.length_cons,List.length_append,i1]
  simp
  omega
def crun:List ITok→Nat→(Nat→Nat)→List Nat→Nat→Option ((Nat→Nat)×Nat)
 |[],_,h,_,a=>some (h,a)
 |t::l,i,h,o,a=>
  if t.1=2 then
   match o with
   |[]=>none
   |_::o=>crun l (i+1) h o a
  else
   match o with
   |[]=>if t.1=1 then crun l (i+1) h [i] a else none
   |j::o=>if t.1=1 then crun l (i+1) (fun q=>h q+if q=j then 1 else 0) (i::j::o) (a+1) else crun l (i+1) (fun q=>h q+if q=j then 1 else 0) (j::o) (a+1)
theorem Reads.crun {m:List ITok} {M:List Sx} (h:Reads m M):∀ (i:Nat) (f:Nat→Nat) (j:Nat) (o:List Nat) (a:Nat) (r:List ITok),
  crun (m++r) i f (j::o) a=Go.Proofs.YtcgaeknikfaghaaGreatDoor.crun r (i+m.length) (fun q=>f q+(if q=j then M.length else 0)+atP i (Sx.cnts M) q) (j::o) (a+Sx.sizes M):=by
 induction h with
 |nil=>
  intro i f j o a r
  rw[List.nil_append,List.length_nil,Nat.add_zero,Sx.cnts,Sx.sizes,Nat.add_zero]
  congr 1
  funext q
  rw[atP,List.length_nil]
  split <;> rfl
 |atom t l L h1 h2 _ ih=>
  intro i f j o a r
  rw[List.cons_append,Go.Proofs.YtcgaeknikfaghaaGreatDoor.crun,if_neg h2]
  rw[if_neg h1,ih,List.length_cons,Sx.sizes,Sx.size_eq]
  have e1:i+1+l.length=i+(l.length+1):=by omega
  have e2:a+1+Sx.sizes L=a+(Sx.sizes (Sx.atom t).L+1+Sx.sizes L):=by
   show _=a+(0+1+Sx.sizes L)
   omega
  rw[e1,e2]
  congr 1
  funext q
  rw[Sx.cnts_atom,atP,List.length_cons]
  split <;> simp <;> omega
 |list o' c m l M L h1 h2 _ _ i1 i2=>
  intro i f j o a r
  rw[List.cons_append,List.append_assoc,List.cons_append,Go.Proofs.YtcgaeknikfaghaaGreatDoor.crun,if_neg (by omega)]
  rw[if_pos h1,i1,Go.Proofs.YtcgaeknikfaghaaGreatDoor.crun,if_pos h2]
  rw[i2,List.length_cons,List.length_append,List.length_cons,Sx.sizes,Sx.size_eq]
  have e1:i+1+m.length+1+l.length=i+(m.length+(l.length+1)+1):=by omega
  have e2:a+1+Sx.sizes M+Sx.sizes L=a+(Sx.sizes (Sx.node o'.2.2 M).L+1+Sx.sizes L):=by
   show _=a+(Sx.sizes M+1+Sx.sizes L)
   omega
  rw[e1,e2]
  congr 1
  funext q
  have hl:=Reads.cnts_len (by assumption:Reads m M)
  rw[Sx.cnts_node,atP,atP_app,atP,List.length_cons,hl]
  split <;> split <;> simp <;> omega
theorem crun_all {m:List ITok} {M:List Sx} (h:Reads m M) {o c:ITok} (ho:o.1=1) (hc:c.1=2):crun (o::(m++[c])) 0 (fun _=>0) [] 0=some (fun q=>atP 0 (M.length::(Sx.cnts M++[0])) q,Sx.sizes M):=by
 rw[crun,if_neg (by omega)]
 rw[if_pos ho,h.crun,crun,if_pos hc]
 rw[crun,Nat.zero_add,Nat.zero_add]
 congr 2
 funext q
 rw[atP,atP_app,atP,atP]
 split <;> simp
structure PFr where
 at_:Int
 st:Nat
 n:Nat
 L:List Sx
def PFr.add (f:PFr) (x:Sx):PFr:={ f with L:=f.L++[x] }
def lrun (all:Nat) (H:Nat→Nat):List ITok→Nat→Nat→List PFr→Option Sx
 |[],_,_,_=>none
 |t::l,i,used,frs=>
  if t.1=1 then(if used+H i≤all then lrun all H l (i+1) (used+H i) (⟨t.2.2,used,H i,[]⟩::frs) else none)
  else if t.1=2 then
   match frs with
   |[]=>none
   |[f]=>some (Sx.node f.at_ f.L)
   |f::g::frs=>if g.L.length<g.n then lrun all H l (i+1) used (g.add (Sx.node f.at_ f.L)::frs) else none
  else
   match frs with
   |[]=>none
   |f::frs=>if f.L.length<f.n then lrun all H l (i+1) used (f.add (Sx.atom t)::frs) else none
section
variable {all : Nat} {H : Nat → Nat} {t : ITok} {l : List ITok} {i used : Nat}
theorem lrun_open {frs:List PFr} (h:t.1=1):lrun all H (t::l) i used frs=if used+H i≤all then lrun all H l (i+1) (used+H i) (⟨t.2.2,used,H i,[]⟩::frs) else none:=by
 rw[lrun.eq_def]
 simp only[h,if_true]
theorem lrun_last {f:PFr} (h:t.1=2):lrun all H (t::l) i used [f]=some (Sx.node f.at_ f.L):=by
 rw[lrun.eq_def]
 simp[h]
theorem lrun_none (h1:t.1≠1):lrun all H (t::l) i used []=none:=by
 rw[lrun.eq_def]
 simp[h1]
theorem lrun_close {f g:PFr} {frs:List PFr} (h:t.1=2):lrun all H (t::l) i used (f::g::frs)=if g.L.length<g.n then lrun all H l (i+1) used (g.add (Sx.node f.at_ f.L)::frs) else none:=by
 rw[lrun.eq_def]
 simp[h]
theorem lrun_atom {f:PFr} {frs:List PFr} (h1:t.1≠1) (h2:t.1≠2):lrun all H (t::l) i used (f::frs)=if f.L.length<f.n then lrun all H l (i+1) used (f.add (Sx.atom t)::frs) else none:=by
 rw[lrun.eq_def]
 simp[h1,h2]
end
theorem Sx.len_sizes (M:List Sx):M.length≤Sx.sizes M:=Sx.sizes_length M
theorem Reads.lrun {all:Nat} {H:Nat→Nat} {m:List ITok} {M:List Sx} (h:Reads m M):∀ (i used:Nat) (f:PFr) (frs:List PFr) (r:List ITok),
  (∀ q,q<m.length→(Sx.cnts M)[q]?=some (H (i+q)))→used+(Sx.sizes M-M.length)≤all→f.L.length+M.length≤f.n→
  Go.Proofs.YtcgaeknikfaghaaGreatDoor.lrun all H (m++r) i used (f::frs)=Go.Proofs.YtcgaeknikfaghaaGreatDoor.lrun all H r (i+m.length) (used+(Sx.sizes M-M.length)) ({ f with L:=f.L++M }::frs):=by
 induction h with
 |nil=>
  intro i used f frs r _ _ _
  simp[Sx.sizes]
 |atom t l L h1 h2 h3 ih=>
  intro i used f frs r hH hu hf
  have hs:Sx.sizes (Sx.atom t::L)=Sx.sizes L+1:=by rw[Sx.sizes,Sx.size_eq];show 0+1+_=_;omega
  have hL:=Sx.len_sizes L
  rw[hs,List.length_cons] at hu
  rw[List.length_cons] at hf
  rw[List.cons_append,lrun_atom h1 h2,if_pos (by omega),ih (i+1) used (f.add (Sx.atom t)) frs r ?_ (by omega) (by simp[PFr.add];omega)]
  ·rw[hs,List.length_cons,List.length_cons,show i+1+l.length=i+(l.length+1) by omega,show Sx.sizes L+1-(L.length+1)=Sx.sizes L-L.length by omega]
   simp[PFr.add]
  ·intro q hq
   have:=hH (q+1) (by simp;omega)
   rw[Sx.cnts,Sx.atom,Sx.cnt,if_neg (by decide)] at this
   rw[show i+1+q=i+(q+1) by omega]
   simpa using this
 |list o' c m l M L h1 h2 h3 h4 i1 i2=>
  intro i used f frs r hH hu hf
  have hs:Sx.sizes (Sx.node o'.2.2 M::L)=Sx.sizes M+1+Sx.sizes L:=by rw[Sx.sizes,Sx.size_eq];rfl
  have hM:=Sx.len_sizes M
  have hL:=Sx.len_sizes L
  have hl:=h3.cnts_len
  rw[hs,List.length_cons] at hu
  rw[List.length_cons] at hf
  rw[Sx.cnts,Sx.node,Sx.cnt,if_pos rfl] at hH
  have hH0:H i=M.length:=by
   have:=hH 0 (by simp)
   simp at this
   omega
  rw[List.cons_append,List.append_assoc,List.cons_append,lrun_open h1,hH0,if_pos (by omega)]
  rw[i1 (i+1) (used+M.length) ⟨o'.2.2,used,M.length,[]⟩ (f::frs) _ ?_ (by omega) (by simp)]
  ·rw[List.nil_append,lrun_close h2,if_pos (by omega),i2 _ _ (f.add (Sx.node o'.2.2 M)) frs r ?_ (by omega) (by simp[PFr.add];omega)]
   ·rw[hs,List.length_cons,List.length_cons,List.length_append,List.length_cons,show i+1+m.length+1+l.length=i+(m.length+(l.length+1)+1) by omega,
     show used+M.length+(Sx.sizes M-M.length)+(Sx.sizes L-L.length)=used+(Sx.sizes M+1+Sx.sizes L-(L.length+1)) by omega]
    simp[PFr.add]
   ·intro q hq
    have:=hH (m.length+2+q) (by simp;omega)
    rw[List.getElem?_append_right (by simp;omega)] at this
    simp only[List.length_cons,List.length_append,List.length_nil,hl] at this
    rw[show m.length+2+q-(m.length+(0+1)+1)=q by omega] at this
    rw[this,show i+1+m.length+1+q=i+(m.length+2+q) by omega]
  ·intro q hq
   have:=hH (q+1) (by simp;omega)
   rw[List.getElem?_append_left (by simp;omega),List.getElem?_cons_succ,List.getElem?_append_left (by omega)] at this
   rw[this,show i+1+q=i+(q+1) by omega]
theorem lrun_all {m:List ITok} {M:List Sx} (h:Reads m M) {o c:ITok} (ho:o.1=1) (hc:c.1=2):lrun (Sx.sizes M) (fun q=>atP 0 (M.length::(Sx.cnts M++[0])) q) (o::(m++[c])) 0 0 []=some (Sx.node o.2.2 M):=by
 have hM:=Sx.len_sizes M
 have h0:atP 0 (M.length::(Sx.cnts M++[0])) 0=M.length:=by
  rw[atP,if_pos rfl,atP_below _ _ _ (by omega)]
  rfl
 rw[lrun_open ho,h0,if_pos (by omega),h.lrun _ _ _ _ _ ?_ (by omega) (by simp),lrun_last hc]
 ·rfl
 ·intro q hq
  have:=atP_get (M.length::(Sx.cnts M++[0])) 0 (q+1) (by simp[h.cnts_len];omega)
  rw[List.getElem?_cons_succ,List.getElem?_append_left (by rw[h.cnts_len];exact hq)] at this
  rw[this,show 0+1+q=0+(q+1) by omega]
end Go.Proofs.YtcgaeknikfaghaaGreatDoor
namespace Go.Proofs.YtcgaeknikfaghaaGreatDoor
mutual
def Sx.text:Sx→Option (List UInt8)
 |⟨list,k,T,_,_,L⟩=>if list then(Sx.texts true L).map fun t=>40::(t++[41]) else if !decide (k=1)&&!decide (k=2)&&L.isEmpty&&Lx.okShow k T.data.toList then some (Lx.show k T.data.toList) else none
def Sx.texts:Bool→List Sx→Option (List UInt8)
 |_,[]=>some []
 |f,x::l=>match Sx.text x with
  |none=>none
  |some t=>(Sx.texts false l).map fun r=>(if f then[] else[32])++t++r
end
theorem Sx.text_list {x:Sx} (h:x.list=true):x.text=(Sx.texts true x.L).map fun t=>40::(t++[41]):=by
 cases x
 subst h
 rw[Sx.text,if_pos rfl]
theorem Sx.text_atom {x:Sx} (h:x.list=false):x.text=if !decide (x.k=1)&&!decide (x.k=2)&&x.L.isEmpty&&Lx.okShow x.k x.T.data.toList then some (Lx.show x.k x.T.data.toList) else none:=by
 cases x
 subst h
 rw[Sx.text,if_neg (by decide)]
mutual
def Sx.wide:Sx→Nat
 |⟨_,_,T,_,_,L⟩=>max T.size (Sx.wides L)
def Sx.wides:List Sx→Nat
 |[]=>0
 |x::l=>max (Sx.wide x) (Sx.wides l)
end
theorem Sx.wide_eq (x:Sx):x.wide=max x.T.size (Sx.wides x.L):=by cases x;rw[Sx.wide]
theorem Sx.wide_mem {l:List Sx} {x:Sx} (h:x∈l):x.wide≤Sx.wides l:=by
 induction l with
 |nil=>cases h
 |cons y l ih=>
  rw[Sx.wides]
  rcases List.mem_cons.1 h with rfl|h
  ·omega
  ·have:=ih h
   omega
theorem Lx.ok_len {k:Int} {s:List UInt8} (h:Lx.okShow k s=true):(Lx.show k s).length≤16384:=(Lx.okShow_whole h).2
theorem Sx.text_len:∀ (n:Nat) (x:Sx) (t:List UInt8),x.size≤n→x.text=some t→t.length+1≤16388*x.size:=by
 intro n
 induction n with
 |zero=>
  intro x t h
  exact absurd x.size_pos (by omega)
 |succ n ih=>
  intro x t h ht
  cases hx:x.list
  ·rw[Sx.text_atom hx] at ht
   split at ht
   ·rename_i hc
    injection ht with ht
    rw[Bool.and_eq_true] at hc
    have h1:=Lx.ok_len hc.2
    have h2:=x.size_pos
    rw[←ht]
    omega
   ·cases ht
  ·rw[Sx.text_list hx] at ht
   obtain⟨r,hr,rfl⟩:=Option.map_eq_some_iff.1 ht
   have hl:∀ (l:List Sx) (f:Bool) (r:List UInt8),(∀ y∈l,y.size≤n)→Sx.texts f l=some r→r.length≤16388*Sx.sizes l:=by
    intro l
    induction l with
    |nil=>
     intro f r _ h
     rw[Sx.texts] at h
     injection h with h
     rw[←h]
     simp
    |cons y l ihl=>
     intro f r hy h
     rw[Sx.texts] at h
     cases e:y.text with
     |none=>rw[e] at h;cases h
     |some ty=>
      rw[e] at h
      simp only at h
      obtain⟨r',hr',rfl⟩:=Option.map_eq_some_iff.1 h
      have h1:=ih y ty (hy y List.mem_cons_self) e
      have h2:=ihl false r' (fun z hz=>hy z (List.mem_cons_of_mem _ hz)) hr'
      rw[Sx.sizes]
      have hp:=y.size_pos
      split <;> simp <;> omega
   have hz:∀ y∈x.L,y.size≤n:=fun y hy=>by
    have:=Sx.size_lt hy
    omega
   have h3:=hl x.L true r hz hr
   rw[x.size_eq]
   simp
   omega
theorem Sx.texts_cons (f:Bool) (x:Sx) (l:List Sx):Sx.texts f (x::l)=match Sx.text x with
 |none=>none
 |some t=>(Sx.texts false l).map fun r=>(if f then[] else[32])++t++r:=by rw[Sx.texts]
end Go.Proofs.YtcgaeknikfaghaaGreatDoor
