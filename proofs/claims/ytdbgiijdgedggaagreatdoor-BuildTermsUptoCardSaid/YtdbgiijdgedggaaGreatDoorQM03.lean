import Derived.Test.YtdbgiijdgedggaaGreatDoorQM02
import Derived.Shelf.Strconv.Itoa0
import Derived.Shelf.Strconv.Itoa1
import Derived.Shelf.LaysM
import Derived.Shelf.Strconv.Itoa2
import Derived.Shelf.Strconv.Clone
import Derived.Shelf.Strconv.SyntaxError
import Derived.Shelf.LaysC
import Derived.Shelf.Strconv.ToError
import Derived.Shelf.Strings.Search1
import Derived.Shelf.Strings.Search2
import Derived.Shelf.Strings.Cut
import Derived.Shelf.Strings.Shaped
import Derived.Shelf.Strconv.AppendUint10
import Derived.Shelf.Strconv.AppendInt10
import Derived.Shelf.Strconv.AppendIntPublic10
import Derived.Shelf.Strings.Prefix
import Derived.Ground.Names2Prog
import Derived.Shelf.Slices.SearchI
import Derived.Shelf.Slices.Empties
import Derived.Test.YtdbgiijdgedggaaGreatDoorProg
set_option linter.unusedSimpArgs false
set_option linter.unusedVariables false
set_option maxRecDepth 100000
set_option maxHeartbeats 25600000
namespace Go.Proofs.YtdbgiijdgedggaaGreatDoor
open Go.RowKit
noncomputable def Tx.ox (R:List (Int×Int)):Bool:=@decide (Tx.May R) (Classical.propDecidable _)
theorem Tx.mP {R:List (Int×Int)} (h:Tx.May R):Tx.ox R=true:=@FW _ (Classical.propDecidable _) h
theorem Tx.fG {R:List (Int×Int)} (h:¬Tx.May R):Tx.ox R=false:=@Gq _ (Classical.propDecidable _) h
theorem Tx.Own.take {R:List (Int×Int)} (h:Tx.Own R) (i:Nat):Tx.Own (R.take i):=
 ⟨fun x J=>h.pos x (GN J),fun j x y r I=>by
  rw[GQ] at r I
  split at r
  ·split at I
   ·exact h.Bw j x y r I
   ·cases I
  ·cases r⟩
theorem Tx.Own.nil:Tx.Own []:=⟨fun _ h=>absurd h FD,fun i x y h=>by simp at h⟩
theorem Tx.Own.snoc {R:List (Int×Int)} {i:Nat} {x:Int×Int} (L:R[i]?=some x) (h:Tx.Own (R.take i)) (hp:Lt.pt x.1=true) (hn:1<=x.2) (ha:∀ j y,i=j+1->R[j]?=some y->y.1≠x.1):Tx.Own (R.take (i+1)):=by
 have hl:=(Fg.1 L).1
 refine⟨fun y hy=>?_,fun j y z I r=>?_⟩
 ·rw[take_one L] at hy
  rcases F7.1 hy with hy|hy
  ·exact h.pos y hy
  ·rw[F0.1 hy]
   exact⟨hp,hn⟩
 ·have O:j+1<i+1:=by
   have:=(Fg.1 r).1
   rw[FK] at this
   omega
  rw[GQ,Fx (by omega)] at I r
  by_cases J:j+1=i
  ·subst J
   obtain rfl:=Fk (L.symm.trans r)
   exact ha j y rfl I
  ·exact h.Bw j y z (by rw[GQ,Fx (by omega)];exact I) (by rw[GQ,Fx (by omega)];exact r)
theorem Tx.qj {R:List (Int×Int)} {i:Nat} {x:Int×Int} (h:R[i]?=some x):Lt.total (R.take (i+1))=Lt.total (R.take i)+x.2:=by
 rw[take_one h,Lt.dh,Lt.total,Lt.total]
 omega
theorem Tx.May.part {R:List (Int×Int)} (h:Tx.May R) (i:Nat):Lt.total (R.take i)<=1099511627776:=by
 have e:Lt.total (R.take i)+Lt.total (R.drop i)=Lt.total R:=by rw[<-Lt.dh,FM]
 have:=Lt.fw (R:=R.drop i) fun x r=>Int.not_lt.2 (h.own.pos x (List.mem_of_mem_drop r)).2
 have:=h.most
 omega
theorem DC (w:World) (A:Option Addr) (n c:Nat) (R:List (Int×Int)) (h:cd w A n R):
  Calls Tryz.prog 108 #[.slice A n c] w fun e w'=>e=.returned (.bool (Tx.ox R))/\Below w.heap.size w w':=by
 have HH:=Gn h
 have hlen:=h.len
 clear h
 by_cases hl:65536<n
 ·have ba:(65536:Int)<(n:Int):=by omega
  rw[Tx.fG fun h=>by have:=h.few;omega]
  clear hl hlen HH
  go_enter Tryz.func108,Tryz.ntmps108
  go_wp2
  go_ret
  exact⟨rfl,Gp _ w⟩
 have ba:¬(65536:Int)<(n:Int):=by omega
 have bl:n<=65536:=by omega
 obtain⟨X,HX⟩:∃ X,Hid (Tx.ox R=X):=⟨_,rfl⟩
 rw[HX.out]
 have HF:Hid (¬Tx.May R->X=false):=fun h=>HX.out▸Tx.fG h
 have HT:Hid (Tx.May R->X=true):=fun h=>HX.out▸Tx.mP h
 have I:=Gn hlen
 clear hl hlen HX
 go_enter Tryz.func108,Tryz.ntmps108
 go_wp2
 go_loopw [3,4] (fun sv iv wr=>∃ (i:Nat) (s:Int),i<=n/\iv=.int .i64 (i:Nat)/\sv=.int .i64 s/\0<=s/\s<=1099511627776/\Hid (Below w.heap.size w wr/\Tx.Own (R.take i)/\Lt.total (R.take i)=s)) (fun _ iv _=>n-(intOf iv).toNat)
 case atStart=>exact⟨0,0,Fz _,rfl,rfl,Int.le_refl _,by decide,Gp _ _,Tx.Own.nil,rfl⟩
 case round=>
  obtain⟨i,s,hi,rfl,rfl,bP,bT,HI⟩:=hrel
  obtain⟨J,O,U⟩:=HI.out
  by_cases bb:i<n
  ·obtain⟨b,off,⟨x1,r⟩,rfl,hx,L,_,hc⟩:=HH.out.get bb
   obtain⟨q1,q2,q3⟩:=hc wr J
   have bp:(i:Int)<(n:Int):=by omega
   have h0:(0:Int)<=(i:Int):=by omega
   have V:=Gn (ze x1 wr)
   have Z:Hid (∀ k,Below w.heap.size w (wr.drewN k)):=fun k=>J.trans ((ae.none_ ((ae.refl (fun _=>False) wr).drewN k) (fun _=>id)).mono J.size)
   have ht:=Tx.qj hx
   rw[U] at ht
   have bx:IntKind.i64.wrap (1099511627776-s)=1099511627776-s:=GR _ (by omega)
   by_cases Q:Lt.pt x1=true/\1<=r/\r<=1099511627776-s
   case neg=>
    have hX:=HF.out fun h=>Q ⟨(h.own.pos _ L).1,(h.own.pos _ L).2,by have:=h.part (i+1);simp only at ht;omega⟩
    subst hX
    have av:Lt.pt x1=false\/Lt.pt x1=true/\r<1\/Lt.pt x1=true/\1<=r/\1099511627776-s<r:=by
     by_cases e:Lt.pt x1=true
     ·by_cases e2:1<=r
      ·exact .inr (.inr ⟨e,e2,Int.not_le.1 fun h=>Q ⟨e,e2,h⟩⟩)
      ·exact .inr (.inl ⟨e,by omega⟩)
     ·exact .inl (GU.2 e)
    clear J O U HI hx L hc ht Q HF HT I HH
    rcases av with hp|⟨hp,h2⟩|⟨hp,h2,h3⟩
    all_goals
     rw[hp] at V
     clear hp
     go_wp2_with (go_at_call 144;refine V.out.mono ?_;rintro e w2 ⟨rfl,rfl⟩)
     try have d1:decide (r<1)=false:=Gq (by omega)
     try have d2:decide (r<1)=true:=FW (by omega)
     try have d3:decide (1099511627776-s<r)=true:=FW (by omega)
     go_quiet (fail)
     go_wp2
     go_ret
     exact⟨rfl,Z.out _⟩
   case pos=>
    obtain⟨hp,h2,h3⟩:=Q
    rw[hp] at V
    have a1:0<=s+r:=by omega
    have a7:s+r<=1099511627776:=by omega
    have bo:IntKind.i64.wrap (s+r)=s+r:=GR _ (by omega)
    by_cases ao:i=0
    ·have HO:Hid (Tx.Own (R.take (i+1))/\Lt.total (R.take (i+1))=s+r):=⟨Tx.Own.snoc hx O hp h2 (fun j y e=>by omega),ht⟩
     have b1:¬0<i:=by omega
     clear J O U HI hx L hc ht HF HT I HH hp ao
     go_wp2_with (go_at_call 144;refine V.out.mono ?_;rintro e w2 ⟨rfl,rfl⟩)
     have d1:decide (r<1)=false:=Gq (by omega)
     have d3:decide (1099511627776-s<r)=false:=Gq (by omega)
     go_quiet (fail)
     go_wp2
     go_roundw
     case rel=>exact⟨i+1,s+r,by omega,by go_num,by go_num,a1,a7,Z.out _,HO.out⟩
     case measure=>simp[intOf];omega
    ·obtain⟨j,hj⟩:∃ j,i=j+1:=⟨i-1,by omega⟩
     obtain⟨b',bz,⟨y1,y2⟩,e,hy,_,_,ah⟩:=HH.out.get (i:=j) (by omega)
     injection e with e
     injection e with e1 e2
     subst e1
     subst e2
     obtain⟨_,q4,q5⟩:=ah wr J
     have bB:(i:Int)-1=(j:Int):=by omega
     have bC:0<i:=by omega
     have bE:(j:Int)<(n:Int):=by omega
     have bD:(0:Int)<=(j:Int):=by omega
     by_cases ad:x1=y1
     ·have hX:=HF.out fun h=>h.own.Bw j (y1,y2) (x1,r) hy (by rw[<-hj];exact hx) ad.symm
      subst hX
      subst ad
      clear J O U HI hx L hc ht HF HT I HH hp ao hy ah hj
      go_wp2_with (go_at_call 144;refine V.out.mono ?_;rintro e w2 ⟨rfl,rfl⟩)
      have d1:decide (r<1)=false:=Gq (by omega)
      have d3:decide (1099511627776-s<r)=false:=Gq (by omega)
      go_quiet (fail)
      go_wp2
      go_ret
      exact⟨rfl,Z.out _⟩
     ·have HO:Hid (Tx.Own (R.take (i+1))/\Lt.total (R.take (i+1))=s+r):=⟨Tx.Own.snoc hx O hp h2 (fun j' y e bn=>by
       have:j'=j:=by omega
       subst this
       obtain rfl:=Fk (hy.symm.trans bn)
       exact fun e=>ad e.symm),ht⟩
      have bL:(x1 == y1)=false:=Gx.2 ad
      clear J O U HI hx L hc ht HF HT I HH hp ao hy ah hj
      go_wp2_with (go_at_call 144;refine V.out.mono ?_;rintro e w2 ⟨rfl,rfl⟩)
      have d1:decide (r<1)=false:=Gq (by omega)
      have d3:decide (1099511627776-s<r)=false:=Gq (by omega)
      go_quiet (fail)
      go_wp2
      go_roundw
      case rel=>exact⟨i+1,s+r,by omega,by go_num,by go_num,a1,a7,Z.out _,HO.out⟩
      case measure=>simp[intOf];omega
  ·obtain rfl:i=n:=by omega
   rw[Gr (by rw[I.out];exact Fm _)] at O U
   have hX:=HT.out ⟨O,by rw[I.out];exact bl,by omega⟩
   subst hX
   have HB:=Gn J
   clear J O U HI HF HT I HH
   go_wp2
   go_ret
   exact⟨rfl,HB.out⟩
end Go.Proofs.YtdbgiijdgedggaaGreatDoor
namespace Go.Proofs.YtdbgiijdgedggaaGreatDoor
structure Nd where
 op:Int
 sort:Int
 a:List Int
 name:ByteArray
 num:Nat
 str:List (Int×Int)
open Classical in
noncomputable def Tm.idx (x:Nd):List Nd->Nat
 |[]=>0
 |y::l=>if y=x then 0 else Tm.idx x l+1
theorem Tm.ug {x:Nd}:∀ (l:List Nd) (i:Nat),l[i]?=some x->(∀ j,j<i->l[j]?≠some x)->Tm.idx x l=i
 |[],i,h,_=>by simp at h
 |y::l,0,h,_=>by
  have e:y=x:=by simpa using h
  rw[Tm.idx,Fx e]
 |y::l,i+1,h,hn=>by
  have e:¬y=x:=fun e=>hn 0 (Nat.succ_pos _) (by simp[e])
  rw[Tm.idx,FQ e,Tm.ug l i (by simpa using h) fun j r=>by simpa using hn (j+1) (by omega)]
theorem Tm.oz {x:Nd}:∀ {l:List Nd},x∈l->l[Tm.idx x l]?=some x/\Tm.idx x l<l.length
 |[],h=>by cases h
 |y::l,h=>by
  rw[Tm.idx]
  split
  ·rename_i e
   subst e
   simp
  ·rename_i e
   have:=Tm.oz ((FE.1 h).resolve_left fun r=>e r.symm)
   simpa using this
theorem Tm.oH {x:Nd}:∀ {l:List Nd} (m:List Nd),x∈l->Tm.idx x (l++m)=Tm.idx x l
 |[],_,h=>by cases h
 |y::l,m,h=>by
  rw[FZ,Tm.idx,Tm.idx]
  split
  ·rfl
  ·rename_i e
   rw[Tm.oH m ((FE.1 h).resolve_left fun r=>e r.symm)]
theorem Tm.nX {x:Nd}:∀ {l:List Nd},x∉l->Tm.idx x (l++[x])=l.length
 |[],_=>by simp[Tm.idx]
 |y::l,h=>by
  rw[FZ,Tm.idx,FQ fun e=>h (by simp[e]),Tm.nX fun e=>h (Gd _ e)]
  rfl
noncomputable def Tm.has (l:List Nd) (x:Nd):Bool:=@decide (x∈l) (Classical.propDecidable _)
theorem Tm.eH {l:List Nd} {x:Nd}:Tm.has l x=true↔x∈l:=by unfold Tm.has;exact @decide_eq_true_iff _ (Classical.propDecidable _)
noncomputable def Tm.add (l:List Nd) (x:Nd):List Nd×Int×Int:=
 if Tm.has l x=true then(l,((Tm.idx x l:Nat):Int),0) else if 20000<=l.length then(l,0,2) else(l++[x],(l.length:Int),0)
theorem Tm.tR {l:List Nd} {x:Nd} {i:Nat} (h:l[i]?=some x) (hn:∀ j,j<i->l[j]?≠some x):Tm.add l x=(l,(i:Int),0):=by
 rw[Tm.add,Fx (Tm.eH.2 (FP h)),Tm.ug l i h hn]
theorem Tm.p9 {l:List Nd} {x:Nd} (h:x∉l) (hl:20000<=l.length):Tm.add l x=(l,0,2):=by
 rw[Tm.add,FQ fun e=>h (Tm.eH.1 e),Fx hl]
theorem Tm.fD {l:List Nd} {x:Nd} (h:x∉l) (hl:l.length<20000):Tm.add l x=(l++[x],(l.length:Int),0):=by
 rw[Tm.add,FQ fun e=>h (Tm.eH.1 e),FQ (by omega)]
theorem Tm.ur {l:List Nd} {x:Nd} (h:∀ j:Nat,j<l.length->l[j]?≠some x):x∉l:=fun I=>by
 obtain⟨j,r,e⟩:=GV I
 exact h j r (by rw[Ge r,e])
theorem Tm.et (l:List Nd) (x:Nd):(x∈l/\Tm.add l x=(l,((Tm.idx x l:Nat):Int),0))\/(x∉l/\20000<=l.length/\Tm.add l x=(l,0,2))\/(x∉l/\l.length<20000/\Tm.add l x=(l++[x],(l.length:Int),0)):=by
 by_cases h:x∈l
 ·exact .inl ⟨h,by rw[Tm.add,Fx (Tm.eH.2 h)]⟩
 ·rcases GX l.length 20000 with e|e
  ·exact .inr (.inr ⟨h,e,Tm.fD h e⟩)
  ·exact .inr (.inl ⟨h,e,Tm.p9 h e⟩)
def Tm.asks (op:Int):Option (List Nat×Bool×Nat):=
 if op=6 then some ([66],false,66) else if 7<=op/\op<=10 then some ([66,66],true,66) else if op=11\/op=12 then some ([97,61],true,66)
 else if op=13 then some ([66,97,61],false,61) else if op=14 then some ([73],false,73) else if 15<=op/\op<=17 then some ([73,73],true,73)
 else if 18<=op/\op<=21 then some ([73,73],true,66) else if op=22 then some ([83,83],true,83) else if op=23 then some ([83],false,73)
 else if op=24 then some ([83,73],false,83) else if op=25 then some ([83,73,73],false,83) else if 26<=op/\op<=28 then some ([83,83],false,66)
 else if op=29 then some ([83,83,73],false,73) else if op=30 then some ([83,83,83],false,83) else none
def Tm.letter (s:Int):Nat:=if s=1 then 66 else if s=2 then 73 else 83
def Tm.dj (c:Nat):Int:=if c=66 then 1 else if c=73 then 2 else 3
theorem Tm.gI {s:Int} (h:1<=s) (r:s<=3):Tm.dj (Tm.letter s)=s:=by
 unfold Tm.dj Tm.letter
 have:s=1\/s=2\/s=3:=by omega
 rcases this with rfl|rfl|rfl <;> decide
theorem Tm.kP {s t:Int} (h:1<=s) (r:s<=3) (I:1<=t) (J:t<=3):Tm.letter s=Tm.letter t↔s=t:=
 ⟨fun e=>by rw[<-Tm.gI h r,e,Tm.gI I J],fun e=>by rw[e]⟩
def Tm.want (w:List Nat) (i:Nat):Nat:=w.getD (if i<w.length then i else w.length-1) 0
def Tm.cG (q last c:Nat):Bool:=!((decide (q≠97)&&decide (q≠61)&&decide (c≠q))||(decide (q=61)&&decide (c≠last)))
def Tm.fU (w:List Nat):Nat->Nat->List Nat->Bool
 |_,_,[]=>true
 |i,last,c::cs=>Tm.cG (Tm.want w i) last c&&Tm.fU w (i+1) c cs
theorem Tm.uh (w:List Nat):∀ (cs:List Nat) (i last c:Nat),Tm.fU w i last (cs++[c])=(Tm.fU w i last cs&&Tm.cG (Tm.want w (i+cs.length)) (cs.getLast?.getD last) c)
 |[],i,last,c=>by simp[Tm.fU]
 |x::cs,i,last,c=>by
  rw[FZ,Tm.fU,Tm.fU,Tm.uh w cs (i+1) x c,Bool.and_assoc]
  have e:i+1+cs.length=i+(x::cs).length:=by simp;omega
  have h:cs.getLast?.getD x=(x::cs).getLast?.getD last:=by
   cases cs with
   |nil=>rfl
   |cons y cs=>simp[List.getLast?_eq_some_getLast]
  rw[e,h]
theorem Tm.tu (w:List Nat):∀ (cs ds:List Nat) (i last:Nat),Tm.fU w i last (cs++ds)=true->Tm.fU w i last cs=true
 |[],_,_,_,_=>rfl
 |c::cs,ds,i,last,h=>by
  rw[FZ,Tm.fU,GY] at h
  rw[Tm.fU,GY]
  exact⟨h.1,Tm.tu w cs ds (i+1) c h.2⟩
def Tm.opAt (l:List Nd) (p:Int):Int:=(l[p.toNat]?.map (·.op)).getD 0
def Tm.a6 (l:List Nd) (p:Int):Nat:=Tm.letter ((l[p.toNat]?.map (·.sort)).getD 0)
def Tm.isNum (l:List Nd) (p:Int):Bool:=decide (Tm.opAt l p=4)||(decide (Tm.opAt l p=14)&&decide (Tm.opAt l (((l[p.toNat]?.map (·.a)).getD []).headD 0)=4))
def Tm.free (l:List Nd) (a:List Int):Nat:=(a.filter fun p=> !Tm.isNum l p).length
theorem Tm.pE (l:List Nd) (a:List Int) (p:Int):Tm.free l (a++[p])=Tm.free l a+if Tm.isNum l p=true then 0 else 1:=by
 unfold Tm.free
 rw[List.filter_append,Gb]
 cases h:Tm.isNum l p <;> simp[h]
def Tm.ct (l:List Nd) (a:List Int):Bool:=a.all fun p=>decide (0<=p/\p<l.length)
def Tm.own (own:Nat) (cs:List Nat):Int:=Tm.dj (if own=61 then cs.getLast?.getD 63 else own)
def Tm.node (op:Int) (own:Nat) (l:List Nd) (a:List Int):Nd:=⟨op,Tm.own own (a.map (Tm.a6 l)),a,ByteArray.empty,0,[]⟩
noncomputable def Tm.app (l:List Nd) (op:Int) (a:List Int):List Nd×Int×Int:=
 match Tm.asks op with
 |none=>(l,0,101)
 |some (w,more,own)=>
  if a.length<w.length\/(w.length<a.length/\more=false)\/200<a.length then(l,0,1)
  else if Tm.ct l a=false then(l,0,1)
  else if Tm.fU w 0 63 (a.map (Tm.a6 l))=false then(l,0,90)
  else if op=17/\1<Tm.free l a then(l,0,101)
  else Tm.add l (Tm.node op own l a)
noncomputable def Tm.const (l:List Nd) (s:ByteArray) (sort:Int):List Nd×Int×Int:=
 if sort<1\/3<sort\/16384<s.size then(l,0,1) else Tm.add l ⟨1,sort,[],s,0,[]⟩
noncomputable def Tm.bool (l:List Nd) (b:Bool):List Nd×Int×Int:=Tm.add l ⟨if b=true then 2 else 3,1,[],ByteArray.empty,0,[]⟩
noncomputable def Tm.num (l:List Nd) (z:Int):List Nd×Int×Int:=if z<0 then(l,0,1) else Tm.add l ⟨4,2,[],ByteArray.empty,z.natAbs,[]⟩
noncomputable def Tm.str (l:List Nd) (t:List (Int×Int)):List Nd×Int×Int:=if Tx.ox t=true then Tm.add l ⟨5,3,[],ByteArray.empty,0,t⟩ else(l,0,1)
structure Tm.Inv (l:List Nd):Prop where
 sort:∀ x∈l,1<=x.sort/\x.sort<=3
 part:∀ (i:Nat) x,l[i]?=some x->∀ p∈x.a,0<=p/\p<i
 neg:∀ x∈l,x.op=14->x.a≠[]
 once:l.Nodup
theorem Tm.Inv.nil:Tm.Inv []:=⟨fun x h=>(FD h).elim,fun i x h=>by simp at h,fun x h=>(FD h).elim,List.nodup_nil⟩
theorem Tm.Inv.snoc {l:List Nd} {x:Nd} (h:Tm.Inv l) (L:x∉l) (r:1<=x.sort/\x.sort<=3) (I:∀ p∈x.a,0<=p/\p<l.length) (J:x.op=14->x.a≠[]):Tm.Inv (l++[x]):=by
 refine⟨fun y hy=>?_,fun i y hy=>?_,fun y hy=>?_,?_⟩
 ·rcases F7.1 hy with hy|hy
  ·exact h.sort y hy
  ·rw[F0.1 hy];exact r
 ·rcases GX i l.length with e|e
  ·rw[FO e] at hy
   exact h.part i y hy
  ·rw[Ga e] at hy
   have hi:i-l.length=0:=by
    have:=(Fg.1 hy).1
    simpa using this
   rw[hi] at hy
   obtain rfl:x=y:=by simpa using hy
   intro p hp
   have:=I p hp
   omega
 ·rcases F7.1 hy with hy|hy
  ·exact h.neg y hy
  ·rw[F0.1 hy];exact J
 ·rw[List.nodup_append]
  exact⟨h.once,by simp,fun a ha b hb e=>L (by rw[<-F0.1 hb,<-e];exact ha)⟩
theorem Tm.jf {l:List Nd} {x:Nd} (h:Tm.Inv l) (r:1<=x.sort/\x.sort<=3) (I:∀ p∈x.a,0<=p/\p<l.length) (J:x.op=14->x.a≠[]):Tm.Inv (Tm.add l x).1:=by
 rcases Tm.et l x with⟨_,e⟩|⟨_,_,e⟩|⟨L,_,e⟩
 ·rw[e];exact h
 ·rw[e];exact h
 ·rw[e];exact h.snoc L r I J
theorem Tm.nt (c:Nat):1<=Tm.dj c/\Tm.dj c<=3:=by unfold Tm.dj;split <;> (try split) <;> decide
theorem Tm.bV {l:List Nd} {a:List Int} (h:Tm.ct l a=true):∀ p∈a,0<=p/\p<l.length:=fun p hp=>FX (Gt.1 h p hp)
theorem Tm.wV {w:List Nat} {more:Bool} {own:Nat} (h:Tm.asks 14=some (w,more,own)):w=[73]:=by
 have:Tm.asks 14=some ([73],false,73):=by decide
 rw[this] at h
 cases h
 rfl
theorem Tm.fe (l:List Nd) (op:Int) (a:List Int):(∃ e,e≠0/\Tm.app l op a=(l,0,e))\/
  ∃ w more own,Tm.asks op=some (w,more,own)/\¬(a.length<w.length\/(w.length<a.length/\more=false)\/200<a.length)/\Tm.ct l a=true/\Tm.fU w 0 63 (a.map (Tm.a6 l))=true/\¬(op=17/\1<Tm.free l a)/\Tm.app l op a=Tm.add l (Tm.node op own l a):=by
 unfold Tm.app
 cases h:Tm.asks op with
 |none=>exact .inl ⟨101,by decide,rfl⟩
 |some q=>
  obtain⟨w,more,own⟩:=q
  simp only
  split
  ·exact .inl ⟨1,by decide,rfl⟩
  ·rename_i r
   split
   ·exact .inl ⟨1,by decide,rfl⟩
   ·rename_i I
    split
    ·exact .inl ⟨90,by decide,rfl⟩
    ·rename_i J
     split
     ·exact .inl ⟨101,by decide,rfl⟩
     ·rename_i L
      exact .inr ⟨w,more,own,rfl,r,by simpa using I,by simpa using J,L,rfl⟩
theorem Tm.zS {l:List Nd} (h:Tm.Inv l) (op:Int) (a:List Int):Tm.Inv (Tm.app l op a).1:=by
 rcases Tm.fe l op a with⟨e,_,r⟩|⟨w,more,own,r,I,L,Q,U,O⟩
 ·rw[r];exact h
 ·rw[O]
  refine Tm.jf h (Tm.nt _) (Tm.bV L) fun J=>?_
  simp only[Tm.node] at J ⊢
  subst J
  rw[Tm.wV r] at I
  intro e
  rw[e] at I
  simp at I
theorem Tm.nC (l:List Nd) (x:Nd):Tm.add (Tm.add l x).1 x=Tm.add l x/\((Tm.add l x).2.2≠0->(Tm.add l x).2.1=0):=by
 rcases Tm.et l x with⟨r,e⟩|⟨_,_,e⟩|⟨r,_,e⟩
 ·rw[e];exact⟨e,fun h=>absurd rfl h⟩
 ·rw[e];exact⟨e,fun _=>rfl⟩
 ·rw[e]
  refine⟨?_,fun h=>absurd rfl h⟩
  rw[Tm.add,Fx (Tm.eH.2 (by simp)),Tm.nX r]
theorem Tm.oM (l:List Nd) (x:Nd):∃ m,(Tm.add l x).1=l++m:=by
 rcases Tm.et l x with⟨_,e⟩|⟨_,_,e⟩|⟨_,_,e⟩
 ·exact⟨[],by rw[e,GH]⟩
 ·exact⟨[],by rw[e,GH]⟩
 ·exact⟨[x],by rw[e]⟩
theorem Tm.jg {l m:List Nd} {p:Int} (h:p<l.length) (r:0<=p):(l++m)[p.toNat]?=l[p.toNat]?:=FO (by omega)
theorem Tm.nF {l m:List Nd} (hl:Tm.Inv l) {p:Int} (L:0<=p) (h:p<l.length):Tm.isNum (l++m) p=Tm.isNum l p:=by
 obtain⟨x,I⟩:∃ x,l[p.toNat]?=some x:=⟨_,Ge (by omega)⟩
 unfold Tm.isNum Tm.opAt
 rw[Tm.jg h L,I]
 simp only[GZ,G0]
 by_cases r:x.op=14
 ·obtain⟨q,a,ha⟩:∃ q a,x.a=q::a:=by
   cases e:x.a with
   |nil=>exact absurd e (hl.neg x (FP I) r)
   |cons q a=>exact⟨q,a,rfl⟩
  have O:=hl.part _ x I q (by rw[ha];simp)
  have Q:((some x).map (fun x=>x.a)).getD []=q::a:=by rw[GZ,G0,ha]
  have J:(l++m)[q.toNat]?=l[q.toNat]?:=Tm.jg (p:=q) (by omega) O.1
  simp only[ha,List.headD_cons,J]
 ·simp[r]
theorem Tm.vO {l:List Nd} (hl:Tm.Inv l) (op:Int) (a:List Int):Tm.app (Tm.app l op a).1 op a=Tm.app l op a/\((Tm.app l op a).2.2≠0->(Tm.app l op a).2.1=0):=by
 rcases Tm.fe l op a with⟨e,_,O⟩|⟨w,more,own,O,Q,U,V,X,Z⟩
 ·rw[O];exact⟨O,fun _=>rfl⟩
 ·obtain⟨m,hm⟩:=Tm.oM l (Tm.node op own l a)
  have h:=Tm.bV U
  have r:a.map (Tm.a6 (l++m))=a.map (Tm.a6 l):=List.map_congr_left fun p hp=>by
   have:=h p hp
   unfold Tm.a6
   rw[Tm.jg this.2 this.1]
  have I:Tm.free (l++m) a=Tm.free l a:=by
   unfold Tm.free
   congr 1
   refine List.filter_congr fun p hp=>?_
   rw[Tm.nF hl (h p hp).1 (h p hp).2]
  have L:Tm.ct (l++m) a=true:=Gt.2 fun p hp=>FW (by have:=h p hp;simp;omega)
  have J:Tm.node op own (l++m) a=Tm.node op own l a:=by unfold Tm.node;rw[r]
  rw[Z]
  obtain⟨g1,g2⟩:=Tm.nC l (Tm.node op own l a)
  refine⟨?_,g2⟩
  rw[hm] at g1 ⊢
  unfold Tm.app
  rw[O]
  simp only
  rw[FQ Q,FQ (by rw[L];decide),r,FQ (by rw[V];decide),I,FQ X,J,g1]
end Go.Proofs.YtdbgiijdgedggaaGreatDoor
namespace Go.Proofs
open Go.Shelf
def Tryz.oS:Go.Shelf.Ren:=⟨fun|245=>302|279=>313|280=>314|281=>315|282=>316|316=>321|171=>323|205=>322|243=>328|246=>331|283=>295|284=>296|285=>297|286=>298|129=>304|317=>303|318=>305|319=>306|320=>307|337=>317|338=>318|n=>n,fun|9=>9|3=>3|75=>317|167=>338|4=>4|168=>340|210=>347|37=>229|0=>0|127=>352|145=>355|143=>353|2=>2|171=>325|53=>157|5=>5|173=>328|212=>334|51=>206|20=>20|213=>335|46=>213|232=>349|233=>350|80=>359|n=>n,fun|15=>2|16=>3|17=>1|18=>4|19=>5|n=>n⟩
theorem Tryz.yR:Go.Proofs.LaysC.n245 Tryz.prog Tryz.oS:={
 mixed:=by kernel_rfl
 f129:=Tryz.func304.trans (congrArg some (by kernel_rfl))
 f171:=Tryz.func323.trans (congrArg some (by kernel_rfl))
 f205:=Tryz.func322.trans (congrArg some (by kernel_rfl))
 f243:=Tryz.func328.trans (congrArg some (by kernel_rfl))
 f245:=Tryz.func302.trans (congrArg some (by kernel_rfl))
 f246:=Tryz.func331.trans (congrArg some (by kernel_rfl))
 f279:=Tryz.func313.trans (congrArg some (by kernel_rfl))
 f280:=Tryz.func314.trans (congrArg some (by kernel_rfl))
 f281:=Tryz.func315.trans (congrArg some (by kernel_rfl))
 f282:=Tryz.func316.trans (congrArg some (by kernel_rfl))
 f283:=Tryz.func295.trans (congrArg some (by kernel_rfl))
 f284:=Tryz.func296.trans (congrArg some (by kernel_rfl))
 f285:=Tryz.func297.trans (congrArg some (by kernel_rfl))
 f286:=Tryz.func298.trans (congrArg some (by kernel_rfl))
 f316:=Tryz.func321.trans (congrArg some (by kernel_rfl))
 f317:=Tryz.func303.trans (congrArg some (by kernel_rfl))
 f318:=Tryz.func305.trans (congrArg some (by kernel_rfl))
 f319:=Tryz.func306.trans (congrArg some (by kernel_rfl))
 f320:=Tryz.func307.trans (congrArg some (by kernel_rfl))
 f337:=Tryz.func317.trans (congrArg some (by kernel_rfl))
 f338:=Tryz.func318.trans (congrArg some (by kernel_rfl))
 t0:=Tryz.underlying0
 a0:=Tryz.isAgg0
 z0:=Tryz.sizeOf0
 v0:=Tryz.zeroValue0
 t2:=Tryz.underlying2
 a2:=Tryz.isAgg2
 z2:=Tryz.sizeOf2
 v2:=Tryz.zeroValue2
 t3:=Tryz.underlying3
 a3:=Tryz.isAgg3
 z3:=Tryz.sizeOf3
 v3:=Tryz.zeroValue3
 t4:=Tryz.underlying4
 a4:=Tryz.isAgg4
 z4:=Tryz.sizeOf4
 v4:=Tryz.zeroValue4
 t5:=Tryz.underlying5
 a5:=Tryz.isAgg5
 z5:=Tryz.sizeOf5
 v5:=Tryz.zeroValue5
 t9:=Tryz.underlying9
 a9:=Tryz.isAgg9
 z9:=Tryz.sizeOf9
 v9:=Tryz.zeroValue9
 t20:=Tryz.underlying20
 a20:=Tryz.isAgg20
 z20:=Tryz.sizeOf20
 v20:=Tryz.zeroValue20
 t37:=Tryz.underlying229
 a37:=Tryz.isAgg229
 z37:=Tryz.sizeOf229
 v37:=Tryz.zeroValue229
 t46:=Tryz.underlying213
 a46:=Tryz.isAgg213
 z46:=Tryz.sizeOf213
 v46:=Tryz.zeroValue213
 t51:=Tryz.underlying206
 a51:=Tryz.isAgg206
 z51:=Tryz.sizeOf206
 v51:=Tryz.zeroValue206
 t53:=Tryz.underlying157
 a53:=Tryz.isAgg157
 z53:=Tryz.sizeOf157
 v53:=Tryz.zeroValue157
 t75:=Tryz.underlying317
 a75:=Tryz.isAgg317
 z75:=Tryz.sizeOf317
 v75:=Tryz.zeroValue317
 t127:=Tryz.underlying352
 a127:=Tryz.isAgg352
 z127:=Tryz.sizeOf352
 v127:=Tryz.zeroValue352
 t143:=Tryz.underlying353
 a143:=Tryz.isAgg353
 z143:=Tryz.sizeOf353
 v143:=Tryz.zeroValue353
 t145:=Tryz.underlying355
 a145:=Tryz.isAgg355
 z145:=Tryz.sizeOf355
 v145:=Tryz.zeroValue355
 t167:=Tryz.underlying338
 a167:=Tryz.isAgg338
 z167:=Tryz.sizeOf338
 v167:=Tryz.zeroValue338
 t168:=Tryz.underlying340
 a168:=Tryz.isAgg340
 z168:=Tryz.sizeOf340
 v168:=Tryz.zeroValue340
 t171:=Tryz.underlying325
 a171:=Tryz.isAgg325
 z171:=Tryz.sizeOf325
 v171:=Tryz.zeroValue325
 t173:=Tryz.underlying328
 a173:=Tryz.isAgg328
 z173:=Tryz.sizeOf328
 v173:=Tryz.zeroValue328
 t210:=Tryz.underlying347
 a210:=Tryz.isAgg347
 z210:=Tryz.sizeOf347
 v210:=Tryz.zeroValue347
 t212:=Tryz.underlying334
 a212:=Tryz.isAgg334
 z212:=Tryz.sizeOf334
 v212:=Tryz.zeroValue334
 t213:=Tryz.underlying335
 a213:=Tryz.isAgg335
 z213:=Tryz.sizeOf335
 t232:=Tryz.underlying349
 a232:=Tryz.isAgg349
 z232:=Tryz.sizeOf349
 v232:=Tryz.zeroValue349
 t233:=Tryz.underlying350
 a233:=Tryz.isAgg350
 z233:=Tryz.sizeOf350
 v233:=Tryz.zeroValue350
 g15:=by kernel_rfl
 g16:=by kernel_rfl
 g17:=by kernel_rfl
 g18:=by kernel_rfl
 g19:=by kernel_rfl
 t80:=Tryz.underlying359
 a80:=Tryz.isAgg359
 z80:=Tryz.sizeOf359
 v80:=Tryz.zeroValue359
 i0:=by kernel_rfl
 i2:=by kernel_rfl
 i3:=by kernel_rfl
 i4:=by kernel_rfl
 i5:=by kernel_rfl
 i9:=by kernel_rfl
 i20:=by kernel_rfl
 i37:=by kernel_rfl
 i46:=by kernel_rfl
 i51:=by kernel_rfl
 i53:=by kernel_rfl
 i75:=by kernel_rfl
 i80:=by kernel_rfl
 i127:=by kernel_rfl
 i143:=by kernel_rfl
 i145:=by kernel_rfl
 i167:=by kernel_rfl
 i168:=by kernel_rfl
 i171:=by kernel_rfl
 i173:=by kernel_rfl
 i210:=by kernel_rfl
 i212:=by kernel_rfl
 i232:=by kernel_rfl
 i233:=by kernel_rfl
 m15:=by kernel_rfl
 m16:=by kernel_rfl
 m17:=by kernel_rfl
 m18:=by kernel_rfl
 m19:=by kernel_rfl
 c0:=by kernel_rfl
 c2:=by kernel_rfl
 c3:=by kernel_rfl
 c4:=by kernel_rfl
 c5:=by kernel_rfl
 c9:=by kernel_rfl
 c20:=by kernel_rfl
 c37:=by kernel_rfl
 c46:=by kernel_rfl
 c51:=by kernel_rfl
 c53:=by kernel_rfl
 c75:=by kernel_rfl
 c80:=by kernel_rfl
 c127:=by kernel_rfl
 c143:=by kernel_rfl
 c145:=by kernel_rfl
 c167:=by kernel_rfl
 c168:=by kernel_rfl
 c171:=by kernel_rfl
 c173:=by kernel_rfl
 c210:=by kernel_rfl
 c212:=by kernel_rfl
 c213:=by kernel_rfl
 c232:=by kernel_rfl
 c233:=by kernel_rfl }
open Go.RowKit in
theorem Tryz.strconv_toError_syntax (fn s:ByteArray) (base bits:Int) (h:Value) (w:World) (r:s.size<=281474976710656) (hv:w.cell? ⟨2,0,none⟩=some h) (I:h=.nilIface\/∃ te J,h=.iface te J):
 Calls Tryz.prog 302 #[.string fn,.string s,.int .i64 base,.int .i64 bits,.iface 338 (.int .i64 2)] w fun e w'=>∃ N,e=.returned (.iface 340 (.pointer (some ⟨N,0,none⟩)))/\w.heap.size<=N/\w'.heap[N]?=some (.cells #[.string fn,.string s,h] 347 (0,0))/\Below w.heap.size w w':=Any.strconv_toError_syntax Tryz.yR fn s base bits h w r hv I
def Tryz.pO:Go.Shelf.Ren:=⟨fun|145=>300|220=>310|219=>320|217=>324|225=>325|224=>326|267=>327|266=>329|314=>330|n=>n,fun|9=>9|4=>4|59=>331|3=>3|5=>5|46=>213|146=>356|51=>206|n=>n,fun|1=>6|n=>n⟩
theorem Tryz.zD:Go.Proofs.Lays.n145 Tryz.prog Tryz.pO:={
 mixed:=by kernel_rfl
 f145:=Tryz.func300.trans (congrArg some (by kernel_rfl))
 f217:=Tryz.func324.trans (congrArg some (by kernel_rfl))
 f219:=Tryz.func320.trans (congrArg some (by kernel_rfl))
 f220:=Tryz.func310.trans (congrArg some (by kernel_rfl))
 f224:=Tryz.func326.trans (congrArg some (by kernel_rfl))
 f225:=Tryz.func325.trans (congrArg some (by kernel_rfl))
 f266:=Tryz.func329.trans (congrArg some (by kernel_rfl))
 f267:=Tryz.func327.trans (congrArg some (by kernel_rfl))
 f314:=Tryz.func330.trans (congrArg some (by kernel_rfl))
 t3:=Tryz.underlying3
 a3:=Tryz.isAgg3
 z3:=Tryz.sizeOf3
 v3:=Tryz.zeroValue3
 t4:=Tryz.underlying4
 a4:=Tryz.isAgg4
 z4:=Tryz.sizeOf4
 v4:=Tryz.zeroValue4
 t5:=Tryz.underlying5
 a5:=Tryz.isAgg5
 z5:=Tryz.sizeOf5
 v5:=Tryz.zeroValue5
 t9:=Tryz.underlying9
 a9:=Tryz.isAgg9
 z9:=Tryz.sizeOf9
 v9:=Tryz.zeroValue9
 t46:=Tryz.underlying213
 a46:=Tryz.isAgg213
 z46:=Tryz.sizeOf213
 v46:=Tryz.zeroValue213
 t51:=Tryz.underlying206
 a51:=Tryz.isAgg206
 z51:=Tryz.sizeOf206
 v51:=Tryz.zeroValue206
 t59:=Tryz.underlying331
 a59:=Tryz.isAgg331
 z59:=Tryz.sizeOf331
 v59:=Tryz.zeroValue331
 t146:=Tryz.underlying356
 a146:=Tryz.isAgg356
 z146:=Tryz.sizeOf356
 v146:=Tryz.zeroValue356
 g1:=by kernel_rfl }
open Go.RowKit Go.Lib in
theorem Tryz.strings_Cut (s sep:ByteArray) (m:Int) (w:World) (hs:s.size<4294967281) (hm:w.cell? ⟨6,0,none⟩=some (.int .i64 m)):
 Calls Tryz.prog 300 #[.string s,.string sep] w fun e w'=>e=.returned (.tuple #[.string ⟨(Lib.cut s.data.toList sep.data.toList).1.toArray⟩,.string ⟨(Lib.cut s.data.toList sep.data.toList).2.1.toArray⟩,.bool (Lib.cut s.data.toList sep.data.toList).2.2])/\∃ n,w'=w.drewN n:=Any.strings_Cut Tryz.zD s sep m w hs hm
def Tryz.oj:Go.Shelf.Ren:=⟨fun|176=>225|249=>265|288=>286|283=>295|284=>296|285=>297|286=>298|129=>304|317=>303|318=>305|319=>306|320=>307|337=>317|338=>318|n=>n,fun|37=>229|2=>2|3=>3|53=>157|4=>4|9=>9|171=>325|0=>0|173=>328|212=>334|51=>206|5=>5|20=>20|213=>335|46=>213|232=>349|233=>350|n=>n,fun|17=>1|18=>4|19=>5|n=>n⟩
theorem Tryz.wF:Go.Proofs.LaysM.n176 Tryz.prog Tryz.oj:={
 mixed:=by kernel_rfl
 f129:=Tryz.func304.trans (congrArg some (by kernel_rfl))
 f176:=Tryz.func225.trans (congrArg some (by kernel_rfl))
 f249:=Tryz.func265.trans (congrArg some (by kernel_rfl))
 f283:=Tryz.func295.trans (congrArg some (by kernel_rfl))
 f284:=Tryz.func296.trans (congrArg some (by kernel_rfl))
 f285:=Tryz.func297.trans (congrArg some (by kernel_rfl))
 f286:=Tryz.func298.trans (congrArg some (by kernel_rfl))
 f288:=Tryz.func286.trans (congrArg some (by kernel_rfl))
 f317:=Tryz.func303.trans (congrArg some (by kernel_rfl))
 f318:=Tryz.func305.trans (congrArg some (by kernel_rfl))
 f319:=Tryz.func306.trans (congrArg some (by kernel_rfl))
 f320:=Tryz.func307.trans (congrArg some (by kernel_rfl))
 f337:=Tryz.func317.trans (congrArg some (by kernel_rfl))
 f338:=Tryz.func318.trans (congrArg some (by kernel_rfl))
 t0:=Tryz.underlying0
 a0:=Tryz.isAgg0
 z0:=Tryz.sizeOf0
 v0:=Tryz.zeroValue0
 t2:=Tryz.underlying2
 a2:=Tryz.isAgg2
 z2:=Tryz.sizeOf2
 v2:=Tryz.zeroValue2
 t3:=Tryz.underlying3
 a3:=Tryz.isAgg3
 z3:=Tryz.sizeOf3
 v3:=Tryz.zeroValue3
 t4:=Tryz.underlying4
 a4:=Tryz.isAgg4
 z4:=Tryz.sizeOf4
 v4:=Tryz.zeroValue4
 t5:=Tryz.underlying5
 a5:=Tryz.isAgg5
 z5:=Tryz.sizeOf5
 v5:=Tryz.zeroValue5
 t9:=Tryz.underlying9
 a9:=Tryz.isAgg9
 z9:=Tryz.sizeOf9
 v9:=Tryz.zeroValue9
 t20:=Tryz.underlying20
 a20:=Tryz.isAgg20
 z20:=Tryz.sizeOf20
 v20:=Tryz.zeroValue20
 t37:=Tryz.underlying229
 a37:=Tryz.isAgg229
 z37:=Tryz.sizeOf229
 v37:=Tryz.zeroValue229
 t46:=Tryz.underlying213
 a46:=Tryz.isAgg213
 z46:=Tryz.sizeOf213
 v46:=Tryz.zeroValue213
 t51:=Tryz.underlying206
 a51:=Tryz.isAgg206
 z51:=Tryz.sizeOf206
 v51:=Tryz.zeroValue206
 t53:=Tryz.underlying157
 a53:=Tryz.isAgg157
 z53:=Tryz.sizeOf157
 v53:=Tryz.zeroValue157
 t171:=Tryz.underlying325
 a171:=Tryz.isAgg325
 z171:=Tryz.sizeOf325
 v171:=Tryz.zeroValue325
 t173:=Tryz.underlying328
 a173:=Tryz.isAgg328
 z173:=Tryz.sizeOf328
 v173:=Tryz.zeroValue328
 t212:=Tryz.underlying334
 a212:=Tryz.isAgg334
 z212:=Tryz.sizeOf334
 v212:=Tryz.zeroValue334
 t213:=Tryz.underlying335
 a213:=Tryz.isAgg335
 z213:=Tryz.sizeOf335
 t232:=Tryz.underlying349
 a232:=Tryz.isAgg349
 z232:=Tryz.sizeOf349
 v232:=Tryz.zeroValue349
 t233:=Tryz.underlying350
 a233:=Tryz.isAgg350
 z233:=Tryz.sizeOf350
 v233:=Tryz.zeroValue350
 g17:=by kernel_rfl
 g18:=by kernel_rfl
 g19:=by kernel_rfl
 i0:=by kernel_rfl
 i2:=by kernel_rfl
 i3:=by kernel_rfl
 i4:=by kernel_rfl
 i5:=by kernel_rfl
 i9:=by kernel_rfl
 i20:=by kernel_rfl
 i37:=by kernel_rfl
 i46:=by kernel_rfl
 i51:=by kernel_rfl
 i53:=by kernel_rfl
 i171:=by kernel_rfl
 i173:=by kernel_rfl
 i212:=by kernel_rfl
 i232:=by kernel_rfl
 i233:=by kernel_rfl
 m17:=by kernel_rfl
 m18:=by kernel_rfl
 m19:=by kernel_rfl }
open Go.RowKit Go.Sort Go.Lib in
theorem Tryz.strconv_AppendInt_10 (B n:Nat) (i:Int) (O: -9223372036854775808<=i) (Q:i<=9223372036854775807) (L:Value) (xs:List Value) (w:World) (r:w.ownsRow B 5 1 L n xs) (J:B<=w.heap.size) (h:n+21<=140737488355328) (I:Lib.TabBelow Tryz.prog B w "internal/strconv.uint64pow10" .u64 Lib.pow10Tab):
 Calls Tryz.prog 225 #[L,.int .i64 i,.int .i64 10] w fun e w'=>∃ v',e=.returned v'/\w'.ownsRow B 5 1 v' (n+(Lib.itoa i).length) (xs++Lib.byteCells (Lib.itoa i))/\Below B w w'/\Lib.OthersKept 5 none w w':=Any.strconv_AppendInt_10 Tryz.wF B n i O Q L xs w r J h I
def Tryz.rb:Go.Shelf.Ren:=⟨fun|99=>87|206=>130|n=>n,fun|9=>9|4=>4|3=>3|n=>n,fun|n=>n⟩
theorem Tryz.CE:Go.Proofs.Lays.n99 Tryz.prog Tryz.rb:={
 mixed:=by kernel_rfl
 f99:=Tryz.func87.trans (congrArg some (by kernel_rfl))
 f206:=Tryz.func130.trans (congrArg some (by kernel_rfl))
 t3:=Tryz.underlying3
 a3:=Tryz.isAgg3
 z3:=Tryz.sizeOf3
 v3:=Tryz.zeroValue3
 t4:=Tryz.underlying4
 a4:=Tryz.isAgg4
 z4:=Tryz.sizeOf4
 v4:=Tryz.zeroValue4
 t9:=Tryz.underlying9
 a9:=Tryz.isAgg9
 z9:=Tryz.sizeOf9
 v9:=Tryz.zeroValue9 }
open Go.RowKit Go.Lib in
theorem Tryz.strings_HasPrefix (s p:ByteArray) (w:World):
 Calls Tryz.prog 87 #[.string s,.string p] w fun e w'=>e=.returned (.bool (Lib.hasPrefix s.data.toList p.data.toList))/\w'=w:=Any.strings_HasPrefix Tryz.CE s p w
end Go.Proofs
namespace Go.Proofs.YtdbgiijdgedggaaGreatDoor
structure Sx where
 list:Bool
 k:Int
 T:ByteArray
 ta:Int
 at_:Int
 L:List Sx
def Sx.zero:Sx:=⟨false,0,ByteArray.empty,0,0,[]⟩
def Sx.dep:Nat->Sx->Nat
 |0,_=>0
 |m+1,x=>if x.list then(x.L.map (Sx.dep m)).foldl max 0+1 else 0
mutual
def Sx.size:Sx->Nat
 |⟨_,_,_,_,_,L⟩=>Sx.sizes L+1
def Sx.sizes:List Sx->Nat
 |[]=>0
 |x::l=>Sx.size x+Sx.sizes l
end
theorem Sx.mY:∀ l m:List Sx,Sx.sizes (l++m)=Sx.sizes l+Sx.sizes m
 |[],m=>by simp[Sx.sizes]
 |x::l,m=>by rw[List.cons_append,Sx.sizes,Sx.sizes,Sx.mY l m];omega
theorem Sx.size_eq (x:Sx):x.size=Sx.sizes x.L+1:=by cases x;rw[Sx.size]
theorem Sx.uW {l:List Sx} {i:Nat} {x:Sx} (h:l[i]?=some x):x.size+Sx.sizes (l.drop (i+1))=Sx.sizes (l.drop i):=by
 obtain⟨hi,rfl⟩:=List.getElem?_eq_some_iff.1 h
 rw[List.drop_eq_getElem_cons hi,Sx.sizes]
theorem Sx.xO {l:List Sx} {x:Sx} (h:x∈l):x.size<=Sx.sizes l:=by
 obtain⟨a,b,rfl⟩:=List.append_of_mem h
 rw[Sx.mY,Sx.sizes]
 omega
theorem Sx.cV {x y:Sx} (h:y∈x.L):y.size<x.size:=by
 have:=Sx.xO h
 rw[x.size_eq]
 omega
theorem Sx.size_pos (x:Sx):0<x.size:=by rw[x.size_eq];omega
theorem Sx.jq (l:List Sx):l.length<=Sx.sizes l:=by
 induction l with
 |nil=>simp
 |cons x l h=>have:=x.size_pos;rw[Sx.sizes,List.length_cons];omega
theorem foldl_max (l:List Nat):∀ a:Nat,l.foldl max a=max a (l.foldl max 0):=by
 induction l with
 |nil=>intro a;simp
 |cons x l h=>intro a;rw[List.foldl_cons,List.foldl_cons,h,h (max 0 x)];omega
theorem Sx.xj:∀ (m:Nat) (x:Sx),Sx.dep m x<=m
 |0,x=>Nat.le_refl _
 |m+1,x=>by
  rw[Sx.dep]
  split
  ·have:∀ (l:List Sx),(l.map (Sx.dep m)).foldl max 0<=m:=by
    intro l
    induction l with
    |nil=>simp
    |cons y l h=>
     rw[List.map_cons,List.foldl_cons,foldl_max]
     have:=Sx.xj m y
     omega
   exact Nat.succ_le_succ (this _)
  ·omega
end Go.Proofs.YtdbgiijdgedggaaGreatDoor
