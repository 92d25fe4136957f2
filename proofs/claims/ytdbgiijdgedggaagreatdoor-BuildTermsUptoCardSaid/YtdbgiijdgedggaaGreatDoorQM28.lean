import Derived.Test.YtdbgiijdgedggaaGreatDoorQM22
import Derived.Laws.IdiomStrings
import Derived.Deep.QuietTactic
set_option linter.unusedSimpArgs false
set_option linter.unusedVariables false
set_option maxRecDepth 100000
set_option maxHeartbeats 25600000
namespace Go.Proofs.YtdbgiijdgedggaaGreatDoor
open Go.RowKit
theorem Lt.jX (l:List UInt8):Lt.num l=(Lt.parse l).bind fun n=>if n<=196607 then some n else none:=by
 unfold Lt.num Lt.parse
 split <;> rfl
theorem Lt.wP {l:List UInt8} {n:Nat} (r:l.length<=5) (h:Lt.parse l=some n):n<1048576:=by
 unfold Lt.parse at h
 split at h
 ·cases h
 ·have I:=Lt.xE l 0 n h
  have J:16^l.length<=16^5:=Gy (by decide) r
  omega
def mQ (c:UInt8) (r:List UInt8) (e:Ending):Prop:=∃ v k:Nat,e=.returned (.tuple #[.int .i64 (v:Nat),.int .i64 (k:Nat)])/\0<k/\k<=r.length+1/\Lt.one (c::r)=(v,(c::r).drop k)
theorem zJ (s:ByteArray) (c:UInt8) (r:List UInt8) (hl:s.data.toList=c::r) (w:World) (hs:s.size<=100000000) (hG:Gl w):
  Calls Tryz.prog 279 #[.string s] w fun e w'=>mQ c r e/\Below w.heap.size w w':=by
 have HD:=Gn (wL s c r hl w hs hG)
 have av:=Gn hG
 have hlen:s.size=r.length+1:=by rw[<-Lt.ar,hl];rfl
 have ba:0<s.size:=by omega
 have a1:s[0]=c:=by
  have:=Lt.aD s ba
  rw[Hw,hl] at this
  injection this with this _
  exact this.symm
 obtain⟨O,J⟩:∃ O:Ending->World->Prop,O=fun e w'=>mQ c r e/\Below w.heap.size w w':=⟨_,rfl⟩
 rw[<-J]
 have I:Hid (Lt.one (c::r)=(c.toNat,r)->∀ w',Below w.heap.size w w'->O (.returned (.tuple #[.int .i64 (s[0].toNat:Nat),.int .i64 1])) w'):=fun h w' hb=>by
  rw[J,a1]
  exact⟨⟨c.toNat,1,rfl,by decide,by omega,h⟩,hb⟩
 have U:Hid (∀ v k:Nat,0<k->k<=r.length+1->Lt.one (c::r)=(v,(c::r).drop k)->∀ w',Below w.heap.size w w'->O (.returned (.tuple #[.int .i64 (v:Nat),.int .i64 (k:Nat)])) w'):=fun v k h1 h2 h3 w' hb=>by
  rw[J]
  exact⟨⟨v,k,rfl,h1,h2,h3⟩,hb⟩
 have Q:wrap64 (s[0].toNat:Int)=(s[0].toNat:Int):=by
  have:=s[0].toNat_lt
  unfold wrap64
  omega
 have bl:(0:Int)<(s.size:Int):=by omega
 clear J hG hl a1
 go_enter Tryz.func279,Tryz.ntmps279
 go_wp2_with fail
 refine HD.out.mono ?_
 rintro e w1 ⟨⟨T,k,rfl,hd⟩,hb⟩
 rcases hd with⟨rfl,ho⟩|⟨ad,ah,hT,ho⟩
 ·have L:=Gn (I.out ho w1 hb)
  clear ho hb HD av I U hlen
  go_wp2
  all_goals
   first|exact L.out|(rw[Q];exact L.out)|exact GD (by simp[results,Tryz.results279,go_sem]) rfl L.out|(rw[Q];exact GD (by simp[results,Tryz.results279,go_sem]) rfl L.out)
 ·rw[Lt.ar] at hT
  have HP:=Gn (pV T w1 hT (av.out.below hb))
  have bb:(0:Int)<(k:Int):=by omega
  have HO:=Gn ho
  have HB:=Gn hb
  have HT:Hid (T.data.toList.length<=5):=by
   show _<=_
   rw[Lt.ar]
   exact hT
  clear ho hb HD av hlen hT
  go_wp2_with fail
  refine HP.out.mono ?_
  rintro e w2 ⟨⟨n,v,rfl,hv⟩,Z⟩
  have ao:=Gn (HB.out.trans (Z.mono HB.out.size))
  rcases hv with⟨rfl,hp⟩|⟨⟨t,x,rfl⟩,hp,rfl⟩
  ·have hn:n<1048576:=Lt.wP HT.out hp
   have X:=Gn (s7 n w2)
   by_cases hle:n<=196607
   ·have V:Lt.pt (n:Int)=true:=FW ⟨by omega,by omega⟩
    rw[V] at X
    have L:=Gn (U.out n k ad ah (by rw[HO.out,Lt.jX,hp,Option.bind_some,Fx hle];rfl) w2 ao.out)
    have a7:(n:Int)<1048576:=by omega
    clear hp V hle ah ad HP I U Z hn
    go_wp2_with (go_at_call 278;refine X.out.mono ?_;rintro e w3 ⟨rfl,rfl⟩)
    first|exact L.out|exact GD (by simp[results,Tryz.results279,go_sem]) rfl L.out
   ·have V:Lt.pt (n:Int)=false:=Gq (by omega)
    rw[V] at X
    have L:=Gn (I.out (by rw[HO.out,Lt.jX,hp,Option.bind_some,FQ hle];rfl) w2 ao.out)
    have a7:(n:Int)<1048576:=by omega
    clear hp V hle ah ad HP I U Z hn
    go_wp2_with (go_at_call 278;refine X.out.mono ?_;rintro e w3 ⟨rfl,rfl⟩)
    all_goals
     first|exact L.out|(rw[Q];exact L.out)|exact GD (by simp[results,Tryz.results279,go_sem]) rfl L.out|(rw[Q];exact GD (by simp[results,Tryz.results279,go_sem]) rfl L.out)
  ·have L:=Gn (I.out (by rw[HO.out,Lt.jX,hp];rfl) w2 ao.out)
   clear hp ah ad HP I U Z
   go_wp2
   all_goals
    first|exact L.out|(rw[Q];exact L.out)|exact GD (by simp[results,Tryz.results279,go_sem]) rfl L.out|(rw[Q];exact GD (by simp[results,Tryz.results279,go_sem]) rfl L.out)
def CL:Value->Nat
 | .string T=>T.size
 |_=>0
theorem aD (s:ByteArray) {i:Nat} (h:i<s.size):s.data.toList.drop i=s[i]::s.data.toList.drop (i+1):=by
 have r:i<s.data.toList.length:=by rw[Fv];exact h
 rw[FC r]
 congr 1
theorem cT (s:ByteArray):s.data.toList.drop s.size=[]:=by
 apply List.drop_eq_nil_of_le
 rw[Fv]
 exact Fm _
theorem C4 (s:ByteArray) (a:Nat) (w:World) (hs:s.size<=maxLen) (ha:a<=s.size):
  Calls Tryz.prog 175 #[.string s,.int .i64 (a:Nat)] w fun e w'=>∃ k:Nat,e=.returned (.int .i64 (k:Nat))/\w'=w/\a<=k/\k<=s.size/\s.data.toList.drop k=Lx.skip false (s.data.toList.drop a):=by
 unfold maxLen at hs
 obtain⟨X,HX⟩:∃ X,Hid (Lx.skip false (s.data.toList.drop a)=X):=⟨_,rfl⟩
 rw[HX.out]
 go_enter Tryz.func175,Tryz.ntmps175
 go_wp2
 go_loopw [1,5] (fun iv rv wr=>∃ (i:Nat) (r:Bool),i<=s.size/\iv=.int .i64 (i:Nat)/\rv=.bool r/\wr=w/\Hid (a<=i/\Lx.skip r (s.data.toList.drop i)=X)) (fun iv _ _=>s.size-(intOf iv).toNat)
 case atStart=>exact⟨a,false,ha,rfl,rfl,rfl,⟨Fm _,HX.out⟩⟩
 case round=>
  clear HX ha
  obtain⟨i,r,hi,rfl,rfl,rfl,J⟩:=hrel
  by_cases a1:i<s.size
  ·have HD:=Gn (aD s a1)
   have HG:=Gn (wm s[i] wr)
   have HB:=Gn (yv s[i] wr)
   obtain⟨g,ah⟩:∃ g,Lx.good s[i]=g:=⟨_,rfl⟩
   obtain⟨b,ad⟩:∃ b,Lx.blank s[i]=b:=⟨_,rfl⟩
   have V:=Gn ah
   have hb:=Gn ad
   clear ah ad
   have Q:=Gn (Lx.jW r s[i] (s.data.toList.drop (i+1)))
   rw[V.out,hb.out,<-HD.out,J.out.2] at Q
   rw[V.out] at HG
   rw[hb.out] at HB
   have a7:(i:Int)<(s.size:Int):=by omega
   cases g with
   |false=>
    have L:s.data.toList.drop i=X:=Q.out.symm
    have I:Hid (a<=i/\s.data.toList.drop i=X):=⟨J.out.1,L⟩
    clear Q HD HB J L V hb
    go_wp2_with (go_at_call 176;refine HG.out.mono ?_;rintro e Z ⟨rfl,rfl⟩)
    go_ret
    exact⟨i,rfl,by trivial,I.out.1,hi,I.out.2⟩
   |true=>
    by_cases h:s[i].toNat=59
    ·have e1:((s[i].toNat:Int) == 10)=false:=Gx.2 (by omega)
     have e2:((s[i].toNat:Int) == 59)=true:=Gw.2 (by omega)
     have L:Lx.skip true (s.data.toList.drop (i+1))=X:=by
      have:=Q.out
      simp[h] at this
      exact this.symm
     have I:Hid (a<=i+1/\Lx.skip true (s.data.toList.drop (i+1))=X):=⟨by have:=J.out.1;omega,L⟩
     clear Q HD HB J L V hb h
     go_wp2_with (go_at_call 176;refine HG.out.mono ?_;rintro e Z ⟨rfl,rfl⟩)
     go_roundw
     case rel=>exact⟨i+1,true,by omega,by go_num,rfl,by trivial,I⟩
     case measure=>simp[intOf];omega
    have e2:((s[i].toNat:Int) == 59)=false:=Gx.2 (by omega)
    by_cases O:s[i].toNat=10
    ·have e1:((s[i].toNat:Int) == 10)=true:=Gw.2 (by omega)
     have av:b=true:=by rw[<-hb.out,Lx.blank,O];rfl
     subst av
     have L:Lx.skip false (s.data.toList.drop (i+1))=X:=by
      have:=Q.out
      simp[O] at this
      exact this.symm
     have I:Hid (a<=i+1/\Lx.skip false (s.data.toList.drop (i+1))=X):=⟨by have:=J.out.1;omega,L⟩
     clear Q HD J L V hb h O
     go_wp2_with (first|(go_at_call 176;refine HG.out.mono ?_;rintro e Z ⟨rfl,rfl⟩)|(go_at_call 227;refine HB.out.mono ?_;rintro e Z ⟨rfl,rfl⟩))
     go_roundw
     case rel=>exact⟨i+1,false,by omega,by go_num,rfl,by trivial,I⟩
     case measure=>simp[intOf];omega
    have e1:((s[i].toNat:Int) == 10)=false:=Gx.2 (by omega)
    by_cases U:r=false/\b=false
    ·obtain⟨rfl,rfl⟩:=U
     have L:s.data.toList.drop i=X:=by
      have:=Q.out
      simp[h] at this
      exact this.symm
     have I:Hid (a<=i/\s.data.toList.drop i=X):=⟨J.out.1,L⟩
     clear Q HD J L V hb h O
     go_wp2_with (first|(go_at_call 176;refine HG.out.mono ?_;rintro e Z ⟨rfl,rfl⟩)|(go_at_call 227;refine HB.out.mono ?_;rintro e Z ⟨rfl,rfl⟩))
     go_ret
     exact⟨i,rfl,by trivial,I.out.1,hi,I.out.2⟩
    ·have L:Lx.skip r (s.data.toList.drop (i+1))=X:=by
      have:=Q.out
      cases r <;> cases b <;> simp[h,O] at this U <;> exact this.symm
     have I:Hid (a<=i+1/\Lx.skip r (s.data.toList.drop (i+1))=X):=⟨by have:=J.out.1;omega,L⟩
     clear Q HD J L V hb h O
     have ao:r=true\/r=false/\b=true:=by cases r <;> cases b <;> simp at U ⊢
     clear U
     rcases ao with rfl|⟨rfl,rfl⟩
     all_goals
      go_wp2_with (first|(go_at_call 176;refine HG.out.mono ?_;rintro e Z ⟨rfl,rfl⟩)|(go_at_call 227;refine HB.out.mono ?_;rintro e Z ⟨rfl,rfl⟩))
      go_roundw
      case rel=>exact⟨i+1,_,by omega,by go_num,rfl,by trivial,I⟩
      case measure=>simp[intOf];omega
  ·obtain rfl:i=s.size:=by omega
   have I:Hid (a<=s.size/\s.data.toList.drop s.size=X):=⟨J.out.1,by have:=J.out.2;rw[cT] at this ⊢;exact this⟩
   clear J
   go_wp2
   go_ret
   exact⟨s.size,rfl,by trivial,I.out.1,Fm _,I.out.2⟩
theorem oF (p:UInt8->Bool) (c:UInt8) (t:List UInt8):(c::t).dropWhile p=if p c=true then t.dropWhile p else c::t:=by rw[List.dropWhile_cons]
theorem xK (s:ByteArray) (a:Nat) (w:World) (hs:s.size<=maxLen) (ha:a<=s.size):
  Calls Tryz.prog 228 #[.string s,.int .i64 (a:Nat)] w fun e w'=>∃ k:Nat,e=.returned (.int .i64 (k:Nat))/\w'=w/\a<=k/\k<=s.size/\s.data.toList.drop k=(s.data.toList.drop a).dropWhile Lx.name:=by
 unfold maxLen at hs
 obtain⟨X,Q⟩:∃ X,Hid ((s.data.toList.drop a).dropWhile Lx.name=X):=⟨_,rfl⟩
 rw[Q.out]
 go_enter Tryz.func228,Tryz.ntmps228
 go_wp2
 go_loopw [1] (fun iv wr=>∃ i:Nat,i<=s.size/\iv=.int .i64 (i:Nat)/\wr=w/\Hid (a<=i/\(s.data.toList.drop i).dropWhile Lx.name=X)) (fun iv _=>s.size-(intOf iv).toNat)
 case atStart=>exact⟨a,ha,rfl,rfl,⟨Fm _,Q.out⟩⟩
 case round=>
  clear Q ha
  obtain⟨i,hi,rfl,rfl,r⟩:=hrel
  by_cases U:i<s.size
  ·have L:=Gn (aD s U)
   have O:=Gn (BN s[i] wr)
   obtain⟨g,h⟩:∃ g,Lx.name s[i]=g:=⟨_,rfl⟩
   have J:=oF Lx.name s[i] (s.data.toList.drop (i+1))
   rw[h,<-L.out,r.out.2] at J
   rw[h] at O
   have V:(i:Int)<(s.size:Int):=by omega
   cases g with
   |false=>
    have I:Hid (a<=i/\s.data.toList.drop i=X):=⟨r.out.1,by simpa using J.symm⟩
    clear J L r h
    go_wp2_with (go_at_call 232;refine O.out.mono ?_;rintro e Z ⟨rfl,rfl⟩)
    go_ret
    exact⟨i,rfl,by trivial,I.out.1,hi,I.out.2⟩
   |true=>
    have I:Hid (a<=i+1/\(s.data.toList.drop (i+1)).dropWhile Lx.name=X):=⟨by have:=r.out.1;omega,by simpa using J.symm⟩
    clear J L r h
    go_wp2_with (go_at_call 232;refine O.out.mono ?_;rintro e Z ⟨rfl,rfl⟩)
    go_roundw
    case rel=>exact⟨i+1,by omega,by go_num,by trivial,I⟩
    case measure=>simp[intOf];omega
  ·obtain rfl:i=s.size:=by omega
   have I:Hid (a<=s.size/\s.data.toList.drop s.size=X):=⟨r.out.1,by have:=r.out.2;rw[cT] at this ⊢;exact this⟩
   clear r
   go_wp2
   go_ret
   exact⟨s.size,rfl,by trivial,I.out.1,Fm _,I.out.2⟩
theorem vF {s:ByteArray} (h:s.size=0):s.data.toList=[]/\s.toList=[]:=by
 have e:s.data.toList=[]:=FV (by rw[Fv];exact h)
 exact⟨e,by rw[GA,e]⟩
theorem sJ {s:ByteArray} (h:0<s.size):s.data.toList.isEmpty=false/\s.toList.isEmpty=false/\(s.toList == [])=false:=by
 have e:s.data.toList.isEmpty=false:=by
  cases hl:s.data.toList with
  |nil=>
   have:s.data.toList.length=0:=by rw[hl];rfl
   rw[Fv] at this
   exact absurd h (by show ¬0<s.data.size;omega)
  |cons _ _=>rfl
 refine⟨e,by rw[GA];exact e,?_⟩
 rw[GA]
 cases hl:s.data.toList with
 |nil=>rw[hl] at e;cases e
 |cons _ _=>rfl
theorem tr (s:ByteArray) (w:World) (hs:s.size<=maxLen):
  Calls Tryz.prog 266 #[.string s] w fun e w'=>e=.returned (.bool (Lx.digits s.data.toList))/\w'=w:=by
 unfold maxLen at hs
 by_cases h0:s.size=0
 ·obtain⟨U,e2⟩:=vF h0
  rw[U]
  clear U
  show Calls _ _ _ _ fun e w'=>e=.returned (.bool false)/\w'=w
  go_enter Tryz.func266,Tryz.ntmps266
  go_wp2
  go_loopw [3] (fun iv wr=>iv=.int .i64 0/\wr=w) (fun _ _=>0)
  case atStart=>exact⟨rfl,rfl⟩
  case round=>
   obtain⟨rfl,rfl⟩:=hrel
   go_wp2
   go_ret
   exact⟨rfl,by trivial⟩
 obtain⟨f1,f2,f3⟩:=sJ (s:=s) (by omega)
 obtain⟨X,O⟩:∃ X,Hid (Lx.digits s.data.toList=X):=⟨_,rfl⟩
 have J:Hid ((s.data.toList.drop 0).all Lx.digit=X):=by
  show _=_
  rw[<-O.out,Lx.digits,f1,Hw]
  rfl
 rw[O.out]
 clear f1 O
 go_enter Tryz.func266,Tryz.ntmps266
 go_wp2
 go_loopw [3] (fun iv wr=>∃ i:Nat,i<=s.size/\iv=.int .i64 (i:Nat)/\wr=w/\Hid ((s.data.toList.drop i).all Lx.digit=X)) (fun iv _=>s.size-(intOf iv).toNat)
 case atStart=>exact⟨0,by omega,rfl,rfl,J⟩
 case round=>
  clear J
  obtain⟨i,hi,rfl,rfl,r⟩:=hrel
  by_cases Q:i<s.size
  ·have L:=Gn (oW s[i] wr)
   obtain⟨g,h⟩:∃ g,Lx.digit s[i]=g:=⟨_,rfl⟩
   have I:=r.out
   rw[aD s Q,List.all_cons,h] at I
   rw[h] at L
   have V:(i:Int)<(s.size:Int):=by omega
   cases g with
   |false=>
    obtain rfl:X=false:=by simpa using I.symm
    clear I r h
    go_wp2_with (go_at_call 230;refine L.out.mono ?_;rintro e w1 ⟨rfl,rfl⟩)
    go_ret
    exact⟨rfl,by trivial⟩
   |true=>
    have Z:Hid ((s.data.toList.drop (i+1)).all Lx.digit=X):=Gn (by simpa using I)
    clear I r h
    go_wp2_with (go_at_call 230;refine L.out.mono ?_;rintro e w1 ⟨rfl,rfl⟩)
    go_roundw
    case rel=>exact⟨i+1,by omega,by go_num,by trivial,Z⟩
    case measure=>simp[intOf];omega
  ·obtain rfl:i=s.size:=by omega
   obtain rfl:X=true:=by have:=r.out;rw[cT] at this;exact this.symm
   clear r
   go_wp2
   go_ret
   exact⟨rfl,by trivial⟩
theorem bM (s:ByteArray) (a b:Nat) (hb:b<=s.size) (ha:a<=b):(s.extract a b).data.toList=(s.data.toList.drop a).take (b-a)/\(s.extract a b).size=b-a:=by
 have h:(s.extract a b).size=b-a:=by rw[ByteArray.size_extract];omega
 refine⟨?_,h⟩
 rw[ByteArray.data_extract,Array.toList_extract]
theorem wj (s:ByteArray) (p:Nat) (hp:p<=s.size) (w:World):(Instr.slice 9 (.string s) none (some (.int .i64 (p:Int))) none).run Tryz.prog w=.ok (.string (s.extract 0 p)) w:=by
 rw[run_slice_string_to_if _ _ _ _ _ Tryz.underlying9,Fx (by omega)]
 rfl
theorem se (s:ByteArray) (p:Nat) (hp:p<=s.size) (w:World):(Instr.slice 9 (.string s) (some (.int .i64 (p:Int))) none none).run Tryz.prog w=.ok (.string (s.extract p s.size)) w:=by
 rw[run_slice_string_from_if _ _ _ _ _ Tryz.underlying9,Fx (by omega)]
 rfl
abbrev Lx.gv (c:UInt8):Bool:=!decide (c.toNat=46)
theorem Lx.uX (S:List UInt8) (p:Nat) (hp:p=(S.takeWhile Lx.gv).length):
  p<=S.length/\Lx.number S=if !Lx.digits (S.take p)||(decide (1<p)&&decide ((S.headD 0).toNat=48)) then 0 else if p=S.length then 4 else if Lx.digits (S.drop (p+1)) then 5 else 0:=by
 have h:=Lx.take_drop Lx.gv S
 have ht:S.take p=S.takeWhile Lx.gv:=by
  have:S.take p=(S.takeWhile Lx.gv++S.dropWhile Lx.gv).take p:=by rw[h]
  rw[this,hp,FN]
 have hd:S.drop p=S.dropWhile Lx.gv:=by
  have:S.drop p=(S.takeWhile Lx.gv++S.dropWhile Lx.gv).drop p:=by rw[h]
  rw[this,hp,List.drop_left]
 have hl:p+(S.dropWhile Lx.gv).length=S.length:=by
  have:=G1 List.length h
  rw[Gb] at this
  omega
 refine⟨by omega,?_⟩
 unfold Lx.number
 dsimp only
 rw[ht,hp]
 split
 ·rfl
 ·cases r:S.dropWhile Lx.gv with
  |nil=>
   rw[r,He] at hl
   rw[Fx (by omega)]
  |cons c t=>
   rw[r,FG] at hl
   rw[FQ (by omega)]
   have:S.drop ((S.takeWhile Lx.gv).length+1)=t:=by
    rw[<-hp,<-GF,hd,r]
    rfl
   rw[this]
theorem Ar (s:ByteArray) (w:World) (hs:s.size<=maxLen):
  Calls Tryz.prog 231 #[.string s] w fun e w'=>e=.returned (.int .i64 (Lx.number s.data.toList))/\w'=w:=by
 unfold maxLen at hs
 have hlen:s.data.toList.length=s.size:=by rw[Fv];rfl
 obtain⟨P,HP⟩:∃ P,P=(s.data.toList.takeWhile Lx.gv).length:=⟨_,rfl⟩
 obtain⟨ad,r⟩:=Lx.uX s.data.toList P HP
 rw[hlen] at ad r
 obtain⟨c1,c2⟩:=bM s 0 P ad (Fz _)
 rw[Hw,Nat.sub_zero] at c1
 have U:=Gn (tr (s.extract 0 P) w (by rw[c2];unfold maxLen;omega))
 obtain⟨wh,O⟩:∃ b,Lx.digits (s.data.toList.take P)=b:=⟨_,rfl⟩
 rw[c1,O] at U
 rw[O] at r
 have Q:wh=true->0<P:=fun e=>by
  rw[<-O,Lx.digits] at e
  rcases Hn P with h|h
  ·rw[h] at e
   simp at e
  ·exact h
 obtain⟨X,HX⟩:∃ X,Lx.number s.data.toList=X:=⟨_,rfl⟩
 rw[HX] at r ⊢
 replace r:=Gn r
 replace HP:=Gn HP
 replace Q:=Gn Q
 have V:Hid (∀ h:0<s.size,(s.data.toList.headD 0).toNat=s[0].toNat):=fun h=>by
  have:=aD s h
  rw[Hw] at this
  rw[this]
  rfl
 have ao:=Gn hlen
 clear c1 c2 O HX hlen ad
 go_enter Tryz.func231,Tryz.ntmps231
 go_wp2
 go_loopw [3,4] (fun pv iv wr=>∃ (i p:Nat) (j:Int),i<=s.size/\j+1=(i:Int)/\p<=s.size/\iv=.int .i64 j/\pv=.int .i64 (p:Nat)/\wr=w/\Hid (p=i+((s.data.toList.drop i).takeWhile Lx.gv).length)) (fun _ iv _=>(intOf iv+1).toNat)
 case atStart=>exact⟨s.size,s.size,(s.size:Int)-1,Fm _,by omega,Fm _,by first|rfl|go_num,rfl,rfl,(by show _=_;rw[cT];rfl)⟩
 case round=>
  obtain⟨i,p,j,hi,hj,hp,rfl,rfl,rfl,HI⟩:=hrel
  by_cases ba:0<=j
  ·obtain⟨k,rfl⟩:∃ k:Nat,j=(k:Int):=⟨j.toNat,by omega⟩
   obtain rfl:i=k+1:=by omega
   have hk:k<s.size:=by omega
   clear hj
   by_cases J:s[k].toNat=46
   ·have hb:((s[k].toNat:Int) == 46)=true:=Gw.2 (by omega)
    have Z:Hid (k=k+((s.data.toList.drop k).takeWhile Lx.gv).length):=by
     show _=_
     rw[aD s hk,List.takeWhile_cons]
     simp[Lx.gv,J]
    clear HI J r U HP Q V
    go_wp2
    go_roundw
    case rel=>exact⟨k,k,(k:Int)-1,by omega,by omega,by omega,by go_num,rfl,by trivial,Z⟩
    case measure=>simp[intOf]
   ·have hb:((s[k].toNat:Int) == 46)=false:=Gx.2 (by omega)
    have Z:Hid (p=k+((s.data.toList.drop k).takeWhile Lx.gv).length):=by
     show _=_
     rw[aD s hk,List.takeWhile_cons,HI.out]
     simp[Lx.gv,J]
     omega
    clear HI J r U HP Q V
    go_wp2
    go_roundw
    case rel=>exact⟨k,p,(k:Int)-1,by omega,by omega,by omega,by go_num,rfl,by trivial,Z⟩
    case measure=>simp[intOf]
  ·obtain rfl:i=0:=by omega
   obtain rfl:p=P:=by
    have:=HI.out
    rw[Hw,<-HP.out] at this
    omega
   clear HI HP
   have bl:j<0:=by omega
   clear hj ba
   have bb:=wj s p hp
   cases wh with
   |false=>
    obtain rfl:X=0:=by simpa using r.out
    clear r Q V
    go_wp2_with (go_at_call 266;refine U.out.mono ?_;rintro e w1 ⟨rfl,rfl⟩)
    go_ret
    exact⟨rfl,by trivial⟩
   |true=>
    have bn:0<p:=Q.out rfl
    have a7:0<s.size:=by omega
    by_cases L:1<p/\s[0].toNat=48
    ·have a1:(1:Int)<(p:Int):=by omega
     have a2:((s[0].toNat:Int) == 48)=true:=Gw.2 (by omega)
     obtain rfl:X=0:=by
      have:=r.out
      rw[V.out a7] at this
      simpa [L] using this
     clear r Q V L
     go_wp2_with (go_at_call 266;refine U.out.mono ?_;rintro e w1 ⟨rfl,rfl⟩)
     go_ret
     exact⟨rfl,by trivial⟩
    have I:Hid (X=if p=s.size then 4 else if Lx.digits (s.data.toList.drop (p+1)) then 5 else 0):=by
     show _=_
     rw[r.out,V.out a7,FQ]
     rw[Bool.not_true,Ii,GY,Hu,Hu]
     exact L
    have av:((s[0].toNat:Int) == 48)=false\/((s[0].toNat:Int) == 48)=true/\¬(1:Int)<(p:Int):=by
     by_cases h:s[0].toNat=48
     ·exact .inr ⟨Gw.2 (by omega),by omega⟩
     ·exact .inl (Gx.2 (by omega))
    clear r Q V L
    by_cases ah:p=s.size
    ·obtain rfl:X=4:=by rw[I.out,Fx ah]
     clear I
     subst ah
     rw[show s.extract 0 s.size=s by simp] at U bb
     rcases av with a|⟨a,a'⟩
     all_goals
      go_wp2_with (go_at_call 266;refine U.out.mono ?_;rintro e w1 ⟨rfl,rfl⟩)
     all_goals
      go_ret
      exact⟨rfl,by trivial⟩
    ·have b1:((p:Int) == (s.size:Int))=false:=Gx.2 (by omega)
     obtain⟨d1,d2⟩:=bM s (p+1) s.size (Fm _) (by omega)
     rw[Gr (by rw[FU,ao.out];exact Fm _)] at d1
     have bo:=se s (p+1) (by omega)
     have HZ:=Gn (tr (s.extract (p+1) s.size) wr (by rw[d2];unfold maxLen;omega))
     obtain⟨z,hz⟩:∃ b,Lx.digits (s.data.toList.drop (p+1))=b:=⟨_,rfl⟩
     rw[d1,hz] at HZ
     have hX:X=if z then 5 else 0:=by rw[I.out,FQ ah,hz]
     clear I d1 d2 hz
     rcases av with a|⟨a,a'⟩ <;> cases z <;> simp at hX <;> subst hX
     all_goals
      go_wp2_with (first|(go_at_call 266;(with_reducible refine U.out.mono ?_);rintro e w1 ⟨rfl,rfl⟩)|(go_at_call 266;(with_reducible refine HZ.out.mono ?_);rintro e w1 ⟨rfl,rfl⟩))
     all_goals
      go_ret
      exact⟨rfl,by trivial⟩
theorem Lx.ways (c:UInt8):
  (Lx.digit c=true/\Lx.hex c=true/\Lx.bit c=true/\((c.toNat:Int) == 48)=true)\/
  (Lx.digit c=true/\Lx.hex c=true/\Lx.bit c=true/\((c.toNat:Int) == 48)=false/\((c.toNat:Int) == 49)=true)\/
  (Lx.digit c=true/\Lx.hex c=true/\Lx.bit c=false/\((c.toNat:Int) == 48)=false/\((c.toNat:Int) == 49)=false)\/
  (Lx.digit c=false/\Lx.hex c=true/\Lx.bit c=false/\((c.toNat:Int) == 48)=false/\((c.toNat:Int) == 49)=false/\decide (97<=(c.toNat:Int))=true/\decide ((c.toNat:Int)<=102)=true)\/
  (Lx.digit c=false/\Lx.hex c=true/\Lx.bit c=false/\((c.toNat:Int) == 48)=false/\((c.toNat:Int) == 49)=false/\decide (97<=(c.toNat:Int))=false/\decide (65<=(c.toNat:Int))=true/\decide ((c.toNat:Int)<=70)=true)\/
  (Lx.digit c=false/\Lx.hex c=false/\Lx.bit c=false/\((c.toNat:Int) == 48)=false/\((c.toNat:Int) == 49)=false/\decide (97<=(c.toNat:Int))=true/\decide ((c.toNat:Int)<=102)=false/\decide (65<=(c.toNat:Int))=true/\decide ((c.toNat:Int)<=70)=false)\/
  (Lx.digit c=false/\Lx.hex c=false/\Lx.bit c=false/\((c.toNat:Int) == 48)=false/\((c.toNat:Int) == 49)=false/\decide (97<=(c.toNat:Int))=false/\decide (65<=(c.toNat:Int))=true/\decide ((c.toNat:Int)<=70)=false)\/
  (Lx.digit c=false/\Lx.hex c=false/\Lx.bit c=false/\((c.toNat:Int) == 48)=false/\((c.toNat:Int) == 49)=false/\decide (97<=(c.toNat:Int))=false/\decide (65<=(c.toNat:Int))=false):=by
 have O:∀ n:Int,(c.toNat:Int)≠n->((c.toNat:Int) == n)=false:=fun n h=>Gx.2 h
 by_cases I:c.toNat=48
 ·exact .inl ⟨by simp[Lx.digit,I],by simp[Lx.hex,Lx.digit,I],by simp[Lx.bit,I],Gw.2 (by omega)⟩
 refine .inr ?_
 have q:=O 48 (by omega)
 by_cases J:c.toNat=49
 ·exact .inl ⟨by simp[Lx.digit,J],by simp[Lx.hex,Lx.digit,J],by simp[Lx.bit,J],q,Gw.2 (by omega)⟩
 refine .inr ?_
 have L:=O 49 (by omega)
 have r:Lx.bit c=false:=by simp[Lx.bit,I,J]
 by_cases hd:Lx.digit c=true
 ·exact .inl ⟨hd,by simp[Lx.hex,hd],r,q,L⟩
 refine .inr ?_
 have hd:=GU.2 hd
 by_cases U:97<=c.toNat/\c.toNat<=102
 ·exact .inl ⟨hd,by simp[Lx.hex,U],r,q,L,FW (by omega),FW (by omega)⟩
 refine .inr ?_
 by_cases V:65<=c.toNat/\c.toNat<=70
 ·exact .inl ⟨hd,by simp[Lx.hex,V],r,q,L,Gq (by omega),FW (by omega),FW (by omega)⟩
 refine .inr ?_
 have Q:Lx.hex c=false:=by
  rw[Lx.hex,hd,Ii,Bool.or_eq_false_iff,Bool.and_eq_false_iff,Bool.and_eq_false_iff]
  simp only[Hr]
  omega
 by_cases X:97<=c.toNat
 ·exact .inl ⟨hd,Q,r,q,L,FW (by omega),Gq (by omega),FW (by omega),Gq (by omega)⟩
 refine .inr ?_
 by_cases Z:65<=c.toNat
 ·exact .inl ⟨hd,Q,r,q,L,Gq (by omega),FW (by omega),Gq (by omega)⟩
 ·exact .inr ⟨hd,Q,r,q,L,Gq (by omega),Gq (by omega)⟩
theorem Lx.wG (a d:UInt8) (y:List UInt8):Lx.other (a::d::y)=((decide (d.toNat=120)||decide (d.toNat=98))&&!y.isEmpty&&y.all fun c=>Lx.hex c&&(!decide (d.toNat=98)||Lx.bit c)):=rfl
theorem Df (s:ByteArray) (w:World) (hs:s.size<=maxLen):
  Calls Tryz.prog 233 #[.string s] w fun e w'=>e=.returned (.bool (Lx.other s.data.toList))/\w'=w:=by
 unfold maxLen at hs
 have hlen:s.data.toList.length=s.size:=by rw[Fv];rfl
 by_cases h3:s.size<3
 ·have e:Lx.other s.data.toList=false:=by
   generalize s.data.toList=S at hlen ⊢
   match S,hlen with
   |[],_=>rfl
   |[_],_=>rfl
   |[_,_],_=>simp[Lx.other]
   |_::_::_::_,h=>simp at h;omega
  rw[e]
  have ao:(s.size:Int)<3:=by omega
  clear hlen e
  go_enter Tryz.func233,Tryz.ntmps233
  go_wp2
  go_ret
  exact⟨rfl,rfl⟩
 have h1:1<s.size:=by omega
 have ao:¬(s.size:Int)<3:=by omega
 have e0:=aD s (i:=0) (by omega)
 have e1:=aD s (i:=1) h1
 rw[Hw] at e0
 have ad:(s.data.toList.drop 2).isEmpty=false:=by
  rw[List.isEmpty_eq_false_iff]
  intro h
  have:=G1 List.length h
  rw[FU] at this
  simp at this
  omega
 rw[show(0:Nat)+1=1 from rfl,e1,show(1:Nat)+1=2 from rfl] at e0
 rw[e0,Lx.wG,ad]
 clear e0 e1 ad hlen
 by_cases hx:s[1].toNat=120\/s[1].toNat=98
 ·obtain⟨I,r⟩:∃ b,decide (s[1].toNat=98)=b:=⟨_,rfl⟩
  have hd:(decide (s[1].toNat=120)||I)=true:=by rw[<-r];simpa using hx
  rw[r,hd]
  obtain⟨P,V⟩:∃ P,P=fun c=>Lx.hex c&&(!I||Lx.bit c):=⟨_,rfl⟩
  have ah:Hid (∀ c,P c=(Lx.hex c&&(!I||Lx.bit c))):=fun c=>by rw[V]
  obtain⟨X,HX⟩:∃ X,Hid ((s.data.toList.drop 2).all P=X):=⟨_,rfl⟩
  rw[<-V,HX.out]
  simp only[Bool.not_false,Bool.and_true,Bool.true_and]
  have a1:((s[1].toNat:Int) == 120)=!I:=by
   rw[<-r]
   by_cases h:s[1].toNat=98
   ·rw[FW h];exact Gx.2 (by omega)
   ·rw[Gq h];exact Gw.2 (by omega)
  have a2:((s[1].toNat:Int) == 98)=I:=by
   rw[<-r]
   by_cases h:s[1].toNat=98
   ·rw[FW h];exact Gw.2 (by omega)
   ·rw[Gq h];exact Gx.2 (by omega)
  clear hx hd r V
  cases I
  all_goals
   simp only[Bool.not_false,Bool.not_true] at a1
   have a3:((s[1].toNat:Int) != 120)=!((s[1].toNat:Int) == 120):=rfl
   have a4:((s[1].toNat:Int) != 98)=!((s[1].toNat:Int) == 98):=rfl
   rw[a1] at a3
   rw[a2] at a4
   simp only[Bool.not_false,Bool.not_true] at a3 a4
   go_enter Tryz.func233,Tryz.ntmps233
   go_wp2
   go_loopw [3] (fun iv wr=>∃ i:Nat,2<=i/\i<=s.size/\iv=.int .i64 (i:Nat)/\wr=w/\Hid ((s.data.toList.drop i).all P=X)) (fun iv _=>s.size-(intOf iv).toNat)
   case atStart=>exact⟨2,by omega,by omega,rfl,rfl,HX⟩
   case round=>
    clear HX
    obtain⟨i,ba,hi,rfl,rfl,HI⟩:=hrel
    by_cases av:i<s.size
    ·have HG:=Gn (oW s[i] wr)
     have Q:=HI.out
     rw[aD s av,List.all_cons,ah.out] at Q
     have a7:(i:Int)<(s.size:Int):=by omega
     clear HI
     rcases Lx.ways s[i] with⟨J,L,O,q⟩|⟨J,L,O,q,Z⟩|⟨J,L,O,q,Z⟩|⟨J,L,O,q,Z,q2,q3⟩|⟨J,L,O,q,Z,q2,q3,q4⟩|⟨J,L,O,q,Z,q2,q3,q4,q5⟩|⟨J,L,O,q,Z,q2,q3,q4⟩|⟨J,L,O,q,Z,q2,q3⟩
     all_goals
      rw[J] at HG
      rw[L,O] at Q
      clear J L O
      simp only[Bool.not_false,Bool.not_true,Bool.or_true,Bool.or_false,Bool.and_true,Bool.and_false,Bool.true_and,Bool.false_and] at Q
      have Q:=Gn Q
      rename_i U
      clear U
      go_wp2_with (go_at_call 230;refine HG.out.mono ?_;rintro e J ⟨rfl,rfl⟩)
      first
      |(
       go_roundw
       case rel=>exact⟨i+1,by omega,by omega,by go_num,by trivial,Q⟩
       case measure=>simp[intOf];omega)
      |(
       go_ret
       exact⟨tK Q.out,by trivial⟩)
    ·obtain rfl:i=s.size:=by omega
     have hX:X=true:=by have:=HI.out;rw[cT] at this;exact this.symm
     subst hX
     clear HI
     go_wp2
     go_ret
     exact⟨rfl,by trivial⟩
 ·have a1:((s[1].toNat:Int) == 120)=false:=Gx.2 (by omega)
  have a2:((s[1].toNat:Int) == 98)=false:=Gx.2 (by omega)
  have e:(decide (s[1].toNat=120)||decide (s[1].toNat=98))=false:=by simpa using hx
  rw[e]
  simp only[Bool.false_and]
  have a3:((s[1].toNat:Int) != 120)=true:=by rw[bne,a1];rfl
  have a4:((s[1].toNat:Int) != 98)=true:=by rw[bne,a2];rfl
  clear e hx
  go_enter Tryz.func233,Tryz.ntmps233
  go_wp2
  go_ret
  exact⟨rfl,rfl⟩
abbrev Em (l:List UInt8):List Value:=l.map fun c=> .int .u8 (c.toNat:Int)
theorem Dr:(Tryz.prog.info? 5).map (fun i=>(i.zero,i.size,i.bytes))=some (some (.int .u8 0),1,1):=by kernel_rfl
def oL (w:World) (B:Nat) (A:Option Addr) (c:Nat) (l:List UInt8):Prop:=w.ownsRow B 5 1 (.slice A l.length c) l.length (Em l)
theorem oL.nil (w:World) (B:Nat):oL w B none 0 []:=Gg _ _ _ _
theorem uu (w:World) {ops:Array Oper} {rest:List Oper} {o:Oper} {a:Act} {Q:Exit->Act->World->Prop} (L:o.guard=none) (s x:Operand)
  (ho:o.op=.call { callee:=.builtin .append,args:=#[s,x],argTypes:=#[229,229] }) (B:Nat) (A:Option Addr) (c:Nat) (l:List UInt8) (n:Nat) (hn:l.length=n) (d:UInt8) (z:Int) (hz:z=(d.toNat:Int))
  (hs:a.eval s=.slice A n c) (I:oL w B A c l) (hx:a.eval x=.slice (some ⟨w.heap.size,0,none⟩) 1 1) (hl:n<=1000000000) (hB:B<=w.heap.size)
  (h:∀ A' J w',oL w' B A' J (l++[d])->w.grownBy w' (Value.slice A n c).ownBlock->wpList Tryz.prog ops Q rest (a.put o.dst (.slice A' (n+1) J)) w'):
  wpList Tryz.prog ops Q (o::rest) a (w.alloc (.cells #[.int .u8 z] 5)):=by
 subst hn
 subst hz
 obtain⟨i0,hi,U,V,X⟩:=Gj Dr
 refine cZ _ L s x 229 ho B 5 i0 (.int .u8 0) 1 Tryz.underlying229 hi U V X rfl _ l.length (Em l) hs (Gk I _) ⟨w.heap.size,0,none⟩ 1 1 [.int .u8 (d.toNat:Int)] hx rfl (Gm _ _ _) (fun u hu=>by simp at hu;subst hu;rfl) (by unfold maxLen;omega) (by omega) (by simp;omega) ?_
 intro A' J w' Z r _
 refine h A' J w' ?_ ?_
 ·unfold oL
  have e:Em l++[.int .u8 (d.toNat:Int)]=Em (l++[d]):=by simp
  rw[e] at Z
  rw[Gb]
  exact Z
 ·refine⟨r.os,r.tape,r.output,Fo (by simp) r.size,fun k hk O=>(r.block k (by simp;omega) O).trans (Fq w _ k hk)⟩
theorem DR {w:World} {B:Nat} {A:Option Addr} {c:Nat} {l:List UInt8} (n:Nat) (hn:l.length=n) (h:oL w B A c l):
  (convert 229 9 (.slice A n c)).run Tryz.prog w=.ok (.string ⟨l.toArray⟩) w:=by
 subst hn
 rcases h.2 with⟨e,L⟩|⟨g,cap,cur,e,_⟩
 ·injection e with r J I
  subst r
  subst I
  obtain rfl:l=[]:=FV L
  rw[run_convert_bytes_string w 229 9 5 _ _ _ Tryz.underlying229 Tryz.underlying5 Tryz.underlying9]
  rfl
 ·injection e with r J I
  subst r
  exact run_convert_bytes_back w 229 9 5 ⟨g,0,none⟩ c l Tryz.underlying229 Tryz.underlying5 Tryz.underlying9 fun j O=>by
   have:=h.cells (g:=g) rfl j (.int .u8 (l[j].toNat:Int)) (by rw[Fj,Ge O];rfl)
   exact this
theorem Lx.vC {q c:UInt8} (t:List UInt8) (h:Lx.good c=true) (hc:c≠q):Lx.quo q (c::t)=(c::(Lx.quo q t).1,(Lx.quo q t).2):=by
 cases t with
 |nil=>simp[Lx.quo,h,hc]
 |cons d t=>rw[Lx.quo,Fx h,FQ hc]
theorem Lx.zC {q c:UInt8} (t:List UInt8) (h:Lx.good c=false):Lx.quo q (c::t)=([],50,c::t):=by
 cases t <;> simp[Lx.quo,h]
theorem Lx.yc {q:UInt8} (t:List UInt8) (r:Lx.good q=true) (h:¬(q.toNat=34/\∃ u,t=q::u)):Lx.quo q (q::t)=([],0,t):=by
 cases t with
 |nil=>simp[Lx.quo,r]
 |cons d t=>rw[Lx.quo,Fx r,Fx rfl,FQ (fun e=>h ⟨e.1,t,by rw[e.2]⟩)]
theorem Lx.uF {q:UInt8} (t:List UInt8) (r:Lx.good q=true) (h:q.toNat=34):Lx.quo q (q::q::t)=(q::(Lx.quo q t).1,(Lx.quo q t).2):=by
 rw[Lx.quo,Fx r,Fx rfl,Fx ⟨h,rfl⟩]
structure DV (s:ByteArray) (a:Nat) (x:List UInt8×Int×List UInt8) (w:World) (e:Ending) (w':World):Prop where
 below:Below w.heap.size w w'
 ok:x.2.1=0->∃ k:Nat,e=.returned (.tuple #[.string ⟨x.1.toArray⟩,.int .i64 (k:Nat),.int .i64 0,.int .i64 0])/\a<k/\k<=s.size/\s.data.toList.drop k=x.2.2
 bad:x.2.1=50->∃ k:Nat,e=.returned (.tuple #[.string ⟨#[]⟩,.int .i64 0,.int .i64 50,.int .i64 (k:Nat)])/\a<k/\k<s.size/\s.data.toList.drop k=x.2.2
 open_:x.2.1=51->e=.returned (.tuple #[.string ⟨#[]⟩,.int .i64 0,.int .i64 51,.int .i64 (a:Nat)])
theorem Ak (s:ByteArray) (a:Nat) (w:World) (hs:s.size<=1000000) (ha:a<s.size) (hq:s[a].toNat=34\/s[a].toNat=124):
  Calls Tryz.prog 229 #[.string s,.int .i64 (a:Nat)] w (DV s a (Lx.quo s[a] (s.data.toList.drop (a+1))) w):=by
 obtain⟨q,ad⟩:∃ q,q=s[a]:=⟨_,rfl⟩
 rw[<-ad] at hq ⊢
 have a7:Lx.good q=true:=by
  rcases hq with h|h <;> simp[Lx.good,Lx.blank,h]
 have ao:=Gn a7
 obtain⟨X,HX⟩:∃ X,Hid (Lx.quo q (s.data.toList.drop (a+1))=X):=⟨_,rfl⟩
 rw[HX.out]
 have bz:∀ h,s[a]'h=q:=fun _=>ad.symm
 clear ad a7
 go_enter Tryz.func229,Tryz.ntmps229
 go_wp2
 go_loopw [8,9] (fun ov iv wr=>∃ (i:Nat) (A:Option Addr) (c m:Nat) (l:List UInt8),a<i/\i<=s.size/\m<=i/\iv=.int .i64 (i:Nat)/\ov=.slice A m c/\Below w.heap.size w wr/\Hid (oL wr w.heap.size A c l/\l.length=m/\X=(l++(Lx.quo q (s.data.toList.drop i)).1,(Lx.quo q (s.data.toList.drop i)).2))) (fun _ iv _=>s.size-(intOf iv).toNat)
 case atStart=>exact⟨a+1,none,0,0,[],by omega,by omega,by omega,by go_num,rfl,by first|exact Gp _ _|assumption,⟨oL.nil _ _,rfl,by rw[HX.out];rfl⟩⟩
 case round=>
  clear HX
  obtain⟨i,A,c,m,l,bb,hi,bC,rfl,rfl,hb,U⟩:=hrel
  by_cases a1:i<s.size
  ·have HD:=aD s a1
   have HG:=Gn (wm s[i] wr)
   obtain⟨g,J⟩:∃ g,Lx.good s[i]=g:=⟨_,rfl⟩
   rw[J] at HG
   have bp:(i:Int)<(s.size:Int):=by omega
   have bo:(a:Int)<(s.size:Int):=by omega
   obtain⟨V,I,L⟩:=U.out
   rw[HD] at L
   cases g with
   |false=>
    rw[Lx.zC _ J] at L
    have O:Hid (X.2.1=50/\s.data.toList.drop i=X.2.2):=by
     show _/\_
     rw[L,HD]
     exact⟨rfl,rfl⟩
    clear L HD U V I J
    go_wp2_with (go_at_call 176;refine HG.out.mono ?_;rintro e w1 ⟨rfl,rfl⟩)
    exact GD (v:=.tuple #[.string ⟨#[]⟩,.int .i64 0,.int .i64 50,.int .i64 (i:Nat)]) (by simp[results,Tryz.results229,go_sem]) rfl ⟨hb,fun h=>(by rw[O.out.1] at h;cases h),fun _=>⟨i,rfl,bb,a1,O.out.2⟩,fun h=>(by rw[O.out.1] at h;cases h)⟩
   |true=>
    have Z:Hid (∀ k,oL (wr.drewN k) w.heap.size A c l):=fun k=>(ae.drewN (ae.refl (fun _=>False) wr) k).own V (fun _ _=>id)
    have ah:Hid (∀ k w2,(wr.drewN k).grownBy w2 (Value.slice A m c).ownBlock->Below w.heap.size w w2):=fun k w2 g2=>(hb.trans ((ae.none_ ((ae.refl (fun _=>False) wr).drewN k) (fun _=>id)).mono hb.size)).grown g2 hb.size (fun k hk=>(V.lt k (by rw[I];exact hk)).1)
    have av:w.heap.size<=wr.heap.size:=hb.size
    by_cases hc:s[i]=q
    ·have bl:((s[i].toNat:Int) != (q.toNat:Int))=false:=by rw[hc];simp
     have r:34=q.toNat->∀ h:i+1<s.size,s[i+1].toNat=34->s.data.toList.drop (i+1)=q::s.data.toList.drop (i+2):=fun h1 h h2=>by
      rw[aD s h]
      congr 1
      rw[Lx.ec h2,Lx.ec h1.symm]
     by_cases hd:q.toNat=34/\∃ h:i+1<s.size,s[i+1].toNat=34
     ·obtain⟨Q,h1,h2⟩:=hd
      have b1:((q.toNat:Int) == 34)=true:=Gw.2 (by omega)
      have b2:((s[i+1].toNat:Int) == 34)=true:=Gw.2 (by omega)
      have bB:(i:Int)+1<(s.size:Int):=by omega
      rw[r Q.symm h1 h2,hc,Lx.uF _ ao.out Q] at L
      have HO:=Gn V
      have HL:=Gn I
      have HX:=Gn L
      have bn:IntKind.i64.wrap ((i:Int)+1)=((i+1:Nat):Int):=GR _ (by omega)
      clear L HD U V I J hc r h2
      go_wp2_with (go_at_call 176;refine HG.out.mono ?_;rintro e w1 ⟨rfl,rfl⟩)
      go_quiet (fail)
      go_wp2_with (at_builtin;refine uu _ rfl (.tmp 55) (.tmp 56) rfl w.heap.size A c l m HL.out q _ (by omega) rfl (Z.out _) rfl (by omega) av ?_;intro A2 c2 w2 o2 g2;have O2:=Gn o2;have B2:=Gn (ah.out _ _ g2);clear o2 g2)
      go_roundw
      case rel=>exact⟨i+2,A2,c2,m+1,l++[q],by omega,by omega,by omega,by go_num,rfl,B2.out,⟨O2.out,by rw[Gb,HL.out];rfl,by rw[HX.out];simp⟩⟩
      case measure=>simp[intOf];omega
     ·rw[hc,Lx.yc _ ao.out (fun⟨e1,u,e2⟩=>hd ⟨e1,by
       by_cases h:i+1<s.size
       ·refine⟨h,?_⟩
        rw[aD s h] at e2
        injection e2 with e3 e4
        rw[e3,e1]
       ·obtain e5:i+1=s.size:=by omega
        rw[e5,cT] at e2
        cases e2⟩)] at L
      have O:Hid (X.2.1=0/\X.1=l/\s.data.toList.drop (i+1)=X.2.2):=by
       show _/\_/\_
       rw[L]
       exact⟨rfl,by simp,rfl⟩
      have bx:∀ k,(convert 229 9 (.slice A m c)).run Tryz.prog (wr.drewN k)=.ok (.string ⟨l.toArray⟩) (wr.drewN k):=fun k=>DR m I (Z.out k)
      have ba:Hid (∀ k,Below w.heap.size w (wr.drewN k)):=fun k=>hb.trans ((ae.none_ ((ae.refl (fun _=>False) wr).drewN k) (fun _=>id)).mono hb.size)
      have bn:IntKind.i64.wrap ((i:Int)+1)=((i+1:Nat):Int):=GR _ (by omega)
      have hw:((q.toNat:Int) == 34)=false\/((q.toNat:Int) == 34)=true/\(¬(i:Int)+1<(s.size:Int)\/∃ h:i+1<s.size,(i:Int)+1<(s.size:Int)/\((s[i+1].toNat:Int) == 34)=false):=by
       by_cases Q:q.toNat=34
       ·refine .inr ⟨Gw.2 (by omega),?_⟩
        by_cases h:i+1<s.size
        ·exact .inr ⟨h,by omega,Gx.2 fun e=>hd ⟨Q,h,by omega⟩⟩
        ·exact .inl (by omega)
       ·exact .inl (Gx.2 (by omega))
      clear L HD U V I J hc r hd
      rcases hw with b1|⟨b1,b2|⟨h1,b2,b3⟩⟩
      all_goals
       go_wp2_with (go_at_call 176;refine HG.out.mono ?_;rintro e w1 ⟨rfl,rfl⟩)
       go_quiet (fail)
       go_wp2
       exact GD (v:=.tuple #[.string ⟨l.toArray⟩,.int .i64 ((i+1:Nat):Int),.int .i64 0,.int .i64 0]) (by simp[results,Tryz.results229,go_sem]) rfl ⟨ba.out _,fun _=>⟨i+1,by rw[O.out.2.1],by omega,by omega,O.out.2.2⟩,fun h=>(by rw[O.out.1] at h;cases h),fun h=>(by rw[O.out.1] at h;cases h)⟩
    ·have bl:((s[i].toNat:Int) != (q.toNat:Int))=true:=by
      rw[bne_iff_ne]
      intro e
      exact hc (UInt8.toNat_inj.1 (by omega))
     rw[Lx.vC _ J hc] at L
     have HO:=Gn V
     have HL:=Gn I
     have HX:=Gn L
     clear L HD U V I J hc
     go_wp2_with (go_at_call 176;refine HG.out.mono ?_;rintro e w1 ⟨rfl,rfl⟩)
     go_quiet (fail)
     go_wp2_with (at_builtin;refine uu _ rfl (.tmp 31) (.tmp 35) rfl w.heap.size A c l m HL.out s[i] _ rfl rfl (Z.out _) rfl (by omega) av ?_;intro A2 c2 w2 o2 g2;have O2:=Gn o2;have B2:=Gn (ah.out _ _ g2);clear o2 g2)
     go_roundw
     case rel=>exact⟨i+1,A2,c2,m+1,l++[s[i]],by omega,by omega,by omega,by go_num,rfl,B2.out,⟨O2.out,by rw[Gb,HL.out];rfl,by rw[HX.out];simp⟩⟩
     case measure=>simp[intOf];omega
  ·obtain rfl:i=s.size:=by omega
   rw[cT] at U
   have O:Hid (X.2.1=51):=by
    show _=_
    rw[U.out.2.2]
    rfl
   clear U
   go_wp2
   exact GD (v:=.tuple #[.string ⟨#[]⟩,.int .i64 0,.int .i64 51,.int .i64 (a:Nat)]) (by simp[results,Tryz.results229,go_sem]) rfl ⟨hb,fun h=>(by rw[O.out] at h;cases h),fun h=>(by rw[O.out] at h;cases h),fun _=>rfl⟩
end Go.Proofs.YtdbgiijdgedggaaGreatDoor
namespace Go.Proofs.YtdbgiijdgedggaaGreatDoor
theorem Bd.rK {x:Sx} {q:ByteArray×Sx} (h:Bd.bI x=some q):x.list=true:=by
 obtain⟨b,k,T,ta,a,L⟩:=x
 unfold Bd.bI at h
 simp only at h
 split at h
 ·split at h
  ·rename_i e;exact e.1
  ·cases h
 ·cases h
end Go.Proofs.YtdbgiijdgedggaaGreatDoor
