import Derived.Test.YtdbgiijdgedggaaGreatDoorQM01
set_option linter.unusedSimpArgs false
set_option linter.unusedVariables false
set_option maxRecDepth 100000
set_option maxHeartbeats 25600000
namespace Go.Proofs.YtdbgiijdgedggaaGreatDoor
open Go.RowKit
theorem Lt.bM (s:ByteArray) (a b:Nat) (hb:b<=s.size) (ha:a<=b):(s.extract a b).data.toList=(s.data.toList.drop a).take (b-a)/\(s.extract a b).size=b-a:=by
 have h:(s.extract a b).size=b-a:=by rw[ByteArray.size_extract];omega
 refine⟨?_,h⟩
 rw[ByteArray.data_extract,Array.toList_extract]
theorem Lt.cC (s:ByteArray) (a b:Nat) (hb:b<=s.size) (ha:a<=b) (w:World):(Instr.slice 9 (.string s) (some (.int .i64 (a:Int))) (some (.int .i64 (b:Int))) none).run Tryz.prog w=.ok (.string (s.extract a b)) w:=by
 rw[run_slice_string_if _ _ _ _ _ _ _ Tryz.underlying9,Fx (by omega),Fx (by omega)]
 rfl
def Lt.qx (c:UInt8):Int:=match Lt.kh c with
 |some d=>(d:Int)
 |none=> -1
def Lt.oq (l:List UInt8):Int:=match Lt.num l with
 |some n=>(n:Int)
 |none=> -1
def Lt.fW (i:Nat):Nat:=if i<10 then 48+i else 87+i
def Lt.BD (i n:Nat):Bool:=if Lt.fW i=n\/(97<=Lt.fW i/\Lt.fW i=n+32) then decide (Lt.kh (UInt8.ofNat n)=some i) else !decide (Lt.kh (UInt8.ofNat n)=some i)
theorem Lt.vd:((List.range 16).all fun i=>(List.range 256).all fun n=>Lt.BD i n)=true:=by decide +kernel
theorem Lt.wU (i:Nat) (hi:i<16) (n:Nat) (hn:n<256):(Lt.fW i=n->Lt.kh (UInt8.ofNat n)=some i)/\(97<=Lt.fW i->Lt.fW i=n+32->Lt.kh (UInt8.ofNat n)=some i)/\(Lt.fW i≠n->(97<=Lt.fW i->Lt.fW i≠n+32)->Lt.kh (UInt8.ofNat n)≠some i):=by
 have h:=Gt.1 (Gt.1 Lt.vd i (Gu.2 hi)) n (Gu.2 hn)
 unfold Lt.BD at h
 split at h
 ·rename_i hc
  have O:=FX h
  exact⟨fun _=>O,fun _ _=>O,fun r I=>by
   rcases hc with hc|⟨J,L⟩
   ·exact absurd hc r
   ·exact absurd L (I J)⟩
 ·rename_i hc
  refine⟨fun r=>absurd (.inl r) hc,fun r I=>absurd (.inr ⟨r,I⟩) hc,fun _ _=>?_⟩
  simpa using h
theorem Lt.zw {i:Nat} (h:i<16):((⟨#[48,49,50,51,52,53,54,55,56,57,97,98,99,100,101,102]⟩:ByteArray)[i]'h).toNat=Lt.fW i:=by
 have:∀ i:Fin 16,((⟨#[48,49,50,51,52,53,54,55,56,57,97,98,99,100,101,102]⟩:ByteArray)[i.1]'i.2).toNat=Lt.fW i.1:=by decide
 exact this ⟨i,h⟩
theorem zo (c:UInt8) (w:World):Calls Tryz.prog 247 #[.int .u8 (c.toNat:Nat)] w fun e w'=>e=.returned (.int .i64 (Lt.qx c))/\w'=w:=by
 have hc:=c.toNat_lt
 obtain⟨n,hn⟩:∃ n,c.toNat=n:=⟨_,rfl⟩
 have O:c=UInt8.ofNat n:=by rw[<-hn];simp
 have V:=Gn fun(i:Nat) (hi:i<16)=>Lt.wU i hi n (by omega)
 obtain⟨X,HX⟩:∃ X,Hid (Lt.qx c=X):=⟨_,rfl⟩
 rw[HX.out,hn]
 have J:Hid (∀ i:Nat,Lt.kh (UInt8.ofNat n)=some i->X=i):=fun i h=>by rw[<-HX.out,O,Lt.qx,h]
 have U:Hid ((∀ i:Nat,i<16->Lt.kh (UInt8.ofNat n)≠some i)->X= -1):=fun h=>by
  rw[<-HX.out,O,Lt.qx]
  cases e:Lt.kh (UInt8.ofNat n) with
  |none=>rfl
  |some d=>exact absurd e (h d (Lt.rH e))
 have a1:(n:Int)<256:=by omega
 clear O HX hc hn
 go_enter Tryz.func247,Tryz.ntmps247
 go_wp2
 have HM:Hid (∀ (i:Nat) (h:i<16),((⟨#[48,49,50,51,52,53,54,55,56,57,97,98,99,100,101,102]⟩:ByteArray)[i]'h).toNat=Lt.fW i):=fun _ h=>Lt.zw h
 generalize hS:(⟨#[48,49,50,51,52,53,54,55,56,57,97,98,99,100,101,102]⟩:ByteArray)=S
 have a7:S.size=16:=by rw[<-hS];rfl
 have HS:Hid (∀ i (h:i<S.size),S[i].toNat=Lt.fW i):=by
  subst hS
  exact fun i h=>HM.out i (by rw[a7] at h;exact h)
 clear hS HM
 go_loopw [4] (fun iv wr=>∃ i:Nat,i<=16/\iv=.int .i64 (i:Nat)/\wr=w/\Hid (∀ j,j<i->Lt.kh (UInt8.ofNat n)≠some j)) (fun iv _=>16-(intOf iv).toNat)
 case atStart=>exact⟨0,by omega,rfl,rfl,fun j hj=>absurd hj (Gv _)⟩
 case round=>
  obtain⟨i,hi,rfl,rfl,I⟩:=hrel
  by_cases av:i<16
  ·have ad:i<S.size:=by omega
   obtain⟨k1,k2,Z⟩:=V.out i av
   have hv:=HS.out i ad
   have ba:(i:Int)<16:=by omega
   have h0:(0:Int)<=(i:Int):=by omega
   have r:Lt.fW i<103:=by unfold Lt.fW;split <;> omega
   by_cases L:Lt.fW i=n
   ·have hX:=J.out i (k1 L)
    have hb:((S[i].toNat:Int) == (n:Int))=true:=Gw.2 (by omega)
    subst hX
    clear k1 k2 Z hv I J U V L r
    go_wp2
    go_ret
    exact⟨rfl,rfl⟩
   ·have hb:((S[i].toNat:Int) == (n:Int))=false:=Gx.2 (by omega)
    by_cases h2:97<=Lt.fW i
    ·have ah:(97:Int)<=(S[i].toNat:Int):=by omega
     have bb:IntKind.u8.wrap ((S[i].toNat:Int)-32)=(S[i].toNat:Int)-32:=by
      rw[hv]
      simp[IntKind.wrap,IntKind.bits,IntKind.signed] <;> omega
     by_cases h3:Lt.fW i=n+32
     ·have hX:=J.out i (k2 h2 h3)
      have ao:((S[i].toNat:Int)-32 == (n:Int))=true:=Gw.2 (by omega)
      subst hX
      clear k1 k2 Z hv I J U V L h2 h3 r
      go_wp2
      go_ret
      exact⟨rfl,rfl⟩
     ·have ao:((S[i].toNat:Int)-32 == (n:Int))=false:=Gx.2 (by omega)
      have HN:Hid (∀ j,j<i+1->Lt.kh (UInt8.ofNat n)≠some j):=fun j hj=>by
       by_cases Q:j<i
       ·exact I.out j Q
       ·obtain rfl:j=i:=by omega
        exact Z L fun _=>h3
      clear k1 k2 Z hv I J U V L h2 h3 r
      go_wp2
      go_roundw
      case rel=>exact⟨i+1,by omega,by go_num,by first|rfl|trivial,HN⟩
      case measure=>simp[intOf];omega
    ·have ah:¬(97:Int)<=(S[i].toNat:Int):=by omega
     have HN:Hid (∀ j,j<i+1->Lt.kh (UInt8.ofNat n)≠some j):=fun j hj=>by
      by_cases Q:j<i
      ·exact I.out j Q
      ·obtain rfl:j=i:=by omega
       exact Z L fun h=>absurd h h2
     clear k1 k2 Z hv I J U V L h2 r
     go_wp2
     go_roundw
     case rel=>exact⟨i+1,by omega,by go_num,by first|rfl|trivial,HN⟩
     case measure=>simp[intOf];omega
  ·obtain rfl:i=16:=by omega
   have hX:=U.out I.out
   subst hX
   clear I J U V
   go_wp2
   go_ret
   exact⟨rfl,rfl⟩
theorem kD (T:ByteArray) (w:World) (hT:T.size<=6):Calls Tryz.prog 187 #[.string T] w fun e w'=>e=.returned (.int .i64 (Lt.oq T.data.toList))/\w'=w:=by
 obtain⟨X,r⟩:∃ X,Hid (Lt.oq T.data.toList=X):=⟨_,rfl⟩
 rw[r.out]
 have HL:Hid (T.data.toList.length=T.size):=Lt.ar T
 go_enter Tryz.func187,Tryz.ntmps187
 go_wp2
 go_loopw [3,4] (fun nv iv wr=>∃ i n:Nat,i<=T.size/\iv=.int .i64 (i:Nat)/\nv=.int .i64 (n:Nat)/\wr=w/\Hid (Lt.val 0 T.data.toList=Lt.val n (T.data.toList.drop i)/\n<16^i)) (fun _ iv _=>T.size-(intOf iv).toNat)
 case atStart=>exact⟨0,0,Fz _,rfl,rfl,rfl,rfl,by decide⟩
 case round=>
  obtain⟨i,n,hi,rfl,rfl,rfl,J⟩:=hrel
  have h:n<16^6:=Fp J.out.2 (Gy (by decide) (by omega))
  have a7:n<16777216:=h
  by_cases Z:i<T.size
  ·have O:=Lt.aD T Z
   have U:=Gn (zo T[i] wr)
   have ao:(i:Int)<(T.size:Int):=by omega
   have h0:(0:Int)<=(i:Int):=by omega
   obtain⟨hv,hp⟩:=J.out
   rw[O] at hv
   cases hd:Lt.kh T[i] with
   |none=>
    rw[Lt.gd _ hd] at hv
    have L:X= -1:=by
     rw[<-r.out,Lt.oq,Lt.num]
     split
     ·rename_i e
      split at e
      ·cases e
      ·rw[hv] at e;cases e
     ·rfl
    subst L
    have Q:Lt.qx T[i]= -1:=by rw[Lt.qx,hd]
    rw[Q] at U
    clear hv hp J r O hd Q h
    go_wp2_with (go_at_call 247;refine U.out.mono ?_;rintro e w1 ⟨rfl,rfl⟩)
    go_ret
    exact⟨rfl,rfl⟩
   |some d=>
    have ah:=Lt.rH hd
    rw[Lt.gx _ hd] at hv
    have Q:Lt.qx T[i]=(d:Int):=by rw[Lt.qx,hd]
    rw[Q] at U
    have HN:Hid (Lt.val 0 T.data.toList=Lt.val (n*16+d) (T.data.toList.drop (i+1))/\n*16+d<16^(i+1)):=by
     refine⟨hv,?_⟩
     rw[FH]
     omega
    have a1:¬(d:Int)<0:=by omega
    clear hv hp J O hd Q h
    go_wp2_with (go_at_call 247;refine U.out.mono ?_;rintro e w1 ⟨rfl,rfl⟩)
    go_roundw
    case rel=>exact⟨i+1,n*16+d,by omega,by go_num,by go_num,by first|rfl|trivial,HN.out⟩
    case measure=>simp[intOf];omega
  ·obtain rfl:i=T.size:=by omega
   have hv:=J.out.1
   rw[Gz (by rw[HL.out];exact Fm _),Lt.val] at hv
   by_cases hz:T.size=0
   ·have he:T=⟨#[]⟩:=Lt.dK (by rw[FV (HL.out.trans hz)])
    have L:X= -1:=by
     rw[<-r.out,he]
     rfl
    subst L
    subst he
    clear hv J r HL h
    go_wp2
    go_ret
    exact⟨rfl,rfl⟩
   ·have I:T.data.toList≠[]:=fun e=>hz (by rw[<-HL.out,e];rfl)
    have av:(T.toList == [])=false:=by rw[GA];exact Gx.2 I
    by_cases hm:n<=196607
    ·have L:X=(n:Int):=by
      rw[<-r.out,Lt.oq,Lt.dR.2 ⟨I,hv,hm⟩]
     subst L
     have ad:¬(196607:Int)<(n:Int):=by omega
     clear hv J r HL h I hm hz
     go_wp2
     go_ret
     exact⟨rfl,rfl⟩
    ·have L:X= -1:=by
      rw[<-r.out,Lt.oq]
      cases e:Lt.num T.data.toList with
      |none=>rfl
      |some m=>
       obtain⟨_,V,e3⟩:=Lt.dR.1 e
       rw[hv] at V
       injection V with V
       omega
     subst L
     have ad:(196607:Int)<(n:Int):=by omega
     clear hv J r HL h I hm hz
     go_wp2
     go_ret
     exact⟨rfl,rfl⟩
theorem Lt.kX {q:List UInt8}:∀ (m k:Nat),q.length<=k->Lt.dX q m k=none
 |0,_,_=>rfl
 |m+1,k,h=>by rw[Lt.dX,GB h,FQ (by simp),Lt.kX m (k+1) (by omega)]
theorem Lt.ru {q:List UInt8} {m k:Nat} (h:q[k]?≠some 125):Lt.dX q (m+1) k=Lt.dX q m (k+1):=by rw[Lt.dX,FQ h]
theorem Lt.uM {q:List UInt8} {m k n:Nat} (h:q[k]?=some 125) (hn:Lt.num (q.take k)=some n):Lt.dX q (m+1) k=some (n,q.drop (k+1)):=by rw[Lt.dX,Fx h,hn]
theorem Lt.vT {q:List UInt8} {m k:Nat} (h:q[k]?=some 125) (hn:Lt.num (q.take k)=none):Lt.dX q (m+1) k=Lt.dX q m (k+1):=by rw[Lt.dX,Fx h,hn]
theorem Lt.nI {l:List UInt8} {n:Nat} (h:Lt.num l=some n):Lt.oq l=(n:Int):=by rw[Lt.oq,h]
theorem Lt.jT {l:List UInt8} (h:Lt.num l=none):Lt.oq l= -1:=by rw[Lt.oq,h]
theorem Lt.Ae (t:List UInt8):Lt.num (123::t)=none:=by
 cases e:Lt.num (123::t) with
 |none=>rfl
 |some n=>
  have:=(Lt.dR.1 e).2.1
  rw[Lt.gd _ Lt.AP] at this
  cases this
def gr (s:ByteArray) (a:Nat) (e:Ending):Prop:=∃ c k:Nat,e=.returned (.tuple #[.int .i64 (c:Nat),.int .i64 (k:Nat)])/\a<k/\k<=s.size/\c<=196607/\Lt.one (s.data.toList.drop a)=(c,s.data.toList.drop k)
theorem gr.of {s:ByteArray} {a c k:Nat} (r:a<k) (I:k<=s.size) (h:Lt.one (s.data.toList.drop a)=(c,s.data.toList.drop k)):gr s a (.returned (.tuple #[.int .i64 (c:Nat),.int .i64 (k:Nat)])):=by
 refine⟨c,k,rfl,r,I,?_,h⟩
 have hl:0<(s.data.toList.drop a).length:=by rw[FU,Lt.ar];omega
 cases hd:s.data.toList.drop a with
 |nil=>rw[hd] at hl;cases hl
 |cons x t=>
  have:=(Lt.gP x t).1
  rw[<-hd,h] at this
  exact this
theorem Lt.xV (s:ByteArray) {a k:Nat} (h:a+k<s.size):(s.data.toList.drop a)[k]?=some s[a+k]:=by
 rw[List.getElem?_drop]
 have r:a+k<s.data.toList.length:=by rw[Lt.ar];exact h
 rw[Ge r]
 rfl
theorem Lt.head_drop (s:ByteArray) {a:Nat} (h:a<s.size):(s.data.toList.drop a).head?=some s[a]:=by rw[Lt.aD s h];rfl
theorem Lt.ec {c:UInt8} {n:Nat} (h:c.toNat=n):c=UInt8.ofNat n:=by rw[<-h];simp
theorem CC (s:ByteArray) (a:Nat) (w:World) (hs:s.size<=100000000) (ha:a<s.size):
  Calls Tryz.prog 145 #[.string s,.int .i64 (a:Nat)] w fun e w'=>gr s a e/\w'=w:=by
 have U:=Lt.aD s ha
 have b1:(a:Int)<(s.size:Int):=by omega
 have bT:(0:Int)<=(a:Int):=by omega
 have r:wrap64 (s[a].toNat:Int)=(s[a].toNat:Int):=by
  have:=s[a].toNat_lt
  unfold wrap64
  omega
 obtain⟨L,X⟩:∃ L:Ending->World->Prop,L=fun e w'=>gr s a e/\w'=w:=⟨_,rfl⟩
 rw[<-X]
 have HP:Hid (∀ c k:Nat,a<k->k<=s.size->Lt.one (s.data.toList.drop a)=(c,s.data.toList.drop k)->L (.returned (.tuple #[.int .i64 (c:Nat),.int .i64 (k:Nat)])) w):=fun c k h1 h2 h3=>by
  rw[X]
  exact⟨gr.of h1 h2 h3,rfl⟩
 clear X
 have plain:Lt.one (s.data.toList.drop a)=(s[a].toNat,s.data.toList.drop (a+1))->L (.returned (.tuple #[.int .i64 (s[a].toNat:Nat),.int .i64 ((a:Int)+1)])) w:=fun h=>by
  have:=HP.out s[a].toNat (a+1) (by omega) (by omega) h
  exact this
 have Q:=Gn plain
 clear plain
 by_cases h1:s[a]=92
 case neg=>
  have I:Lt.one (s.data.toList.drop a)=(s[a].toNat,s.data.toList.drop (a+1)):=by
   rw[U,Lt.fp fun h=>h1 h.1]
  have HR:=Gn (Q.out I)
  have hb:((s[a].toNat:Int) == 92)=false:=Gx.2 fun e=>h1 (Lt.ec (n:=92) (by omega))
  clear I HP Q U h1
  go_enter Tryz.func145,Tryz.ntmps145
  go_wp2
  all_goals
   first|exact HR.out|(rw[r];exact HR.out)|exact GD (by simp[results,Tryz.results145,go_sem]) rfl HR.out|(rw[r];exact GD (by simp[results,Tryz.results145,go_sem]) rfl HR.out)
 case pos=>
  have hb:((s[a].toNat:Int) == 92)=true:=by rw[h1];rfl
  by_cases h2:a+1<s.size
  case neg=>
   have I:Lt.one (s.data.toList.drop a)=(s[a].toNat,s.data.toList.drop (a+1)):=by
    rw[U,Lt.fp fun h=>?_]
    have:=h.2
    rw[Gz (by rw[Lt.ar];omega)] at this
    cases this
   have HR:=Gn (Q.out I)
   have q1:¬(a:Int)+2<(s.size:Int):=by omega
   have q2:¬(a:Int)+6<=(s.size:Int):=by omega
   clear I HP Q U h1
   go_enter Tryz.func145,Tryz.ntmps145
   go_wp2
   first|exact HR.out|(rw[r];exact HR.out)|exact GD (by simp[results,Tryz.results145,go_sem]) rfl HR.out|(rw[r];exact GD (by simp[results,Tryz.results145,go_sem]) rfl HR.out)
  case pos=>
   have ao:=Lt.aD s h2
   by_cases h3:s[a+1]=117
   case neg=>
    have I:Lt.one (s.data.toList.drop a)=(s[a].toNat,s.data.toList.drop (a+1)):=by
     rw[U,Lt.fp fun h=>?_]
     have:=h.2
     rw[ao] at this
     injection this with this
     exact h3 this
    have HR:=Gn (Q.out I)
    have bB:((s[a+1].toNat:Int) == 117)=false:=Gx.2 fun e=>h3 (Lt.ec (n:=117) (by omega))
    have bl:(a:Int)+1<(s.size:Int):=by omega
    clear I HP Q U ao h1 h3
    go_enter Tryz.func145,Tryz.ntmps145
    go_wp2
    all_goals
     first|exact HR.out|(rw[r];exact HR.out)|exact GD (by simp[results,Tryz.results145,go_sem]) rfl HR.out|(rw[r];exact GD (by simp[results,Tryz.results145,go_sem]) rfl HR.out)
   case pos=>
    have bB:((s[a+1].toNat:Int) == 117)=true:=by rw[h3];rfl
    have bl:(a:Int)+1<(s.size:Int):=by omega
    have HO:Hid (Lt.one (s.data.toList.drop a)=(Lt.yM (s.data.toList.drop (a+2))).getD (92,s.data.toList.drop (a+1))):=by
     show _=_
     rw[U,ao,h1,h3,Lt.gN]
    have HN:Hid (Lt.yM (s.data.toList.drop (a+2))=none->L (.returned (.tuple #[.int .i64 (s[a].toNat:Nat),.int .i64 ((a:Int)+1)])) w):=fun h=>by
     refine Q.out ?_
     rw[HO.out,h,h1]
     rfl
    clear U ao Q h3
    by_cases h4:∃ h:a+2<s.size,s[a+2]=123
    ·obtain⟨h4,h5⟩:=h4
     have b2:((s[a+2].toNat:Int) == 123)=true:=by rw[h5];rfl
     have bE:(a:Int)+2<(s.size:Int):=by omega
     have ba:s.data.toList.drop (a+2)=123::s.data.toList.drop (a+3):=by rw[Lt.aD s h4,h5]
     obtain⟨q,hq⟩:∃ q,s.data.toList.drop (a+3)=q:=⟨_,rfl⟩
     have bp:q.length=s.size-(a+3):=by rw[<-hq,FU,Lt.ar]
     have HE:Hid (Lt.yM (s.data.toList.drop (a+2))=Lt.dX q 5 1):=by
      show _=_
      rw[ba,Lt.gS,hq,Lt.iu]
     have HQ:Hid (∀ k,a+3+k<s.size->∀ h,q[k]?=some (s[a+3+k]'h)):=fun k hk h=>by rw[<-hq];exact Lt.xV s hk
     have HT:Hid (∀ k,a+3+k<=s.size->(s.extract (a+3) (a+3+k)).data.toList=q.take k/\(s.extract (a+3) (a+3+k)).size=k):=fun k hk=>by
      obtain⟨c1,c2⟩:=Lt.bM s (a+3) (a+3+k) hk (by omega)
      rw[c1,c2,hq,show a+3+k-(a+3)=k by omega]
      exact⟨rfl,rfl⟩
     have HX:Hid (∀ k,q.drop k=s.data.toList.drop (a+3+k)):=fun k=>by rw[<-hq,GF]
     have H6:Hid (a+6<=s.size->∀ W,Calls Tryz.prog 187 #[.string (s.extract (a+2) (a+6))] W fun e w'=>e=.returned (.int .i64 (-1))/\w'=W):=fun h W=>by
      obtain⟨c1,c2⟩:=Lt.bM s (a+2) (a+6) h (by omega)
      have:=kD (s.extract (a+2) (a+6)) W (by omega)
      rw[c1,ba,show a+6-(a+2)=4 by omega,GG,Lt.jT (Lt.Ae _)] at this
      exact this
     have HS:=Gn fun(x y:Nat) hy hx W=>Lt.cC s x y hy hx W
     have bz:=Gn bp
     clear ba hq bp h1 h5
     go_enter Tryz.func145,Tryz.ntmps145
     go_wp2
     go_loopw [6] (fun kv wr=>∃ k:Nat,1<=k/\k<=6/\kv=.int .i64 (k:Nat)/\wr=w/\Hid (Lt.dX q 5 1=Lt.dX q (6-k) k)) (fun kv _=>6-(intOf kv).toNat)
     case atStart=>exact⟨1,by omega,by omega,rfl,rfl,rfl⟩
     case round=>
      obtain⟨k,b3,b5,rfl,rfl,HI⟩:=hrel
      by_cases hk:k<=5/\a+3+k<s.size
      ·obtain⟨b4,bn⟩:=hk
       have bL:(k:Int)<=5:=by omega
       have bP:(a:Int)+3+(k:Int)<(s.size:Int):=by omega
       have Z:=HQ.out k bn bn
       obtain⟨m,hm⟩:∃ m,6-k=m+1:=⟨5-k,by omega⟩
       have ad:6-(k+1)=m:=by omega
       by_cases hc:s[a+3+k]=125
       ·have bC:((s[a+3+k].toNat:Int) == 125)=true:=by rw[hc];rfl
        obtain⟨c1,c2⟩:=HT.out k (by omega)
        have HD:=Gn (kD (s.extract (a+3) (a+3+k)) wr (by omega))
        rw[c1] at HD
        have bx:=HS.out (a+3) (a+3+k) (by omega) (by omega)
        rw[hc] at Z
        cases hn:Lt.num (q.take k) with
        |none=>
         rw[Lt.jT hn] at HD
         have a1:Hid (Lt.dX q 5 1=Lt.dX q (6-(k+1)) (k+1)):=by
          show _=_
          rw[HI.out,hm,ad]
          exact Lt.vT Z hn
         clear HI Z hn hm ad c1 c2 hc
         go_wp2_with (go_at_call 187;refine HD.out.mono ?_;rintro e w1 ⟨rfl,rfl⟩)
         go_roundw
         case rel=>exact⟨k+1,by omega,by omega,by go_num,by first|rfl|trivial,a1⟩
         case measure=>simp[intOf];omega
        |some n=>
         rw[Lt.nI hn] at HD
         have V:L (.returned (.tuple #[.int .i64 (n:Nat),.int .i64 ((a:Int)+4+(k:Int))])) wr:=by
          have:=HP.out n (a+4+k) (by omega) (by omega) ?_
          ·simpa using this
          ·rw[HO.out,HE.out,HI.out,hm,Lt.uM Z hn,HX.out,show a+3+(k+1)=a+4+k by omega]
           rfl
         have ah:=Gn V
         have bD:(0:Int)<=(n:Int):=by omega
         clear HI Z hn hm ad c1 c2 hc V
         go_wp2_with (go_at_call 187;refine HD.out.mono ?_;rintro e w1 ⟨rfl,rfl⟩)
         first|exact ah.out|(rw[r];exact ah.out)|exact GD (by simp[results,Tryz.results145,go_sem]) rfl ah.out|(rw[r];exact GD (by simp[results,Tryz.results145,go_sem]) rfl ah.out)
       ·have bC:((s[a+3+k].toNat:Int) == 125)=false:=Gx.2 fun e=>hc (Lt.ec (n:=125) (by omega))
        have a1:Hid (Lt.dX q 5 1=Lt.dX q (6-(k+1)) (k+1)):=by
         show _=_
         rw[HI.out,hm,ad]
         exact Lt.ru fun e=>hc (Fk (Z.symm.trans e))
        clear HI Z hm ad hc
        go_wp2
        go_roundw
        case rel=>exact⟨k+1,by omega,by omega,by go_num,by first|rfl|trivial,a1⟩
        case measure=>simp[intOf];omega
      ·have av:Lt.yM (s.data.toList.drop (a+2))=none:=by
        rw[HE.out,HI.out]
        by_cases h6:k=6
        ·subst h6;rfl
        ·exact Lt.kX _ _ (by have:=bz.out;omega)
       have J:=Gn (HN.out av)
       have bo:¬(k:Int)<=5\/(k:Int)<=5/\¬(a:Int)+3+(k:Int)<(s.size:Int):=by omega
       clear HI av hk
       by_cases h6:a+6<=s.size
       ·have a7:(a:Int)+6<=(s.size:Int):=by omega
        have bx:=HS.out (a+2) (a+6) (by omega) (by omega)
        have HD:=Gn (H6.out h6 wr)
        rcases bo with g|⟨g,g'⟩
        all_goals
         go_wp2_with (go_at_call 187;refine HD.out.mono ?_;rintro e w1 ⟨rfl,rfl⟩)
         first|exact J.out|(rw[r];exact J.out)|exact GD (by simp[results,Tryz.results145,go_sem]) rfl J.out|(rw[r];exact GD (by simp[results,Tryz.results145,go_sem]) rfl J.out)
       ·have a7:¬(a:Int)+6<=(s.size:Int):=by omega
        rcases bo with g|⟨g,g'⟩
        all_goals
         go_wp2
         first|exact J.out|(rw[r];exact J.out)|exact GD (by simp[results,Tryz.results145,go_sem]) rfl J.out|(rw[r];exact GD (by simp[results,Tryz.results145,go_sem]) rfl J.out)
    ·have hh:(s.data.toList.drop (a+2)).head?≠some 123:=by
      by_cases h5:a+2<s.size
      ·rw[Lt.head_drop s h5]
       exact fun e=>h4 ⟨h5,Fk e⟩
      ·rw[Gz (by rw[Lt.ar];omega)]
       simp
     have bb:(¬(a:Int)+2<(s.size:Int))\/∃ h:a+2<s.size,(a:Int)+2<(s.size:Int)/\((s[a+2].toNat:Int) == 123)=false:=by
      by_cases h5:a+2<s.size
      ·exact .inr ⟨h5,by omega,Gx.2 fun e=>h4 ⟨h5,Lt.ec (n:=123) (by omega)⟩⟩
      ·exact .inl (by omega)
     have O:=Lt.jl hh
     rw[FU,Lt.ar] at O
     by_cases h6:a+6<=s.size
     ·have a7:(a:Int)+6<=(s.size:Int):=by omega
      rw[Fx (by omega)] at O
      obtain⟨c1,c2⟩:=Lt.bM s (a+2) (a+6) h6 (by omega)
      have HD:=Gn fun W=>kD (s.extract (a+2) (a+6)) W (by omega)
      rw[c1,show a+6-(a+2)=4 by omega] at HD
      have bx:=fun W=>Lt.cC s (a+2) (a+6) h6 (by omega) W
      cases hn:Lt.num ((s.data.toList.drop (a+2)).take 4) with
      |none=>
       rw[Lt.jT hn] at HD
       rw[hn] at O
       have J:=Gn (HN.out O)
       clear O hn c1 c2 hh h4 h1 HN HO HP
       obtain⟨g0,g,g'⟩:∃ h:a+2<s.size,(a:Int)+2<(s.size:Int)/\((s[a+2].toNat:Int) == 123)=false:=by
        rcases bb with g|g
        ·omega
        ·exact g
       all_goals
        go_enter Tryz.func145,Tryz.ntmps145
        go_wp2_with (go_at_call 187;refine(HD.out _).mono ?_;rintro e w1 ⟨rfl,rfl⟩)
        first|exact J.out|(rw[r];exact J.out)|exact GD (by simp[results,Tryz.results145,go_sem]) rfl J.out|(rw[r];exact GD (by simp[results,Tryz.results145,go_sem]) rfl J.out)
      |some n=>
       rw[Lt.nI hn] at HD
       rw[hn] at O
       have V:L (.returned (.tuple #[.int .i64 (n:Nat),.int .i64 ((a:Int)+6)])) w:=by
        refine HP.out n (a+6) (by omega) (by omega) ?_
        rw[HO.out,O,GF]
        rfl
       have J:=Gn V
       have bD:(0:Int)<=(n:Int):=by omega
       clear O hn c1 c2 hh h4 h1 HN HO HP V
       obtain⟨g0,g,g'⟩:∃ h:a+2<s.size,(a:Int)+2<(s.size:Int)/\((s[a+2].toNat:Int) == 123)=false:=by
        rcases bb with g|g
        ·omega
        ·exact g
       all_goals
        go_enter Tryz.func145,Tryz.ntmps145
        go_wp2_with (go_at_call 187;refine(HD.out _).mono ?_;rintro e w1 ⟨rfl,rfl⟩)
        first|exact J.out|(rw[r];exact J.out)|exact GD (by simp[results,Tryz.results145,go_sem]) rfl J.out|(rw[r];exact GD (by simp[results,Tryz.results145,go_sem]) rfl J.out)
     ·have a7:¬(a:Int)+6<=(s.size:Int):=by omega
      rw[FQ (by omega)] at O
      have J:=Gn (HN.out O)
      clear O hh h4 h1 HN HO HP
      rcases bb with g|⟨g0,g,g'⟩
      all_goals
       go_enter Tryz.func145,Tryz.ntmps145
       go_wp2
       first|exact J.out|(rw[r];exact J.out)|exact GD (by simp[results,Tryz.results145,go_sem]) rfl J.out|(rw[r];exact GD (by simp[results,Tryz.results145,go_sem]) rfl J.out)
def eL (w:World) (L:List Int) (e:Ending) (w':World):Prop:=(∃ A c,e=.returned (.slice A L.length c)/\dV w' w.heap.size A c L)/\Below w.heap.size w w'
theorem eL.mk {w w':World} {L l:List Int} {A:Option Addr} {c n:Nat} (hn:l.length=n) (hl:L=l) (h:dV w' w.heap.size A c l) (hb:Below w.heap.size w w'):eL w L (.returned (.slice A n c)) w':=by
 subst hl
 exact⟨⟨A,c,by rw[hn],h⟩,hb⟩
theorem yd (s:ByteArray) (w:World) (hs:s.size<=100000000):
  Calls Tryz.prog 99 #[.string s] w fun e w'=>eL w (Lt.ir s.data.toList) e w':=by
 obtain⟨X,Z⟩:∃ X,Hid (Lt.ir s.data.toList=X):=⟨_,rfl⟩
 rw[Z.out]
 obtain⟨O,h⟩:∃ O:Ending->World->Prop,O=fun e w'=>eL w X e w':=⟨_,rfl⟩
 rw[<-h]
 have ad:=Gn h
 clear h
 go_enter Tryz.func99,Tryz.ntmps99
 go_wp2
 go_loopw [3,4] (fun ov iv wr=>∃ (i m:Nat) (A:Option Addr) (c:Nat) (l:List Int),i<=s.size/\m<=i/\iv=.int .i64 (i:Nat)/\ov=.slice A m c/\Hid (Below w.heap.size w wr/\dV wr w.heap.size A c l/\l.length=m/\X=l++Lt.ir (s.data.toList.drop i))) (fun _ iv _=>s.size-(intOf iv).toNat)
 case atStart=>exact⟨0,0,none,0,[],Fz _,Fm _,rfl,rfl,Gp _ _,dV.nil _ _,rfl,Z.out.symm⟩
 case round=>
  obtain⟨i,m,A,c,l,hi,ba,rfl,rfl,HI⟩:=hrel
  obtain⟨r,J,L,I⟩:=HI.out
  have HB:=Gn r
  have HO:=Gn J
  have HM:=Gn L
  have ao:w.heap.size<=wr.heap.size:=r.size
  by_cases V:i<s.size
  ·have HN:=Gn (CC s i wr (by omega) V)
   have a1:(i:Int)<(s.size:Int):=by omega
   have HV:=Gn I
   have U:=Gn (Lt.aD s V)
   clear r J L I HI Z
   go_wp2_with fail
   refine HN.out.mono ?_
   rintro e w1 ⟨⟨x,k,rfl,a7,av,hx,Q⟩,rfl⟩
   have ah:Hid (X=(l++[(x:Int)])++Lt.ir (s.data.toList.drop k)):=by
    show _=_
    have hp:=Lt.lz s[i] (s.data.toList.drop (i+1))
    rw[<-U.out,Q] at hp
    rw[HV.out,hp,F3]
    rfl
   clear Q HN HV U
   go_wp2_with (at_builtin;refine sV _ rfl (.tmp 17) (.tmp 19) rfl w.heap.size A c l m HM.out (x:Int) rfl HO.out rfl (by omega) ao ?_;intro A3 c3 w3 o3 g3;have O3:=Gn o3;have B3:=Gn (HB.out.grown g3 HB.out.size (fun q hq=>(HO.out.lt HM.out hq).1));clear o3 g3)
   go_roundw
   case rel=>exact⟨k,m+1,A3,c3,l++[(x:Int)],av,by omega,rfl,rfl,B3.out,O3.out,by rw[Gb,HM.out];rfl,ah.out⟩
   case measure=>simp[intOf];omega
  ·obtain rfl:i=s.size:=by omega
   rw[Gz (by rw[Lt.ar];exact Fm _),Lt.tx,GH] at I
   have HE:=Gn (eL.mk L I J r)
   clear r J L I HI Z
   go_wp2
   rw[ad.out]
   exact HE.out
theorem Lt.all_false {l:List Int} {z:Int} (hz:z∈l) (h:Lt.pt z=false):l.all Lt.pt=false:=by
 rw[List.all_eq_false]
 exact⟨z,hz,by rw[h];decide⟩
abbrev aK (l:List (Int×Int)):List Value:=l.flatMap fun x=>[.int .i64 x.1,.int .i64 x.2]
theorem gT (l:List (Int×Int)):(aK l).length=l.length*2:=by
 induction l with
 |nil=>rfl
 |cons x l h=>rw[aK,GI,Gb,<-aK,h,FG];simp;omega
theorem wx (l m:List (Int×Int)):aK (l++m)=aK l++aK m:=by simp[aK]
theorem wa:(Tryz.prog.info? 122).map (fun i=>(i.zero,i.size,i.bytes))=some (some (.agg #[.int .i64 0,.int .i64 0]),2,16):=by kernel_rfl
theorem ri:∀ (l:List (Int×Int)) (i:Nat) (x:Int×Int),l[i]?=some x->(aK l)[i*2]?=some (.int .i64 x.1)/\(aK l)[i*2+1]?=some (.int .i64 x.2)
 |[],i,x,h=>by simp at h
 |y::l,0,x,h=>by
  obtain rfl:y=x:=by simpa using h
  exact⟨rfl,rfl⟩
 |y::l,i+1,x,h=>by
  obtain⟨r,I⟩:=ri l i x (by simpa using h)
  rw[aK,GI,show(i+1)*2=i*2+2 by omega]
  exact⟨r,I⟩
theorem rJ (l:List (Int×Int)):∀ u∈aK l,u.oneCell'=true:=by
 intro u hu
 obtain⟨x,_,hu⟩:=GJ.1 hu
 simp at hu
 rcases hu with rfl|rfl <;> rfl
def bj (w:World) (B:Nat) (A:Option Addr) (c:Nat) (l:List (Int×Int)):Prop:=w.ownsRow B 122 2 (.slice A l.length c) l.length (aK l)
theorem bj.nil (w:World) (B:Nat):bj w B none 0 []:=Gg _ _ _ _
theorem bj.kept {w w':World} {B:Nat} {A:Option Addr} {c:Nat} {l:List (Int×Int)} (h:bj w B A c l) (hb:Below w.heap.size w w'):bj w' B A c l:=(ae.af (F:=fun _=>False) hb).own h (fun _ _=>id)
theorem bj.lt {w:World} {B:Nat} {A:Option Addr} {c n:Nat} {l:List (Int×Int)} (h:bj w B A c l) (hn:l.length=n) {q:Nat} (r:(Value.slice A n c).ownBlock=some q):B<=q/\q<w.heap.size:=by
 subst hn
 exact Gh h q r
theorem bj.runs {w:World} {B:Nat} {A:Option Addr} {c n:Nat} {l:List (Int×Int)} (h:bj w B A c l) (hn:l.length=n):cd w A n l:=by
 subst hn
 refine⟨rfl,fun V=>?_⟩
 rcases h.2 with⟨e,X⟩|⟨g,cap,cur,e,_,L,_⟩
 ·omega
 ·injection e with J _ _
  subst J
  refine⟨g,0,rfl,(Fl.1 L).1,fun i x O=>?_⟩
  obtain⟨Q,U⟩:=ri l i x O
  have r:=Gi (g:=g) h rfl _ _ Q
  have I:=Gi (g:=g) h rfl _ _ U
  rw[addr_add] at r I
  exact⟨r,I⟩
theorem cell_two_new (w:World) (x0 h:Value) (t:TypeId):∀ j u,[x0,h][j]?=some u->(w.alloc (.cells #[x0,h] t)).cell? ((⟨w.heap.size,0,none⟩:Addr).add j)=some u:=by
 intro j u hu
 have l:=aa.new w t #[x0,h]
 rw[addr_add,FA,l.cell j,<-hu]
 simp
theorem py (w:World) (ty:TypeId) (B:Nat) (A:Option Addr) (c:Nat) (l:List (Int×Int)) (n:Nat) (hn:l.length=n) (d:Int×Int) (g:Nat) (V:w.heap.size=g) (h:bj w B A c l) (hl:n<=1000000) (hB:B<=w.heap.size):
  ∃ A' I w',(Builtin.append_ #[48,48] ty #[.slice A n c,.slice (some ⟨g,0,none⟩) 1 1]).run Tryz.prog (w.alloc (.cells #[.int .i64 d.1,.int .i64 d.2] 122))=.ok (.slice A' (n+1) I) w'/\bj w' B A' I (l++[d])/\w.grownBy w' (Value.slice A n c).ownBlock:=by
 subst hn
 subst V
 obtain⟨i0,hi,L,O,Q⟩:=Gj wa
 obtain⟨v',w',Z,U,r,_,_⟩:=Fy (P:=Tryz.prog) (w.alloc (.cells #[.int .i64 d.1,.int .i64 d.2] 122)) B 48 ty 122 i0 (.agg #[.int .i64 0,.int .i64 0]) 2 16 Tryz.underlying48 hi L O Q rfl (by decide) (.slice A l.length c) l.length (aK l)
  (Gk h _) ⟨w.heap.size,0,none⟩ 1 1 [.int .i64 d.1,.int .i64 d.2] rfl (cell_two_new _ _ _ _) (fun u hu=>rJ [d] u (by simpa [aK] using hu)) (by unfold maxLen;omega) (by omega) (by simp;omega)
 obtain⟨A',I,rfl⟩:=aI U
 refine⟨A',I,w',Z,?_,⟨r.os,r.tape,r.output,Fo (by simp) r.size,fun k X J=>(r.block k (by simp;omega) J).trans (Fq w _ k X)⟩⟩
 have e:aK l++[.int .i64 d.1,.int .i64 d.2]=aK (l++[d]):=by simp[aK]
 rw[e] at U
 unfold bj
 rw[Gb]
 exact U
theorem s9 (w:World) {ops:Array Oper} {rest:List Oper} {o:Oper} {a:Act} {Q:Exit->Act->World->Prop} (J:o.guard=none) (s x:Operand)
  (Z:o.op=.call { callee:=.builtin .append,args:=#[s,x],argTypes:=#[48,48] }) (B:Nat) (A:Option Addr) (c:Nat) (l:List (Int×Int)) (n:Nat) (hn:l.length=n) (d1 d2:Int) (g:Nat) (X:w.heap.size=g)
  (hs:a.eval s=.slice A n c) (r:bj w B A c l) (hx:a.eval x=.slice (some ⟨g,0,none⟩) 1 1) (hl:n<=1000000) (U:B<=w.heap.size)
  (h:∀ A' I w',bj w' B A' I (l++[(d1,d2)])->w.grownBy w' (Value.slice A n c).ownBlock->wpList Tryz.prog ops Q rest (a.put o.dst (.slice A' (n+1) I)) w'):
  wpList Tryz.prog ops Q (o::rest) a (w.alloc (.cells #[.int .i64 d1,.int .i64 d2] 122)):=by
 refine wpList_plain J fun K V=>?_
 obtain⟨A',I,w',hr,L,O⟩:=py w o.type B A c l n hn (d1,d2) g X r hl U
 unfold Oper.wp execOp
 simp only[Z,resolve,invoke,builtin,Sem.run_bind,Sem.run_pure,Result.andThen_ok,List.map_toArray,GK,GL,hs,hx,hr]
 exact V _ _ (h A' I w' L O)
theorem bj.last {w:World} {B:Nat} {A:Option Addr} {c n:Nat} {S:List (Int×Int)} {y k:Int} (hn:S.length=n) (h:bj w B A c (S++[(y,k)])):
  ∃ g,A=some ⟨g,0,none⟩/\B<=g/\g<w.heap.size/\w.cell? ⟨g,n*2,none⟩=some (.int .i64 y)/\w.cell? ⟨g,n*2+1,none⟩=some (.int .i64 k)/\w.frozen? ⟨g,n*2+1,none⟩=false/\n+1<=c/\
   ∀ k',bj (w.setCell ⟨g,n*2+1,none⟩ (.int .i64 k')) B A c (S++[(y,k')])/\w.grownBy (w.setCell ⟨g,n*2+1,none⟩ (.int .i64 k')) (some g):=by
 subst hn
 have hlen:(S++[(y,k)]).length=S.length+1:=by simp
 have J:w.ownsRow B 122 2 (.slice A (S.length+1) c) (S.length+1) (aK (S++[(y,k)])):=by rw[<-hlen];exact h
 have Z:=h.runs (n:=S.length+1) hlen
 rcases J.2 with⟨_,h1⟩|⟨g,cap,cur,e,V,hg,X,_⟩
 ·omega
 ·injection e with O _ e3
  subst O
  obtain⟨b,off,I,L,hc⟩:=Z.at_ (by omega)
  injection I with I
  injection I with Q U
  subst Q
  subst U
  have:=hc S.length (y,k) (by simp)
  rw[FA] at this
  refine⟨g,rfl,V,L,this.1,this.2,World.ownsRow.frozenAt J _,by omega,fun k'=>?_⟩
  obtain⟨s1,s2⟩:=World.ownsRow.stored J (S.length*2+1) (.int .i64 k')
  refine⟨?_,s2⟩
  have e:(aK (S++[(y,k)])).set (S.length*2+1) (.int .i64 k')=aK (S++[(y,k')]):=by
   rw[wx,wx,List.set_append_right _ _ (by rw[gT];omega),gT]
   simp[aK]
  rw[e] at s1
  have r:(S++[(y,k')]).length=S.length+1:=by simp
  unfold bj
  rw[r]
  exact s1
def aU (w:World) (x:Int×List (Int×Int)) (e:Ending) (w':World):Prop:=(∃ A c,e=.returned (.tuple #[.slice A x.2.length c,.int .i64 x.1])/\bj w' w.heap.size A c x.2)/\Below w.heap.size w w'
theorem aU.good {w w':World} {l:List Int} {R:List (Int×Int)} {A:Option Addr} {c m:Nat} (h:l.all Lt.pt=true) (r:R=Lt.runs l) (hm:R.length=m) (I:bj w' w.heap.size A c R) (hb:Below w.heap.size w w'):aU w (Lt.eY l) (.returned (.tuple #[.slice A m c,.int .i64 0])) w':=by
 subst hm
 subst r
 refine⟨⟨A,c,?_,?_⟩,hb⟩
 ·rw[Lt.eY,Fx h]
 ·rw[Lt.eY,Fx h]
  exact I
theorem aU.bad {w w':World} {l:List Int} (h:l.all Lt.pt=false) (hb:Below w.heap.size w w'):aU w (Lt.eY l) (.returned (.tuple #[.slice none 0 0,.int .i64 1])) w':=by
 refine⟨⟨none,0,?_,?_⟩,hb⟩
 ·rw[Lt.eY,FQ (by rw[h];decide)]
  rfl
 ·rw[Lt.eY,FQ (by rw[h];decide)]
  exact bj.nil _ _
theorem Lt.wu {R:List (Int×Int)} {x:Int×Int} (r:x∈R) (h:∀ y∈R,1<=y.2):x.2<=Lt.total R:=by
 induction R with
 |nil=>cases r
 |cons y R I=>
  have J:=h y Gc
  have L:0<=Lt.total R:=Lt.fw fun z hz=>by have:=h z (Gd _ hz);omega
  rw[Lt.total]
  rcases FE.1 r with rfl|r
  ·omega
  ·have:=I r fun z hz=>h z (Gd _ hz)
   omega
theorem Lt.mJ {l:List Int} {i:Nat} {y:Int} (h:l[i]?=some y):∃ (S:List (Int×Int)) (k:Int),Lt.runs (l.take (i+1))=S++[(y,k)]/\S.length<=i/\1<=k/\k<=i+1:=by
 have J:=Lt.Bc (l.take (i+1))
 have hl:(l.take (i+1)).length=i+1:=by
  have:=(Fg.1 h).1
  rw[FK]
  omega
 have I:=J.last
 rw[take_one h,GM,<-take_one h] at I
 obtain⟨x,V,O⟩:=FT.1 I
 obtain⟨S,L⟩:=List.getLast?_eq_some_iff.1 V
 obtain⟨Q,U⟩:=x
 obtain rfl:Q=y:=O
 have r:(Q,U)∈Lt.runs (l.take (i+1)):=by rw[L];simp
 have hp:=J.pos _ r
 have ht:=Lt.wu r fun z hz=>(J.pos z hz).1
 have hlen:=J.len
 rw[L,Gb,hl] at hlen
 rw[J.sum,hl] at ht
 exact⟨S,U,L,by simp at hlen;omega,hp.1,by simp only at ht;omega⟩
end Go.Proofs.YtdbgiijdgedggaaGreatDoor
