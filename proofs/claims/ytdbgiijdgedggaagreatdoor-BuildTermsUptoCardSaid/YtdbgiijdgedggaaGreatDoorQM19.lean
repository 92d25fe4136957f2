import Derived.Test.YtdbgiijdgedggaaGreatDoorQM17
import Derived.Deep.QuietTactic
import Derived.BigQuiet
import Derived.StillTailTactics
import Derived.Test.YtdbgiijdgedggaaGreatDoorRows
import Derived.Test.YtdbgiijdgedggaaGreatDoorQM16
import Derived.Lib.LaidTab
import Derived.Stop.LaidErr
import Derived.MapViews
import Derived.DeepKeys4
import Derived.Lib.ConvBytes
import Derived.Lib.AtoiErrMem
set_option linter.unusedSimpArgs false
set_option linter.unusedVariables false
set_option maxRecDepth 100000
set_option maxHeartbeats 25600000
namespace Go.Proofs.YtdbgiijdgedggaaGreatDoor
open Go.RowKit
abbrev aX (x:Sx) (A:Option Addr) (c:Nat):Value:=.agg #[.bool x.list,.int .i64 x.k,.string x.T,.int .i64 x.ta,.int .i64 x.at_,.slice A x.L.length c]
abbrev gm (x:Sx) (A:Option Addr) (c:Nat):List Value:=[.bool x.list,.int .i64 x.k,.string x.T,.int .i64 x.ta,.int .i64 x.at_,.slice A x.L.length c]
structure mh (w:World) (b off:Nat) (x:Sx) (A:Option Addr) (c:Nat):Prop where
 lt:b<w.heap.size
 c0:w.cell? ⟨b,off,none⟩=some (.bool x.list)
 c1:w.cell? ⟨b,off+1,none⟩=some (.int .i64 x.k)
 c2:w.cell? ⟨b,off+2,none⟩=some (.string x.T)
 c3:w.cell? ⟨b,off+3,none⟩=some (.int .i64 x.ta)
 c4:w.cell? ⟨b,off+4,none⟩=some (.int .i64 x.at_)
 c5:w.cell? ⟨b,off+5,none⟩=some (.slice A x.L.length c)
theorem mh.kept {w w':World} {b off:Nat} {x:Sx} {A:Option Addr} {c:Nat} (h:mh w b off x A c) (hs:w.heap.size<=w'.heap.size) (hc:∀ j,j<6->w'.cell? ⟨b,off+j,none⟩=w.cell? ⟨b,off+j,none⟩):mh w' b off x A c:=
 ⟨Fp h.lt hs,(hc 0 (by decide)).trans h.c0,(hc 1 (by decide)).trans h.c1,(hc 2 (by decide)).trans h.c2,(hc 3 (by decide)).trans h.c3,(hc 4 (by decide)).trans h.c4,(hc 5 (by decide)).trans h.c5⟩
theorem mh.below {w w':World} {b off:Nat} {x:Sx} {A:Option Addr} {c:Nat} (h:mh w b off x A c) (hb:Below w.heap.size w w'):mh w' b off x A c:=
 h.kept hb.size fun _ _=>hb.cell h.lt
inductive au (w:World) (G:Nat->Nat->Prop):Option Addr->List Sx->Prop
 |nil (A:Option Addr):au w G A []
 |cons (b off:Nat) (x:Sx) (l:List Sx) (A:Option Addr) (c:Nat):mh w b off x A c->G b off->x.L.length<=c/\c<=maxLen->au w G A x.L->au w G (some ⟨b,off+6,none⟩) l->au w G (some ⟨b,off,none⟩) (x::l)
theorem au.imp {w w':World} {G G':Nat->Nat->Prop} {A:Option Addr} {l:List Sx} (h:au w G A l) (hs:w.heap.size<=w'.heap.size) (hc:∀ b off,b<w.heap.size->G b off->∀ j,j<6->w'.cell? ⟨b,off+j,none⟩=w.cell? ⟨b,off+j,none⟩) (L:∀ b off,b<w.heap.size->G b off->G' b off):au w' G' A l:=by
 induction h with
 |nil A=>exact .nil A
 |cons b off x l A c r I J _ _ i1 i2=>exact .cons b off x l A c (r.kept hs (hc b off r.lt I)) (L b off r.lt I) J i1 i2
theorem au.kept {w w':World} {G:Nat->Nat->Prop} {A:Option Addr} {l:List Sx} (h:au w G A l) (hb:Below w.heap.size w w'):au w' G A l:=
 h.imp hb.size (fun b off r _ j _=>hb.cell (p:=⟨b,off+j,none⟩) r) fun _ _ _ h=>h
theorem au.mono {w:World} {G G':Nat->Nat->Prop} {A:Option Addr} {l:List Sx} (h:au w G A l) (r:∀ b off,b<w.heap.size->G b off->G' b off):au w G' A l:=h.imp (Fm _) (fun _ _ _ _ _ _=>rfl) r
theorem au.get {w:World} {G:Nat->Nat->Prop} {A:Option Addr} {l:List Sx} (h:au w G A l):∀ {i:Nat},i<l.length->∃ b off x A' r,A=some ⟨b,off,none⟩/\l[i]?=some x/\mh w b (off+i*6) x A' r/\G b (off+i*6)/\(x.L.length<=r/\r<=maxLen)/\au w G A' x.L:=by
 induction h with
 |nil A=>intro i hi;simp at hi
 |cons b off x l A c Q U V X _ _ i2=>
  intro i hi
  cases i with
  |zero=>exact⟨b,off,x,A,c,rfl,rfl,by simpa using Q,by simpa using U,V,X⟩
  |succ i=>
   obtain⟨b',I,y,A',r,e,hy,Z,q2,q3,q4⟩:=i2 (i:=i) (by simpa using hi)
   injection e with e
   injection e with J O _
   subst J
   subst O
   exact⟨b,off,y,A',r,rfl,by simpa using hy,by rw[show off+(i+1)*6=off+6+i*6 by omega];exact Z,by rw[show off+(i+1)*6=off+6+i*6 by omega];exact q2,q3,q4⟩
structure aJ (w:World) (G:Nat->Nat->Prop) (x:Sx) (A:Option Addr) (c:Nat):Prop where
 le:x.L.length<=c/\c<=maxLen
 tree:au w G A x.L
theorem aJ.kept {w w':World} {G:Nat->Nat->Prop} {x:Sx} {A:Option Addr} {c:Nat} (h:aJ w G x A c) (hb:Below w.heap.size w w'):aJ w' G x A c:=⟨h.le,h.tree.kept hb⟩
theorem aJ.get {w:World} {G:Nat->Nat->Prop} {x:Sx} {A:Option Addr} {c:Nat} (h:aJ w G x A c) {i:Nat} (hi:i<x.L.length):
  ∃ b off y A' r,A=some ⟨b,off,none⟩/\x.L[i]?=some y/\x.L.drop i=y::x.L.drop (i+1)/\y∈x.L/\mh w b (off+i*6) y A' r/\aJ w G y A' r:=by
 obtain⟨b,off,y,A',r,e,hy,J,U,O,Q⟩:=h.tree.get hi
 refine⟨b,off,y,A',r,e,hy,?_,FP hy,J,O,Q⟩
 obtain⟨I,rfl⟩:=Fg.1 hy
 exact FC I
abbrev dr (x:Sx) (A:Option Addr) (c:Nat):Obj:=.cells #[.bool x.list,.int .i64 x.k,.string x.T,.int .i64 x.ta,.int .i64 x.at_,.slice A x.L.length c] 27
theorem eN (w:World) (x:Sx) (A:Option Addr) (c:Nat):mh (w.alloc (dr x A c)) w.heap.size 0 x A c:=by
 have h:=aa.new w 27 #[.bool x.list,.int .i64 x.k,.string x.T,.int .i64 x.ta,.int .i64 x.at_,.slice A x.L.length c]
 exact⟨h.lt,h.cell 0,h.cell 1,h.cell 2,h.cell 3,h.cell 4,h.cell 5⟩
theorem Da:∀ (m:Nat) (x:Sx) (A:Option Addr) (c:Nat) (w:World),m<=1000->aJ w (fun _ _=>True) x A c->
  Calls Tryz.prog 90 #[aX x A c,.int .i64 (m:Nat)] w fun e w'=>e=.returned (.int .i64 (Sx.dep m x:Nat))/\Below w.heap.size w w':=by
 intro m
 induction m with
 |zero=>
  intro x A c w hm h
  obtain⟨xl,xk,xt,bp,xa,L⟩:=x
  rw[Sx.dep]
  clear h
  cases xl
  all_goals
   go_enter Tryz.func90,Tryz.ntmps90
   go_wp2
   go_ret
   exact⟨rfl,(Gp _ w).alloc (Fm _) _⟩
 |succ m ih=>
  intro x A c w hm h
  by_cases V:x.list=true
  case neg=>
   obtain⟨xl,xk,xt,bp,xa,L⟩:=x
   obtain rfl:xl=false:=by simpa using V
   rw[Sx.dep,FQ (by exact V)]
   clear h V
   go_enter Tryz.func90,Tryz.ntmps90
   go_wp2
   go_ret
   exact⟨rfl,(Gp _ w).alloc (Fm _) _⟩
  case pos=>
   obtain⟨X,HX⟩:∃ X:Nat,Hid (Sx.dep (m+1) x=X):=⟨_,rfl⟩
   rw[HX.out]
   have HD:Hid ((x.L.map (Sx.dep m)).foldl max 0+1=X):=by show _=_;rw[<-HX.out,Sx.dep,Fx V]
   have bC:((m:Int)+1 == 0)=false:=Gx.2 (by omega)
   obtain⟨n,hn⟩:∃ n,x.L.length=n:=⟨_,rfl⟩
   have HN:=Gn hn
   have a7:((m+1:Nat):Int)=(m:Int)+1:=by omega
   rw[a7]
   unfold aX
   have hl:n<=maxLen:=hn▸Fo h.le.1 h.le.2
   rw[hn]
   rw[V]
   unfold maxLen at hl
   clear hn a7
   go_enter Tryz.func90,Tryz.ntmps90
   go_wp2
   generalize ad:w.alloc (Obj.cells #[Value.bool true,Value.int IntKind.i64 x.k,Value.string x.T,Value.int IntKind.i64 x.ta,Value.int IntKind.i64 x.at_,Value.slice A n c] 27)=U
   have bl:Hid (Below w.heap.size w U/\aJ U (fun _ _=>True) x A c/\mh U w.heap.size 0 x A c):=by
    have e:w.alloc (dr x A c)=U:=by rw[<-ad,dr,HN.out,V]
    rw[<-e]
    exact⟨(Gp _ w).alloc (Fm _) _,h.kept ((Gp _ w).alloc (Fm _) _),eN w x A c⟩
   clear h ad HX
   go_loopw [5,6] (fun av iv wr=>∃ i a:Nat,i<=n/\a<=m/\iv=.int .i64 (i:Nat)/\av=.int .i64 (a:Nat)/\Below U.heap.size U wr/\Hid ((((x.L.drop i).map (Sx.dep m)).foldl max a)+1=X)) (fun _ iv _=>n-(intOf iv).toNat)
   case atStart=>exact⟨0,0,Fz _,Fz _,rfl,rfl,Gp _ _,by show _=_;rw[Hw];exact HD.out⟩
   case round=>
    obtain⟨i,a,hi,ha,rfl,rfl,hb,HI⟩:=hrel
    obtain⟨O,ba,J⟩:=bl.out
    have ah:=J.below hb
    obtain⟨z,z0,z1,z2,z3,z4,z5⟩:=ah
    rw[HN.out] at z5
    simp only[FA] at z0 z1 z2 z3 z4 z5
    have HB:=Gn (O.trans (hb.mono O.size))
    by_cases bn:i<n
    ·obtain⟨b,off,y,A',c',rfl,hy,a1,bo,hs,bb⟩:=(ba.kept hb).get (i:=i) (by rw[HN.out];exact bn)
     obtain⟨y_,y0,y1,y2,y3,y4,y5⟩:=hs
     have Z:=Gn fun W (hW:Below wr.heap.size wr W)=>ih y A' c' W (by omega) (bb.kept hW)
     have hd:=HI.out
     rw[a1,GK,List.foldl_cons] at hd
     obtain⟨d,Q⟩:∃ d,Sx.dep m y=d:=⟨_,rfl⟩
     have ao:=Sx.xj m y
     rw[Q] at hd ao
     rw[Q] at Z
     have I:=Gn hd
     have r:=Gn hb
     have bx:(i:Int)<(n:Int):=by omega
     have bB:(0:Int)<=(i:Int):=by omega
     clear hd Q HI ba J O bb a1 hy hb bo
     go_wp2_with (go_at_call 90;refine(Z.out _ (Gp _ _)).mono ?_;rintro e w2 ⟨rfl,b2⟩)
     ·go_roundw
      case rel=>exact⟨i+1,d,by omega,ao,by go_num,rfl,r.out.trans (b2.mono r.out.size),by rw[show max a d=d by omega] at I;exact I⟩
      case measure=>simp[intOf];omega
     ·go_roundw
      case rel=>exact⟨i+1,a,by omega,ha,by go_num,rfl,r.out.trans (b2.mono r.out.size),by rw[show max a d=a by omega] at I;exact I⟩
      case measure=>simp[intOf];omega
    ·obtain rfl:i=n:=by omega
     have hX:a+1=X:=by
      have:=HI.out
      rw[Gz (by rw[HN.out];exact Fm _)] at this
      exact this
     have bz:(a:Int)+1=(X:Int):=by omega
     clear HI hX
     go_wp2
     go_ret
     exact⟨rfl,HB.out⟩
theorem jQ {P:Program} {x:String×DataW Unit}:∀ {l:List (String×DataW Unit)} {W:World},laidMet P l W->x∈l->∃ r,laidMet P (x::r) W
 |[],_,_,h=>absurd h FD
 |y::l,W,h,I=>by
  rcases FE.1 I with rfl|I
  ·exact⟨l,h⟩
  ·exact jQ h.tail I
theorem dD.jb {l:List (String×DataW Unit)} {W:World} (h:laidMet Tryz.prog l W) (I:("internal/strconv.uint64pow10",Rows.laid_internal_strconv_uint64pow10)∈l):dD W:=by
 obtain⟨r,k⟩:=jQ h I
 exact Lib.tabBelow_of_tabIs (Lib.tabIs_of_head (P:=Tryz.prog) (g:=1) (t:=334) (e:=157) (n:=20) (k:=.u64) (by kernel_rfl) (by kernel_rfl) (by kernel_rfl) Tryz.underlying157 (by kernel_rfl) (by kernel_rfl) (show laidMet Tryz.prog (("internal/strconv.uint64pow10",Lib.tabData .u64 Lib.pow10Tab)::r) W from k))
theorem iJ.jb {l:List (String×DataW Unit)} {W:World} (h:laidMet Tryz.prog l W) (V:("gudgeon/term.asked",Rows.laid_gudgeon_term_asked)∈l):iJ W:=by
 obtain⟨r,k⟩:=jQ h V
 obtain⟨ps,⟨g',t',cs,fuel,p,q,X,ah,U,hd,_,_⟩,_⟩:=k
 obtain rfl:=Fk ((show Tryz.prog.globalNamed "gudgeon/term.asked"=some 0 by kernel_rfl).symm.trans X)
 obtain rfl:=Fk ((show(Tryz.prog.globals[0]?).map (·.type)=some 150 by kernel_rfl).symm.trans ah)
 have k1:=(keyLits_of_trod (P:=Tryz.prog) 5 150 (by kernel_rfl) _ _ _ hd).1
 have k2:=cells_of_lits (P:=Tryz.prog) 5 150 (by kernel_rfl) _ _ _ k1
 intro o row I j v hv
 have hcell:=World.var?_cell (show Tryz.prog.globalNamed "gudgeon/term.asked"=some 0 by kernel_rfl) U (o*6+j)
 rw[hcell]
 have L:(Rows.laid_gudgeon_term_asked:DataW Unit).flat=Tm.pz.flatten.map (fun(v:Nat)=>Lit.int .u8 (v:Int)):=by kernel_rfl
 have ad:o<31:=by
  have:=(Fg.1 I).1
  rwa [show Tm.pz.length=31 from rfl] at this
 have Q:∀ r∈Tm.pz,r.length=6:=by decide
 have Z:j<6:=by
  have V:=(Fg.1 hv).1
  rwa [Q row (FP I)] at V
 have O:∀ o,o<31->∀ j,j<6->Tm.pz.flatten[o*6+j]?=((Tm.pz[o]?).getD [])[j]?:=by decide
 have J:=O o ad j Z
 rw[I,G0,hv] at J
 have h3:cs.toList[o*6+j]?=some (.int .u8 (v:Int)):=by
  rw[k2,L,Fj,Fj,J]
  rfl
 rw[<-Hs]
 exact h3
structure Gl (w:World):Prop where
 EV:∃ v,w.cell? ⟨2,0,none⟩=some v/\(v=.nilIface\/∃ t p,v=.iface t p)
 Fc:w.cell? ⟨5,15,none⟩=some (.int .u8 4)
 max:∃ m:Int,w.cell? ⟨6,0,none⟩=some (.int .i64 m)
theorem Gl.below {w w':World} (h:Gl w) (hb:Below w.heap.size w w'):Gl w':=by
 obtain⟨⟨v,r,L⟩,I,⟨m,J⟩⟩:=h
 exact⟨⟨v,(hb.cell (p:=⟨2,0,none⟩) (IE w _ r)).trans r,L⟩,(hb.cell (p:=⟨5,15,none⟩) (IE w _ I)).trans I,⟨m,(hb.cell (p:=⟨6,0,none⟩) (IE w _ J)).trans J⟩⟩
theorem s7 (z:Int) (w:World):Calls Tryz.prog 278 #[.int .i64 z] w fun e w'=>e=.returned (.bool (Lt.pt z))/\w'=w:=by
 by_cases h:0<=z
 ·by_cases r:z<=196607
  ·have hp:Lt.pt z=true:=FW ⟨h,r⟩
   rw[hp]
   go_enter Tryz.func278,Tryz.ntmps278
   go_wp2
   go_ret
   exact⟨rfl,rfl⟩
  ·have hp:Lt.pt z=false:=Gq (by omega)
   rw[hp]
   go_enter Tryz.func278,Tryz.ntmps278
   go_wp2
   go_ret
   exact⟨rfl,rfl⟩
 ·have hp:Lt.pt z=false:=Gq (by omega)
  rw[hp]
  go_enter Tryz.func278,Tryz.ntmps278
  go_wp2
  go_ret
  exact⟨rfl,rfl⟩
theorem Cf (z:Int) (w:World):Calls Tryz.prog 277 #[.int .i64 z] w fun e w'=>e=.returned (.bool (!Lt.pt z))/\w'=w:=by
 have h:=Gn fun W=>s7 z W
 generalize Lt.pt z=b at h
 cases b
 all_goals
  go_enter Tryz.func277,Tryz.ntmps277
  go_wp2_with (go_at_call 278;refine(h.out _).mono ?_;rintro e r ⟨rfl,rfl⟩)
  go_ret
  exact⟨rfl,rfl⟩
def Lt.low (n:Nat):Nat:=if n/32 % 2=1 then n else n+32
theorem Lt.Af:((List.range 256).all fun n=>decide (bits .or .u8 (n:Int) 32=(Lt.low n:Int))&&decide (Lt.low n<256))=true:=by decide +kernel
theorem Lt.pK {n:Nat} (h:n<256):bits .or .u8 (n:Int) 32=(Lt.low n:Int)/\Lt.low n<256:=by
 have:=Gt.1 Lt.Af n (Gu.2 h)
 simpa using this
theorem Bh (n:Nat) (h:n<256) (w:World):Calls Tryz.prog 311 #[.int .u8 (n:Nat)] w fun e w'=>e=.returned (.int .u8 (Lt.low n:Nat))/\w'=w:=by
 obtain⟨r,I⟩:=Lt.pK h
 go_enter Tryz.func311,Tryz.ntmps311
 go_wp2
 go_ret
 exact⟨by first|rfl|rw[r],rfl⟩
theorem AA (w:World) (A:Option Addr) (n c:Nat) (l:List Int) (h:aH w A n l) (hn:n<=1000000000):
  Calls Tryz.prog 288 #[.slice A n c,.func (.func 277) #[] #[]] w fun e w'=>(∃ r:Int,e=.returned (.int .i64 r)/\decide (0<=r)=!(l.all Lt.pt))/\w'=w:=by
 have V:=Gn h
 obtain⟨X,L⟩:∃ X,Hid (l.all Lt.pt=X):=⟨_,rfl⟩
 rw[L.out]
 clear h
 go_enter Tryz.func288,Tryz.ntmps288
 go_wp2
 go_loopw [8] (fun iv wr=>∃ i:Nat,i<=n/\iv=.int .i64 (i:Nat)/\wr=w/\Hid (∀ z∈l.take i,Lt.pt z=true)) (fun iv _=>n-(intOf iv).toNat)
 case atStart=>exact⟨0,Fz _,rfl,rfl,fun _ hz=>absurd hz FD⟩
 case round=>
  obtain⟨i,hi,rfl,rfl,Q⟩:=hrel
  by_cases U:i<n
  ·obtain⟨b,off,z,rfl,hz,I,_,hc⟩:=V.out.get U
   obtain⟨q1,q2⟩:=hc wr (Gp _ _)
   have Z:(i:Int)<(n:Int):=by omega
   have h0:(0:Int)<=(i:Int):=by omega
   have J:=Gn (Cf z wr)
   cases hp:Lt.pt z with
   |false=>
    obtain rfl:X=false:=by rw[<-L.out];exact List.all_eq_false.2 ⟨z,I,by rw[hp];decide⟩
    rw[hp] at J
    clear Q hz I hc hp L
    go_wp2_with fail
    refine J.out.mono ?_
    rintro e w1 ⟨rfl,rfl⟩
    go_wp2
    go_ret
    exact⟨⟨_,rfl,by simp⟩,by trivial⟩
   |true=>
    rw[hp] at J
    have O:Hid (∀ y∈l.take (i+1),Lt.pt y=true):=by
     intro y hy
     rw[take_one hz] at hy
     rcases F7.1 hy with hy|hy
     ·exact Q.out y hy
     ·rw[F0.1 hy]
      exact hp
    clear Q hz I hc hp L
    go_wp2_with fail
    refine J.out.mono ?_
    rintro e w1 ⟨rfl,rfl⟩
    go_wp2
    go_roundw
    case rel=>exact⟨i+1,by omega,by go_num,by trivial,O.out⟩
    case measure=>simp[intOf];omega
  ·obtain rfl:i=n:=by omega
   obtain rfl:X=true:=by
    rw[<-L.out]
    have:=Q.out
    rw[Gr (by rw[V.out.len];exact Fm _)] at this
    exact Gt.2 this
   clear Q L
   go_wp2
   go_ret
   exact⟨⟨_,rfl,by decide⟩,by trivial⟩
theorem Dh (w:World) (A:Option Addr) (n c:Nat) (l:List Int) (h:aH w A n l) (hn:n<=1000000000):
  Calls Tryz.prog 276 #[.slice A n c,.func (.func 277) #[] #[]] w fun e w'=>e=.returned (.bool (!(l.all Lt.pt)))/\w'=w:=by
 have I:=Gn (AA w A n c l h hn)
 generalize (!(l.all Lt.pt))=X at I
 clear h
 go_enter Tryz.func276,Tryz.ntmps276
 go_wp2_with (go_at_call 288;refine I.out.mono ?_;rintro e L ⟨⟨r,rfl,J⟩,rfl⟩)
 go_ret
 exact⟨by first|rfl|rw[J],rfl⟩
theorem Lt.qo {n:Nat} (h:n<48\/57<n):decide ((48:Int)<=(n:Int))=false\/decide ((48:Int)<=(n:Int))=true/\decide ((n:Int)<=57)=false:=by
 by_cases r:n<48
 ·exact .inl (Gq (by omega))
 ·exact .inr ⟨FW (by omega),Gq (by omega)⟩
def Lt.wQ (n:Nat):Option Nat:=if 48<=n/\n<=57 then some (n-48) else if 97<=Lt.low n/\Lt.low n<=102 then some (Lt.low n-87) else none
theorem Lt.vA:((List.range 256).all fun n=>decide (Lt.kh (UInt8.ofNat n)=Lt.wQ n))=true:=by decide +kernel
theorem Lt.yV (c:UInt8):Lt.kh c=Lt.wQ c.toNat:=by
 have:=Gt.1 Lt.vA c.toNat (Gu.2 c.toNat_lt)
 simpa using this
theorem Lt.Cd:Lt.low 95=127:=by decide
def Lt.parse (l:List UInt8):Option Nat:=if l=[] then none else Lt.val 0 l
def Lt.rM:Option Nat->Value
 |some n=> .tuple #[.int .u64 (n:Nat),.nilIface]
 |none=> .tuple #[.int .u64 0,.iface 338 (.int .i64 2)]
theorem ux (T:ByteArray) (w:World) (hT:T.size<=5):
  Calls Tryz.prog 301 #[.string T,.int .i64 16,.int .i64 32] w fun e w'=>e=.returned (Lt.rM (Lt.parse T.data.toList))/\Below w.heap.size w w':=by
 by_cases hz:T.size=0
 ·have he:T=⟨#[]⟩:=Lt.dK (by rw[FV ((Lt.ar T).trans hz)])
  subst he
  clear hT hz
  go_enter Tryz.func301,Tryz.ntmps301
  go_wp2
  go_ret2
  exact⟨rfl,Gp _ _⟩
 have ad:T.data.toList≠[]:=fun e=>hz (by rw[<-Lt.ar,e];rfl)
 have bn:(T.toList == [])=false:=by rw[GA];exact Gx.2 ad
 have ba:T.toList.isEmpty=false:=by rw[GA];exact List.isEmpty_eq_false_iff.2 ad
 obtain⟨X,HX⟩:∃ X,Hid (Lt.parse T.data.toList=X):=⟨_,rfl⟩
 have ao:Hid (Lt.val 0 T.data.toList=X):=by
  have:=HX.out
  unfold Lt.parse at this
  rw[FQ ad] at this
  exact this
 rw[HX.out]
 have bD:=Lib.run_convert_string_bytes (P:=Tryz.prog) w 9 229 5 T (u:=.string) Tryz.underlying9 Tryz.underlying229 Tryz.underlying5
 have HC:Hid (∀ (j:Nat) (hj:j<T.size),(Lib.bytesWorld w 5 T).cell? ⟨w.heap.size,j,none⟩=some (.int .u8 (T[j].toNat:Nat))):=fun j hj=>by
  rw[Lib.bytesWorld_cell w 5 T j hj]
  have h':j<T.data.toList.length:=by rw[Lt.ar];exact hj
  simp[List.getD,Ge h']
  rfl
 have HB:=Gn (Lib.bytesWorld_below w 5 T)
 obtain⟨W1,a7⟩:∃ W1,W1=Lib.bytesWorld w 5 T:=⟨_,rfl⟩
 rw[<-a7] at bD HC HB
 have cf:IntKind.u64.wrap (IntKind.u64.wrap 4294967296-1)=4294967295:=by
  rw[IntKind.wrap_u64,IntKind.wrap_u64]
  decide
 clear a7 HX ad
 go_enter Tryz.func301,Tryz.ntmps301
 go_wp2
 go_loop [12,13,101] (fun vu vn vi=>∃ (k acc:Nat),vu=.bool false/\vn=.int .u64 (acc:Nat)/\vi=.int .i64 (k:Nat)/\k<=T.size/\Hid (X=Lt.val acc (T.data.toList.drop k)/\acc<16^k))
  (fun _ _ vi=>T.size-(intOf vi).toNat)
 case atStart=>exact⟨0,0,rfl,rfl,rfl,Fz _,ao.out.symm,by decide⟩
 case round=>
  obtain⟨k,acc,rfl,rfl,rfl,hk,HI⟩:=hrel
  have bP:acc<1048576:=Fp HI.out.2 (Fo (Gy (by decide) (show k<=5 by omega)) (by decide))
  by_cases av:k<T.size
  ·have hc:=HC.out k av
   obtain⟨hv,hp⟩:=HI.out
   rw[Lt.aD T av] at hv
   have hd:=Lt.yV T[k]
   have I:=T[k].toNat_lt
   generalize hg:T[k]=c at hc hv hd I
   generalize hn:c.toNat=n at hc hd I
   have Q:=Gn fun W=>Bh n I W
   have V:=(Lt.pK I).2
   unfold Lt.wQ at hd
   have b8:(acc:Int)<1048576:=by omega
   have bp:(n:Int)<256:=by omega
   have b4:(k:Int)<(T.size:Int):=by omega
   have b7:(T.size:Int)<=5:=by omega
   clear HC ao ba bn hT
   by_cases U:48<=n/\n<=57
   ·rw[Fx U] at hd
    rw[Lt.gx _ hd] at hv
    obtain⟨b9,ca⟩:=U
    obtain⟨r,hr⟩:∃ r,r=acc*16+(n-48):=⟨_,rfl⟩
    rw[<-hr] at hv
    have HN:Hid (X=Lt.val r (T.data.toList.drop (k+1))/\r<16^(k+1)):=by
     refine⟨hv,?_⟩
     rw[FH]
     omega
    have bT:(48:Int)<=(n:Int):=by omega
    have b1:(n:Int)<=57:=by omega
    have a1:((n:Int) == 95)=false:=Gx.2 (by omega)
    have bo:(acc:Int)*16+((n:Int)-48)=(r:Int):=by omega
    have bx:decide ((16:Int)<=(n:Int)-48)=false:=Gq (by omega)
    have bz:decide ((1152921504606846976:Int)<=(acc:Int))=false:=Gq (by omega)
    have bB:decide ((r:Int)<(acc:Int)*16)=false:=Gq (by omega)
    have bC:decide ((4294967295:Int)<(r:Int))=false:=Gq (by omega)
    clear HI hv hp hd hg hn I V hr
    go_wp2
    refine⟨⟨k+1,r,rfl,(by first|rfl|(congr 1;omega)),(by first|rfl|(congr 1;omega)),by omega,HN.out⟩,by simp[intOf];omega⟩
   ·rw[FQ U] at hd
    by_cases J:97<=Lt.low n/\Lt.low n<=102
    ·rw[Fx J] at hd
     rw[Lt.gx _ hd] at hv
     have bl:n≠95:=by
      rintro rfl
      rw[Lt.Cd] at J
      omega
     have a1:((n:Int) == 95)=false:=Gx.2 (by omega)
     generalize Lt.low n=m at J hv Q V
     obtain⟨bE,bL⟩:=J
     have bb:(97:Int)<=(m:Int):=by omega
     have b3:(m:Int)<=102:=by omega
     obtain⟨r,hr⟩:∃ r,r=acc*16+(m-87):=⟨_,rfl⟩
     rw[<-hr] at hv
     have HN:Hid (X=Lt.val r (T.data.toList.drop (k+1))/\r<16^(k+1)):=by
      refine⟨hv,?_⟩
      rw[FH]
      omega
     have L:decide ((48:Int)<=(n:Int))=false\/decide ((48:Int)<=(n:Int))=true/\decide ((n:Int)<=57)=false:=Lt.qo (by omega)
     have b5:decide ((97:Int)<=(m:Int))=true:=FW bb
     have b6:decide ((m:Int)<=122)=true:=FW (by omega)
     obtain⟨d,cb⟩:∃ d:Nat,(m:Int)-97+10=(d:Int):=⟨m-87,by omega⟩
     have bo:(acc:Int)*16+(d:Int)=(r:Int):=by omega
     have bx:decide ((16:Int)<=(d:Int))=false:=Gq (by omega)
     have bz:decide ((1152921504606846976:Int)<=(acc:Int))=false:=Gq (by omega)
     have bB:decide ((r:Int)<(acc:Int)*16)=false:=Gq (by omega)
     have bC:decide ((4294967295:Int)<(r:Int))=false:=Gq (by omega)
     have b2:(d:Int)<16:=by omega
     clear HI hv hp hd hg hn I V U bl hr bE bL
     rcases L with h1|⟨h1,h2⟩
     all_goals
      go_wp2_with (go_at_call 311;refine(Q.out _).mono ?_;rintro e w1 ⟨rfl,rfl⟩)
      refine⟨⟨k+1,r,rfl,(by first|rfl|(congr 1;omega)),(by first|rfl|(congr 1;omega)),by omega,HN.out⟩,by simp[intOf];omega⟩
    ·rw[FQ J] at hd
     rw[Lt.gd _ hd] at hv
     subst hv
     have L:decide ((48:Int)<=(n:Int))=false\/decide ((48:Int)<=(n:Int))=true/\decide ((n:Int)<=57)=false:=Lt.qo (by omega)
     have ah:n=95\/((n:Int) == 95)=false:=by
      by_cases h:n=95
      ·exact .inl h
      ·exact .inr (Gx.2 (by omega))
     have O:(Lt.low n:Int)<97\/(97:Int)<=(Lt.low n:Int)/\(122:Int)<(Lt.low n:Int)\/(103:Int)<=(Lt.low n:Int)/\(Lt.low n:Int)<=122:=by omega
     generalize Lt.low n=m at O Q V J
     have cc:(m:Int)<256:=by omega
     have Z:decide ((97:Int)<=(m:Int))=false\/decide ((97:Int)<=(m:Int))=true/\decide ((m:Int)<=122)=false\/(decide ((97:Int)<=(m:Int))=true/\decide ((m:Int)<=122)=true/\(97:Int)<=(m:Int))/\decide ((16:Int)<=(m:Int)-97+10)=true:=by
      rcases O with h|h|h
      ·exact .inl (Gq (by omega))
      ·exact .inr (.inl ⟨FW h.1,Gq (by omega)⟩)
      ·exact .inr (.inr ⟨⟨FW (by omega),FW (by omega),by omega⟩,FW (by omega)⟩)
     clear O
     clear HI hp hd hg hn I V U J
     rcases ah with rfl|a1
     ·rcases Z with h3|⟨h3,h4⟩|⟨⟨h3,h4,h6⟩,h5⟩
      all_goals
       clear L
       go_wp2_with (go_at_call 311;refine(Q.out _).mono ?_;rintro e w1 ⟨rfl,rfl⟩)
       go_ret2
       exact⟨rfl,HB.out⟩
     ·rcases L with h1|⟨h1,h2⟩
      all_goals
       rcases Z with h3|⟨h3,h4⟩|⟨⟨h3,h4,h6⟩,h5⟩
       all_goals
        go_wp2_with (go_at_call 311;refine(Q.out _).mono ?_;rintro e w1 ⟨rfl,rfl⟩)
        go_ret2
        exact⟨rfl,HB.out⟩
  ·obtain rfl:k=T.size:=by omega
   have hv:=HI.out.1
   rw[Gz (by rw[Lt.ar];exact Fm _),Lt.val] at hv
   subst hv
   clear HI av HC ao
   go_wp2
   go_ret2
   exact⟨rfl,HB.out⟩
abbrev iM:Nat->Nat->Prop:=fun _ _=>True
theorem AE {w r:World} {x:Sx} {A:Option Addr} {c n:Nat} {l:Bool} (hn:x.L.length=n) (hl:x.list=l) (h:aJ w iM x A c)
  (I:w.alloc (Obj.cells #[Value.bool l,Value.int IntKind.i64 x.k,Value.string x.T,Value.int IntKind.i64 x.ta,Value.int IntKind.i64 x.at_,Value.slice A n c] 27)=r):
  Below w.heap.size w r/\aJ r iM x A c/\mh r w.heap.size 0 x A c:=by
 have e:w.alloc (dr x A c)=r:=by rw[<-I,dr,hn,hl]
 rw[<-e]
 exact⟨(Gp _ w).alloc (Fm _) _,h.kept ((Gp _ w).alloc (Fm _) _),eN w x A c⟩
theorem wE (x:Sx) (A:Option Addr) (c:Nat) (w:World) (h:aJ w iM x A c):
  Calls Tryz.prog 43 #[aX x A c] w fun e w'=>e=.returned (.int .i64 (Sx.dep 65 x:Nat))/\Below w.heap.size w w':=by
 have r:=(Gp _ w).alloc (Fm _) (dr x A c)
 have H:=Gn (Da 65 x A c _ (by decide) (h.kept r))
 obtain⟨X,J⟩:∃ X:Nat,Sx.dep 65 x=X:=⟨_,rfl⟩
 rw[J] at H ⊢
 have I:=Gn r
 clear r J h
 go_enter Tryz.func43,Tryz.ntmps43
 go_wp2_with (go_at_call 90;refine H.out.mono ?_;rintro e O ⟨rfl,L⟩)
 go_ret
 exact⟨rfl,I.out.trans (L.mono I.out.size)⟩
theorem Bu:∀ (k:Nat) (x:Sx) (A:Option Addr) (c:Nat) (w:World),x.size<=k->k<=1000000000->aJ w iM x A c->
  Calls Tryz.prog 42 #[aX x A c] w fun e w'=>(∃ z:Nat,e=.returned (.int .i64 (z:Nat))/\z<=x.size/\(x.size<=5000->z=x.size)/\(5000<x.size->5000<z))/\Below w.heap.size w w':=by
 intro k
 induction k with
 |zero=>
  intro x A c w hk
  exact absurd x.size_pos (by omega)
 |succ k ih=>
  intro x A c w hk bD h
  obtain⟨n,hn⟩:∃ n,x.L.length=n:=⟨_,rfl⟩
  have HN:=Gn hn
  have hl:n<=maxLen:=hn▸Fo h.le.1 h.le.2
  unfold maxLen at hl
  obtain⟨X,hX⟩:∃ X,x.size=X:=⟨_,rfl⟩
  have HX:=Gn hX
  have V:=x.size_eq
  rw[hX] at hk V ⊢
  have ah:=Gn V
  unfold aX
  rw[hn]
  clear hn hX V
  go_enter Tryz.func42,Tryz.ntmps42
  go_wp2
  generalize a1:w.alloc (Obj.cells #[Value.bool x.list,Value.int IntKind.i64 x.k,Value.string x.T,Value.int IntKind.i64 x.ta,Value.int IntKind.i64 x.at_,Value.slice A n c] 27)=W0
  have bp:=Gn (AE HN.out rfl h a1)
  clear h a1
  go_loopw [3,4] (fun zv iv wr=>∃ i z:Nat,i<=n/\zv=.int .i64 (z:Nat)/\iv=.int .i64 (i:Nat)/\Below W0.heap.size W0 wr/\z+Sx.sizes (x.L.drop i)<=X/\Hid ((X<=5000->z+Sx.sizes (x.L.drop i)=X)/\(5000<X->z<=5000->5000<z+Sx.sizes (x.L.drop i)))) (fun _ iv _=>n-(intOf iv).toNat)
  case atStart=>exact⟨0,1,Fz _,rfl,rfl,Gp _ _,by rw[Hw];have:=ah.out;omega,by show _/\_;rw[Hw];have:=ah.out;constructor <;> omega⟩
  case round=>
   obtain⟨i,z,hi,rfl,rfl,hb,hz,HI⟩:=hrel
   obtain⟨J,Q,I⟩:=bp.out
   have a7:=I.below hb
   obtain⟨q,q0,q1,q2,q3,q4,q5⟩:=a7
   rw[HN.out] at q5
   simp only[FA] at q0 q1 q2 q3 q4 q5
   have HB:=Gn (J.trans (hb.mono J.size))
   have Z:z<=X:=by omega
   by_cases bz:i<n
   ·by_cases h5:z<=5000
    ·obtain⟨b,off,y,A',c',rfl,hy,bx,bn,hs,bl⟩:=(Q.kept hb).get (i:=i) (by rw[HN.out];exact bz)
     obtain⟨y_,y0,y1,y2,y3,y4,y5⟩:=hs
     have U:=Sx.cV bn
     rw[HX.out] at U
     have O:=Sx.uW hy
     have av:=Gn (ih y A' c' wr (by omega) (by omega) bl)
     obtain⟨d,hd⟩:∃ d,y.size=d:=⟨_,rfl⟩
     have ba:=y.size_pos
     rw[hd] at av O U ba
     obtain⟨r,hr⟩:∃ r,Sx.sizes (x.L.drop (i+1))=r:=⟨_,rfl⟩
     have HR:=Gn hr
     rw[hr] at O
     rw[<-O] at hz HI
     have bo:=Gn hz
     have ad:=Gn hb
     have bb:(i:Int)<(n:Int):=by omega
     have bC:(0:Int)<=(i:Int):=by omega
     have ao:(z:Int)<=5000:=by omega
     have HY:=Gn U
     clear hd Q I J bl bx hy hb bn hr O hz U ba
     go_wp2_with (go_at_call 42;refine av.out.mono ?_;rintro e w2 ⟨⟨v,rfl,v1,v2,v3⟩,b2⟩;have bE:z+v<=1000000001:=(by have:=bo.out;omega);have HV:=Gn (Ig v1 (Ig v2 v3));clear v1 v2 v3)
     go_roundw
     case rel=>exact⟨i+1,z+v,by omega,by go_num,by go_num,ad.out.trans (b2.mono ad.out.size),by rw[HR.out];have:=bo.out;have:=HV.out;omega,by show _/\_;rw[HR.out];have:=HI.out;have:=HV.out;have:=HY.out;constructor <;> omega⟩
     case measure=>simp[intOf];omega
    ·have ao:¬(z:Int)<=5000:=by omega
     have bB:decide ((z:Int)<=5000)=false:=Gq ao
     have bb:(i:Int)<(n:Int):=by omega
     have HE:Hid (∃ z':Nat,Ending.returned (.int .i64 (z:Nat))=.returned (.int .i64 (z':Nat))/\z'<=X/\(X<=5000->z'=X)/\(5000<X->5000<z')):=⟨z,rfl,Z,fun e=>absurd Z (by omega),fun _=>by omega⟩
     clear HI hz Q I J hb
     go_wp2
     go_ret
     exact⟨HE.out,HB.out⟩
   ·obtain rfl:i=n:=by omega
    have HE:Hid (∃ z':Nat,Ending.returned (.int .i64 (z:Nat))=.returned (.int .i64 (z':Nat))/\z'<=X/\(X<=5000->z'=X)/\(5000<X->5000<z')):=by
     have hI:=HI.out
     rw[Gz (by rw[HN.out];exact Fm _)] at hI
     simp only[Sx.sizes,Ho] at hI
     refine⟨z,rfl,Z,hI.1,fun h=>?_⟩
     by_cases h5:z<=5000
     ·exact hI.2 h h5
     ·omega
    clear HI hz Q I J hb
    go_wp2
    go_ret
    exact⟨HE.out,HB.out⟩
end Go.Proofs.YtdbgiijdgedggaaGreatDoor
