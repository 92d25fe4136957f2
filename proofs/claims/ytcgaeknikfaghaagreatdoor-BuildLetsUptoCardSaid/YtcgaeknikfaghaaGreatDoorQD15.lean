/- What the proofs of this claim use, text by text. -/
import Derived.Test.YtcgaeknikfaghaaGreatDoorRows
import Derived.Test.YtcgaeknikfaghaaGreatDoorQD09
import Derived.WalkSpells
import Derived.WalkLawsBesides
import Derived.KernelRfl
import Derived.BigQuiet
import Derived.Deep.QuietTactic
import Derived.StillTailTactics
import Derived.Test.YtcgaeknikfaghaaGreatDoorQD14
import Derived.Lib.LaidTab
import Derived.Stop.LaidErr
import Derived.MapViews
import Derived.DeepKeys4
set_option linter.unusedSimpArgs false
set_option linter.unusedVariables false
set_option maxRecDepth 100000
set_option maxHeartbeats 25600000
namespace Go.Proofs.YtcgaeknikfaghaaGreatDoor
open Go.RowKit
theorem ret_b {a b:Bool} (h:a=b):Ending.returned (.bool a)=.returned (.bool b):=by rw[h]
theorem rdigit (c:UInt8) (w:World):Calls Tryz.prog 155 #[.int .u8 (c.toNat:Nat)] w fun e w'=>e=.returned (.bool (Lx.digit c))∧w'=w:=by
 go_enter Tryz.func155,Tryz.ntmps155
 go_wp2
 all_goals
  go_ret
  exact⟨ret_b (by rw[Bool.eq_iff_iff];simp[Lx.digit] <;> omega),rfl⟩
theorem rblank (c:UInt8) (w:World):Calls Tryz.prog 152 #[.int .u8 (c.toNat:Nat)] w fun e w'=>e=.returned (.bool (Lx.blank c))∧w'=w:=by
 go_enter Tryz.func152,Tryz.ntmps152
 go_wp2
 all_goals
  go_ret
  exact⟨ret_b (by rw[Bool.eq_iff_iff];simp[Lx.blank] <;> omega),rfl⟩
theorem rgood (c:UInt8) (w:World):Calls Tryz.prog 127 #[.int .u8 (c.toNat:Nat)] w fun e w'=>e=.returned (.bool (Lx.good c))∧w'=w:=by
 have HB:=Lib.hid (rblank c w)
 obtain⟨bl,hbl⟩:∃ b,Hid (Lx.blank c=b):=⟨_,rfl⟩
 rw[hbl.out] at HB
 cases bl
 all_goals
  go_enter Tryz.func127,Tryz.ntmps127
  go_wp2_with (go_at_call 152;refine HB.out.mono ?_;rintro e w1 ⟨rfl,rfl⟩)
 all_goals
  go_ret
  exact⟨ret_b (by rw[Lx.good,hbl.out,Bool.eq_iff_iff];simp <;> omega),rfl⟩
theorem marks_at {i:Nat} (h:i<17):((⟨#[126,33,64,36,37,94,38,42,95,45,43,61,60,62,46,63,47]⟩:ByteArray)[i]'h).toNat=Lx.marks[i]'h:=by
 have:∀ i:Fin 17,((⟨#[126,33,64,36,37,94,38,42,95,45,43,61,60,62,46,63,47]⟩:ByteArray)[i.1]'i.2).toNat=Lx.marks[i.1]'i.2:=by decide
 exact this ⟨i,h⟩
theorem rname (c:UInt8) (w:World):Calls Tryz.prog 157 #[.int .u8 (c.toNat:Nat)] w fun e w'=>e=.returned (.bool (Lx.name c))∧w'=w:=by
 have HB:=Lib.hid (rdigit c w)
 by_cases h1:97≤c.toNat∧c.toNat≤122
 ·have a1:(97:Int)≤c.toNat:=by omega
  have a2:(c.toNat:Int)≤122:=by omega
  have e:Lx.name c=true:=by simp[Lx.name,h1]
  rw[e]
  go_enter Tryz.func157,Tryz.ntmps157
  go_wp2
  go_ret
  exact⟨rfl,rfl⟩
 by_cases h2:65≤c.toNat∧c.toNat≤90
 ·have a1:¬(97:Int)≤c.toNat:=by omega
  have a2:(65:Int)≤c.toNat:=by omega
  have a3:(c.toNat:Int)≤90:=by omega
  have e:Lx.name c=true:=by simp[Lx.name,h2]
  rw[e]
  go_enter Tryz.func157,Tryz.ntmps157
  go_wp2
  go_ret
  exact⟨rfl,rfl⟩
 by_cases h3:Lx.digit c=true
 ·have h3':c.toNat≤57:=by simp[Lx.digit] at h3;omega
  have a1:¬(97:Int)≤c.toNat:=by omega
  have a2:¬(65:Int)≤c.toNat:=by omega
  have e:Lx.name c=true:=Lx.digit_name h3
  rw[e]
  rw[h3] at HB
  go_enter Tryz.func157,Tryz.ntmps157
  go_wp2_with (go_at_call 155;refine HB.out.mono ?_;rintro e w1 ⟨rfl,rfl⟩)
  go_ret
  exact⟨rfl,rfl⟩
 have HN:Hid (Lx.name c=Lx.marks.contains c.toNat):=by
  show Lx.name c=Lx.marks.contains c.toNat
  have e1:(decide (97≤c.toNat)&&decide (c.toNat≤122))=false:=by rw[Bool.eq_false_iff];simpa using h1
  have e2:(decide (65≤c.toNat)&&decide (c.toNat≤90))=false:=by rw[Bool.eq_false_iff];simpa using h2
  rw[Lx.name,e1,e2,Bool.eq_false_iff.2 h3]
  simp
 have HM:Hid (∀ (i:Nat) (h:i<17),((⟨#[126,33,64,36,37,94,38,42,95,45,43,61,60,62,46,63,47]⟩:ByteArray)[i]'h).toNat=Lx.marks[i]'h):=fun _ h=>marks_at h
 rw[Bool.eq_false_iff.2 h3] at HB
 rw[HN.out]
 obtain⟨k,HK⟩:∃ k,Hid (k=Lx.marks.contains c.toNat):=⟨_,rfl⟩
 rw[←HK.out]
 have hw:(122:Int)<c.toNat∨(90:Int)<c.toNat∧(c.toNat:Int)<97∨(c.toNat:Int)<65:=by omega
 rcases hw with a|⟨a,a'⟩|a
 all_goals
  first|have b1:(97:Int)≤c.toNat:=by omega|have b1:¬(97:Int)≤c.toNat:=by omega
  first|have b2:(65:Int)≤c.toNat:=by omega|have b2:¬(65:Int)≤c.toNat:=by omega
  first|have b3:¬(c.toNat:Int)≤90:=by omega|skip
  first|have b4:¬(c.toNat:Int)≤122:=by omega|skip
  clear h1 h2 h3 HN
  go_enter Tryz.func157,Tryz.ntmps157
  go_wp2_with (go_at_call 155;refine HB.out.mono ?_;rintro e w1 ⟨rfl,rfl⟩)
  generalize hS:(⟨#[126,33,64,36,37,94,38,42,95,45,43,61,60,62,46,63,47]⟩:ByteArray)=S
  have hsz:S.size=17:=by rw[←hS];rfl
  have HS:Hid (∀ i (h:i<S.size) (h':i<17),S[i].toNat=Lx.marks[i]'h'):=by
   subst hS
   exact fun i h h'=>HM.out i h'
  clear hS HM
  go_loopw [4] (fun iv wr=>∃ i:Nat,i≤17∧iv=.int .i64 (i:Nat)∧wr=w1∧Hid (k=(Lx.marks.drop i).contains c.toNat)) (fun iv _=>17-(intOf iv).toNat)
  case atStart=>exact⟨0,by omega,rfl,rfl,HK⟩
  case round=>
   obtain⟨i,hi,rfl,rfl,HI⟩:=hrel
   by_cases hlt:i<17
   ·have HV:Hid (S[i].toNat=Lx.marks[i]):=HS.out i (by omega) hlt
    have HD:Hid ((Lx.marks.drop i).contains c.toNat=((Lx.marks[i] == c.toNat)||(Lx.marks.drop (i+1)).contains c.toNat)):=by
     show _=_
     rw[List.drop_eq_getElem_cons hlt,List.contains_cons,Bool.beq_comm]
    by_cases he:S[i].toNat=c.toNat
    ·have hb:((S[i].toNat:Int) == (c.toNat:Int))=true:=beq_iff_eq.2 (by omega)
     have hk:k=true:=by
      rw[HI.out,HD.out,←HV.out,he]
      simp
     clear HI HD HV HS he HK
     subst hk
     go_wp2
     go_ret
     exact⟨rfl,rfl⟩
    ·have hb:((S[i].toNat:Int) == (c.toNat:Int))=false:=by
      rw[beq_eq_false_iff_ne]
      omega
     have HI2:Hid (k=(Lx.marks.drop (i+1)).contains c.toNat):=by
      show _=_
      rw[HI.out,HD.out,←HV.out,beq_eq_false_iff_ne.2 he,Bool.false_or]
     clear HI HD HV HS he HK
     go_wp2
     go_roundw
     case rel=>exact⟨i+1,by omega,by go_num,by trivial,HI2⟩
     case measure=>simp[intOf];omega
   ·obtain rfl:i=17:=by omega
    have hk:k=false:=HI.out
    subst hk
    clear HI HK HS
    go_wp2
    go_ret
    exact⟨rfl,rfl⟩
abbrev sval (x:Sx) (A:Option Addr) (c:Nat):Value:=.agg #[.bool x.list,.int .i64 x.k,.string x.T,.int .i64 x.ta,.int .i64 x.at_,.slice A x.L.length c]
abbrev scells (x:Sx) (A:Option Addr) (c:Nat):List Value:=[.bool x.list,.int .i64 x.k,.string x.T,.int .i64 x.ta,.int .i64 x.at_,.slice A x.L.length c]
structure SAt (w:World) (b off:Nat) (x:Sx) (A:Option Addr) (c:Nat):Prop where
 lt:b<w.heap.size
 c0:w.cell? ⟨b,off,none⟩=some (.bool x.list)
 c1:w.cell? ⟨b,off+1,none⟩=some (.int .i64 x.k)
 c2:w.cell? ⟨b,off+2,none⟩=some (.string x.T)
 c3:w.cell? ⟨b,off+3,none⟩=some (.int .i64 x.ta)
 c4:w.cell? ⟨b,off+4,none⟩=some (.int .i64 x.at_)
 c5:w.cell? ⟨b,off+5,none⟩=some (.slice A x.L.length c)
theorem SAt.kept {w w':World} {b off:Nat} {x:Sx} {A:Option Addr} {c:Nat} (h:SAt w b off x A c) (hs:w.heap.size≤w'.heap.size) (hc:∀ j,j<6→w'.cell? ⟨b,off+j,none⟩=w.cell? ⟨b,off+j,none⟩):SAt w' b off x A c:=
 ⟨Nat.lt_of_lt_of_le h.lt hs,(hc 0 (by decide)).trans h.c0,(hc 1 (by decide)).trans h.c1,(hc 2 (by decide)).trans h.c2,(hc 3 (by decide)).trans h.c3,(hc 4 (by decide)).trans h.c4,(hc 5 (by decide)).trans h.c5⟩
theorem SAt.below {w w':World} {b off:Nat} {x:Sx} {A:Option Addr} {c:Nat} (h:SAt w b off x A c) (hb:Below w.heap.size w w'):SAt w' b off x A c:=
 h.kept hb.size fun _ _=>hb.cell h.lt
inductive TreeL (w:World) (G:Nat→Nat→Prop):Option Addr→List Sx→Prop
 |nil (A:Option Addr):TreeL w G A []
 |cons (b off:Nat) (x:Sx) (l:List Sx) (A:Option Addr) (c:Nat):SAt w b off x A c→G b off→x.L.length≤c∧c≤maxLen→TreeL w G A x.L→TreeL w G (some ⟨b,off+6,none⟩) l→TreeL w G (some ⟨b,off,none⟩) (x::l)
theorem TreeL.imp {w w':World} {G G':Nat→Nat→Prop} {A:Option Addr} {l:List Sx} (h:TreeL w G A l) (hs:w.heap.size≤w'.heap.size) (hc:∀ b off,b<w.heap.size→G b off→∀ j,j<6→w'.cell? ⟨b,off+j,none⟩=w.cell? ⟨b,off+j,none⟩) (hG:∀ b off,b<w.heap.size→G b off→G' b off):TreeL w' G' A l:=by
 induction h with
 |nil A=>exact .nil A
 |cons b off x l A c h1 h2 h3 _ _ i1 i2=>exact .cons b off x l A c (h1.kept hs (hc b off h1.lt h2)) (hG b off h1.lt h2) h3 i1 i2
theorem TreeL.kept {w w':World} {G:Nat→Nat→Prop} {A:Option Addr} {l:List Sx} (h:TreeL w G A l) (hb:Below w.heap.size w w'):TreeL w' G A l:=
 h.imp hb.size (fun b off hlt _ j _=>hb.cell (p:=⟨b,off+j,none⟩) hlt) fun _ _ _ h=>h
theorem TreeL.mono {w:World} {G G':Nat→Nat→Prop} {A:Option Addr} {l:List Sx} (h:TreeL w G A l) (hG:∀ b off,b<w.heap.size→G b off→G' b off):TreeL w G' A l:=h.imp (Nat.le_refl _) (fun _ _ _ _ _ _=>rfl) hG
theorem TreeL.get {w:World} {G:Nat→Nat→Prop} {A:Option Addr} {l:List Sx} (h:TreeL w G A l):∀ {i:Nat},i<l.length→∃ b off x A' c',A=some ⟨b,off,none⟩∧l[i]?=some x∧SAt w b (off+i*6) x A' c'∧G b (off+i*6)∧(x.L.length≤c'∧c'≤maxLen)∧TreeL w G A' x.L:=by
 induction h with
 |nil A=>intro i hi;simp at hi
 |cons b off x l A c h1 h2 h3 h4 _ _ i2=>
  intro i hi
  cases i with
  |zero=>exact⟨b,off,x,A,c,rfl,rfl,by simpa using h1,by simpa using h2,h3,h4⟩
  |succ i=>
   obtain⟨b',off',y,A',c',e,hy,q1,q2,q3,q4⟩:=i2 (i:=i) (by simpa using hi)
   injection e with e
   injection e with e1 e2 _
   subst e1
   subst e2
   exact⟨b,off,y,A',c',rfl,by simpa using hy,by rw[show off+(i+1)*6=off+6+i*6 by omega];exact q1,by rw[show off+(i+1)*6=off+6+i*6 by omega];exact q2,q3,q4⟩
structure STree (w:World) (G:Nat→Nat→Prop) (x:Sx) (A:Option Addr) (c:Nat):Prop where
 le:x.L.length≤c∧c≤maxLen
 tree:TreeL w G A x.L
theorem STree.kept {w w':World} {G:Nat→Nat→Prop} {x:Sx} {A:Option Addr} {c:Nat} (h:STree w G x A c) (hb:Below w.heap.size w w'):STree w' G x A c:=⟨h.le,h.tree.kept hb⟩
theorem STree.get {w:World} {G:Nat→Nat→Prop} {x:Sx} {A:Option Addr} {c:Nat} (h:STree w G x A c) {i:Nat} (hi:i<x.L.length):
  ∃ b off y A' c',A=some ⟨b,off,none⟩∧x.L[i]?=some y∧x.L.drop i=y::x.L.drop (i+1)∧y∈x.L∧SAt w b (off+i*6) y A' c'∧STree w G y A' c':=by
 obtain⟨b,off,y,A',c',e,hy,q1,q2,q3,q4⟩:=h.tree.get hi
 refine⟨b,off,y,A',c',e,hy,?_,List.mem_of_getElem? hy,q1,q3,q4⟩
 obtain⟨hi',rfl⟩:=List.getElem?_eq_some_iff.1 hy
 exact List.drop_eq_getElem_cons hi'
abbrev sbox (x:Sx) (A:Option Addr) (c:Nat):Obj:=.cells #[.bool x.list,.int .i64 x.k,.string x.T,.int .i64 x.ta,.int .i64 x.at_,.slice A x.L.length c] 27
theorem sbox_at (w:World) (x:Sx) (A:Option Addr) (c:Nat):SAt (w.alloc (sbox x A c)) w.heap.size 0 x A c:=by
 have h:=Lies.new w 27 #[.bool x.list,.int .i64 x.k,.string x.T,.int .i64 x.ta,.int .i64 x.at_,.slice A x.L.length c]
 exact⟨h.lt,h.cell 0,h.cell 1,h.cell 2,h.cell 3,h.cell 4,h.cell 5⟩
theorem rdepth:∀ (m:Nat) (x:Sx) (A:Option Addr) (c:Nat) (w:World),m≤1000→STree w (fun _ _=>True) x A c→
  Calls Tryz.prog 62 #[sval x A c,.int .i64 (m:Nat)] w fun e w'=>e=.returned (.int .i64 (Sx.dep m x:Nat))∧Below w.heap.size w w':=by
 intro m
 induction m with
 |zero=>
  intro x A c w hm h
  obtain⟨xl,xk,xt,xta,xa,L⟩:=x
  rw[Sx.dep]
  clear h
  cases xl
  all_goals
   go_enter Tryz.func62,Tryz.ntmps62
   go_wp2
   go_ret
   exact⟨rfl,(Below.refl _ w).alloc (Nat.le_refl _) _⟩
 |succ m ih=>
  intro x A c w hm h
  by_cases hx:x.list=true
  case neg=>
   obtain⟨xl,xk,xt,xta,xa,L⟩:=x
   obtain rfl:xl=false:=by simpa using hx
   rw[Sx.dep,if_neg (by exact hx)]
   clear h hx
   go_enter Tryz.func62,Tryz.ntmps62
   go_wp2
   go_ret
   exact⟨rfl,(Below.refl _ w).alloc (Nat.le_refl _) _⟩
  case pos=>
   obtain⟨X,HX⟩:∃ X:Nat,Hid (Sx.dep (m+1) x=X):=⟨_,rfl⟩
   rw[HX.out]
   have HD:Hid ((x.L.map (Sx.dep m)).foldl max 0+1=X):=by show _=_;rw[←HX.out,Sx.dep,if_pos hx]
   have hm0:((m:Int)+1 == 0)=false:=beq_eq_false_iff_ne.2 (by omega)
   obtain⟨n,hn⟩:∃ n,x.L.length=n:=⟨_,rfl⟩
   have HN:=Lib.hid hn
   have hmm:((m+1:Nat):Int)=(m:Int)+1:=by omega
   rw[hmm]
   unfold sval
   have hl:n≤maxLen:=hn▸Nat.le_trans h.le.1 h.le.2
   rw[hn]
   rw[hx]
   unfold maxLen at hl
   clear hn hmm
   go_enter Tryz.func62,Tryz.ntmps62
   go_wp2
   generalize hW0:w.alloc (Obj.cells #[Value.bool true,Value.int IntKind.i64 x.k,Value.string x.T,Value.int IntKind.i64 x.ta,Value.int IntKind.i64 x.at_,Value.slice A n c] 27)=W0
   have HB0:Hid (Below w.heap.size w W0∧STree W0 (fun _ _=>True) x A c∧SAt W0 w.heap.size 0 x A c):=by
    have e:w.alloc (sbox x A c)=W0:=by rw[←hW0,sbox,HN.out,hx]
    rw[←e]
    exact⟨(Below.refl _ w).alloc (Nat.le_refl _) _,h.kept ((Below.refl _ w).alloc (Nat.le_refl _) _),sbox_at w x A c⟩
   clear h hW0 HX
   go_loopw [5,6] (fun av iv wr=>∃ i a:Nat,i≤n∧a≤m∧iv=.int .i64 (i:Nat)∧av=.int .i64 (a:Nat)∧Below W0.heap.size W0 wr∧Hid ((((x.L.drop i).map (Sx.dep m)).foldl max a)+1=X)) (fun _ iv _=>n-(intOf iv).toNat)
   case atStart=>exact⟨0,0,Nat.zero_le _,Nat.zero_le _,rfl,rfl,Below.refl _ _,by show _=_;rw[List.drop_zero];exact HD.out⟩
   case round=>
    obtain⟨i,a,hi,ha,rfl,rfl,hb,HI⟩:=hrel
    obtain⟨hb1,ht1,hbx1⟩:=HB0.out
    have hbx2:=hbx1.below hb
    obtain⟨z,z0,z1,z2,z3,z4,z5⟩:=hbx2
    rw[HN.out] at z5
    simp only[Nat.zero_add] at z0 z1 z2 z3 z4 z5
    have HB:=Lib.hid (hb1.trans (hb.mono hb1.size))
    by_cases hlt:i<n
    ·obtain⟨b,off,y,A',c',rfl,hy,hdr,hym,hs,hty⟩:=(ht1.kept hb).get (i:=i) (by rw[HN.out];exact hlt)
     obtain⟨y_,y0,y1,y2,y3,y4,y5⟩:=hs
     have hIH:=Lib.hid fun W (hW:Below wr.heap.size wr W)=>ih y A' c' W (by omega) (hty.kept hW)
     have hd:=HI.out
     rw[hdr,List.map_cons,List.foldl_cons] at hd
     obtain⟨d,hd'⟩:∃ d,Sx.dep m y=d:=⟨_,rfl⟩
     have hdm:=Sx.dep_le m y
     rw[hd'] at hd hdm
     rw[hd'] at hIH
     have HD2:=Lib.hid hd
     have HBr:=Lib.hid hb
     have hlt':(i:Int)<(n:Int):=by omega
     have hi0:(0:Int)≤(i:Int):=by omega
     clear hd hd' HI ht1 hbx1 hb1 hty hdr hy hb hym
     go_wp2_with (go_at_call 62;refine(hIH.out _ (Below.refl _ _)).mono ?_;rintro e w2 ⟨rfl,b2⟩)
     ·go_roundw
      case rel=>exact⟨i+1,d,by omega,hdm,by go_num,rfl,HBr.out.trans (b2.mono HBr.out.size),by rw[show max a d=d by omega] at HD2;exact HD2⟩
      case measure=>simp[intOf];omega
     ·go_roundw
      case rel=>exact⟨i+1,a,by omega,ha,by go_num,rfl,HBr.out.trans (b2.mono HBr.out.size),by rw[show max a d=a by omega] at HD2;exact HD2⟩
      case measure=>simp[intOf];omega
    ·obtain rfl:i=n:=by omega
     have hX:a+1=X:=by
      have:=HI.out
      rw[List.drop_of_length_le (by rw[HN.out];exact Nat.le_refl _)] at this
      exact this
     have hXi:(a:Int)+1=(X:Int):=by omega
     clear HI hX
     go_wp2
     go_ret
     exact⟨rfl,HB.out⟩
theorem laid_mem9 {P:Program} {x:String×DataW Unit}:∀ {l:List (String×DataW Unit)} {W:World},laidMet P l W→x∈l→∃ r,laidMet P (x::r) W
 |[],_,_,h=>absurd h List.not_mem_nil
 |y::l,W,h,hx=>by
  rcases List.mem_cons.1 hx with rfl|hx
  ·exact⟨l,h⟩
  ·exact laid_mem9 h.tail hx
theorem Pow9.of_laid {l:List (String×DataW Unit)} {W:World} (h:laidMet Tryz.prog l W) (h1:("internal/strconv.uint64pow10",Rows.laid_internal_strconv_uint64pow10)∈l):Pow9 W:=by
 obtain⟨r,k⟩:=laid_mem9 h h1
 exact Lib.tabBelow_of_tabIs (Lib.tabIs_of_head (P:=Tryz.prog) (g:=6) (t:=306) (e:=250) (n:=20) (k:=.u64) (by kernel_rfl) (by kernel_rfl) (by kernel_rfl) Tryz.underlying250 (by kernel_rfl) (by kernel_rfl) (show laidMet Tryz.prog (("internal/strconv.uint64pow10",Lib.tabData .u64 Lib.pow10Tab)::r) W from k))
theorem Ask9.of_laid {l:List (String×DataW Unit)} {W:World} (h:laidMet Tryz.prog l W) (h1:("gudgeon/term.asked",Rows.laid_gudgeon_term_asked)∈l):Ask9 W:=by
 obtain⟨r,k⟩:=laid_mem9 h h1
 obtain⟨ps,⟨g',t',cs,fuel,p,q,hg',ht',hvar,hd,_,_⟩,_⟩:=k
 obtain rfl:=Option.some.inj ((show Tryz.prog.globalNamed "gudgeon/term.asked"=some 0 by kernel_rfl).symm.trans hg')
 obtain rfl:=Option.some.inj ((show(Tryz.prog.globals[0]?).map (·.type)=some 240 by kernel_rfl).symm.trans ht')
 have k1:=(keyLits_of_trod (P:=Tryz.prog) 5 240 (by kernel_rfl) _ _ _ hd).1
 have k2:=cells_of_lits (P:=Tryz.prog) 5 240 (by kernel_rfl) _ _ _ k1
 intro o row hrow j v hv
 have hcell:=World.var?_cell (show Tryz.prog.globalNamed "gudgeon/term.asked"=some 0 by kernel_rfl) hvar (o*6+j)
 rw[hcell]
 have hflat:(Rows.laid_gudgeon_term_asked:DataW Unit).flat=Tm.tabL.flatten.map (fun(v:Nat)=>Lit.int .u8 (v:Int)):=by kernel_rfl
 have hol:o<31:=by
  have:=(List.getElem?_eq_some_iff.1 hrow).1
  rwa [show Tm.tabL.length=31 from rfl] at this
 have hsix:∀ r∈Tm.tabL,r.length=6:=by decide
 have hjl:j<6:=by
  have h1:=(List.getElem?_eq_some_iff.1 hv).1
  rwa [hsix row (List.mem_of_getElem? hrow)] at h1
 have hall:∀ o,o<31→∀ j,j<6→Tm.tabL.flatten[o*6+j]?=((Tm.tabL[o]?).getD [])[j]?:=by decide
 have hget:=hall o hol j hjl
 rw[hrow,Option.getD_some,hv] at hget
 have h3:cs.toList[o*6+j]?=some (.int .u8 (v:Int)):=by
  rw[k2,hflat,List.getElem?_map,List.getElem?_map,hget]
  rfl
 rw[←Array.getElem?_toList]
 exact h3
theorem drop_at (s:ByteArray) {i:Nat} (h:i<s.size):s.data.toList.drop i=s[i]::s.data.toList.drop (i+1):=by
 have h':i<s.data.toList.length:=by rw[Array.length_toList];exact h
 rw[List.drop_eq_getElem_cons h']
 congr 1
theorem drop_end (s:ByteArray):s.data.toList.drop s.size=[]:=by
 apply List.drop_eq_nil_of_le
 rw[Array.length_toList]
 exact Nat.le_refl _
theorem rstart (s:ByteArray) (a:Nat) (w:World) (hs:s.size≤maxLen) (ha:a≤s.size):
  Calls Tryz.prog 126 #[.string s,.int .i64 (a:Nat)] w fun e w'=>∃ k:Nat,e=.returned (.int .i64 (k:Nat))∧w'=w∧a≤k∧k≤s.size∧s.data.toList.drop k=Lx.skip false (s.data.toList.drop a):=by
 unfold maxLen at hs
 obtain⟨X,HX⟩:∃ X,Hid (Lx.skip false (s.data.toList.drop a)=X):=⟨_,rfl⟩
 rw[HX.out]
 go_enter Tryz.func126,Tryz.ntmps126
 go_wp2
 go_loopw [1,5] (fun iv rv wr=>∃ (i:Nat) (r:Bool),i≤s.size∧iv=.int .i64 (i:Nat)∧rv=.bool r∧wr=w∧Hid (a≤i∧Lx.skip r (s.data.toList.drop i)=X)) (fun iv _ _=>s.size-(intOf iv).toNat)
 case atStart=>exact⟨a,false,ha,rfl,rfl,rfl,⟨Nat.le_refl _,HX.out⟩⟩
 case round=>
  clear HX ha
  obtain⟨i,r,hi,rfl,rfl,rfl,HI⟩:=hrel
  by_cases hlt:i<s.size
  ·have HD:=Lib.hid (drop_at s hlt)
   have HG:=Lib.hid (rgood s[i] wr)
   have HB:=Lib.hid (rblank s[i] wr)
   obtain⟨g,hg'⟩:∃ g,Lx.good s[i]=g:=⟨_,rfl⟩
   obtain⟨b,hb'⟩:∃ b,Lx.blank s[i]=b:=⟨_,rfl⟩
   have hg:=Lib.hid hg'
   have hb:=Lib.hid hb'
   clear hg' hb'
   have HK:=Lib.hid (Lx.skip_cons r s[i] (s.data.toList.drop (i+1)))
   rw[hg.out,hb.out,←HD.out,HI.out.2] at HK
   rw[hg.out] at HG
   rw[hb.out] at HB
   have hlt':(i:Int)<(s.size:Int):=by omega
   cases g with
   |false=>
    have hk:s.data.toList.drop i=X:=HK.out.symm
    have HE:Hid (a≤i∧s.data.toList.drop i=X):=⟨HI.out.1,hk⟩
    clear HK HD HB HI hk hg hb
    go_wp2_with (go_at_call 127;refine HG.out.mono ?_;rintro e w1 ⟨rfl,rfl⟩)
    go_ret
    exact⟨i,rfl,by trivial,HE.out.1,hi,HE.out.2⟩
   |true=>
    by_cases h59:s[i].toNat=59
    ·have e1:((s[i].toNat:Int) == 10)=false:=beq_eq_false_iff_ne.2 (by omega)
     have e2:((s[i].toNat:Int) == 59)=true:=beq_iff_eq.2 (by omega)
     have hk:Lx.skip true (s.data.toList.drop (i+1))=X:=by
      have:=HK.out
      simp[h59] at this
      exact this.symm
     have HE:Hid (a≤i+1∧Lx.skip true (s.data.toList.drop (i+1))=X):=⟨by have:=HI.out.1;omega,hk⟩
     clear HK HD HB HI hk hg hb h59
     go_wp2_with (go_at_call 127;refine HG.out.mono ?_;rintro e w1 ⟨rfl,rfl⟩)
     go_roundw
     case rel=>exact⟨i+1,true,by omega,by go_num,rfl,by trivial,HE⟩
     case measure=>simp[intOf];omega
    have e2:((s[i].toNat:Int) == 59)=false:=beq_eq_false_iff_ne.2 (by omega)
    by_cases h10:s[i].toNat=10
    ·have e1:((s[i].toNat:Int) == 10)=true:=beq_iff_eq.2 (by omega)
     have hb2:b=true:=by rw[←hb.out,Lx.blank,h10];rfl
     subst hb2
     have hk:Lx.skip false (s.data.toList.drop (i+1))=X:=by
      have:=HK.out
      simp[h10] at this
      exact this.symm
     have HE:Hid (a≤i+1∧Lx.skip false (s.data.toList.drop (i+1))=X):=⟨by have:=HI.out.1;omega,hk⟩
     clear HK HD HI hk hg hb h59 h10
     go_wp2_with (first|(go_at_call 127;refine HG.out.mono ?_;rintro e w1 ⟨rfl,rfl⟩)|(go_at_call 152;refine HB.out.mono ?_;rintro e w1 ⟨rfl,rfl⟩))
     go_roundw
     case rel=>exact⟨i+1,false,by omega,by go_num,rfl,by trivial,HE⟩
     case measure=>simp[intOf];omega
    have e1:((s[i].toNat:Int) == 10)=false:=beq_eq_false_iff_ne.2 (by omega)
    by_cases hrb:r=false∧b=false
    ·obtain⟨rfl,rfl⟩:=hrb
     have hk:s.data.toList.drop i=X:=by
      have:=HK.out
      simp[h59] at this
      exact this.symm
     have HE:Hid (a≤i∧s.data.toList.drop i=X):=⟨HI.out.1,hk⟩
     clear HK HD HI hk hg hb h59 h10
     go_wp2_with (first|(go_at_call 127;refine HG.out.mono ?_;rintro e w1 ⟨rfl,rfl⟩)|(go_at_call 152;refine HB.out.mono ?_;rintro e w1 ⟨rfl,rfl⟩))
     go_ret
     exact⟨i,rfl,by trivial,HE.out.1,hi,HE.out.2⟩
    ·have hk:Lx.skip r (s.data.toList.drop (i+1))=X:=by
      have:=HK.out
      cases r <;> cases b <;> simp[h59,h10] at this hrb <;> exact this.symm
     have HE:Hid (a≤i+1∧Lx.skip r (s.data.toList.drop (i+1))=X):=⟨by have:=HI.out.1;omega,hk⟩
     clear HK HD HI hk hg hb h59 h10
     have hrb2:r=true∨r=false∧b=true:=by cases r <;> cases b <;> simp at hrb ⊢
     clear hrb
     rcases hrb2 with rfl|⟨rfl,rfl⟩
     all_goals
      go_wp2_with (first|(go_at_call 127;refine HG.out.mono ?_;rintro e w1 ⟨rfl,rfl⟩)|(go_at_call 152;refine HB.out.mono ?_;rintro e w1 ⟨rfl,rfl⟩))
      go_roundw
      case rel=>exact⟨i+1,_,by omega,by go_num,rfl,by trivial,HE⟩
      case measure=>simp[intOf];omega
  ·obtain rfl:i=s.size:=by omega
   have HE:Hid (a≤s.size∧s.data.toList.drop s.size=X):=⟨HI.out.1,by have:=HI.out.2;rw[drop_end] at this ⊢;exact this⟩
   clear HI
   go_wp2
   go_ret
   exact⟨s.size,rfl,by trivial,HE.out.1,Nat.le_refl _,HE.out.2⟩
theorem drop_cons_if (p:UInt8→Bool) (c:UInt8) (t:List UInt8):(c::t).dropWhile p=if p c=true then t.dropWhile p else c::t:=by rw[List.dropWhile_cons]
theorem rnames (s:ByteArray) (a:Nat) (w:World) (hs:s.size≤maxLen) (ha:a≤s.size):
  Calls Tryz.prog 153 #[.string s,.int .i64 (a:Nat)] w fun e w'=>∃ k:Nat,e=.returned (.int .i64 (k:Nat))∧w'=w∧a≤k∧k≤s.size∧s.data.toList.drop k=(s.data.toList.drop a).dropWhile Lx.name:=by
 unfold maxLen at hs
 obtain⟨X,HX⟩:∃ X,Hid ((s.data.toList.drop a).dropWhile Lx.name=X):=⟨_,rfl⟩
 rw[HX.out]
 go_enter Tryz.func153,Tryz.ntmps153
 go_wp2
 go_loopw [1] (fun iv wr=>∃ i:Nat,i≤s.size∧iv=.int .i64 (i:Nat)∧wr=w∧Hid (a≤i∧(s.data.toList.drop i).dropWhile Lx.name=X)) (fun iv _=>s.size-(intOf iv).toNat)
 case atStart=>exact⟨a,ha,rfl,rfl,⟨Nat.le_refl _,HX.out⟩⟩
 case round=>
  clear HX ha
  obtain⟨i,hi,rfl,rfl,HI⟩:=hrel
  by_cases hlt:i<s.size
  ·have HD:=Lib.hid (drop_at s hlt)
   have HG:=Lib.hid (rname s[i] wr)
   obtain⟨g,hg'⟩:∃ g,Lx.name s[i]=g:=⟨_,rfl⟩
   have HK:=drop_cons_if Lx.name s[i] (s.data.toList.drop (i+1))
   rw[hg',←HD.out,HI.out.2] at HK
   rw[hg'] at HG
   have hlt':(i:Int)<(s.size:Int):=by omega
   cases g with
   |false=>
    have HE:Hid (a≤i∧s.data.toList.drop i=X):=⟨HI.out.1,by simpa using HK.symm⟩
    clear HK HD HI hg'
    go_wp2_with (go_at_call 157;refine HG.out.mono ?_;rintro e w1 ⟨rfl,rfl⟩)
    go_ret
    exact⟨i,rfl,by trivial,HE.out.1,hi,HE.out.2⟩
   |true=>
    have HE:Hid (a≤i+1∧(s.data.toList.drop (i+1)).dropWhile Lx.name=X):=⟨by have:=HI.out.1;omega,by simpa using HK.symm⟩
    clear HK HD HI hg'
    go_wp2_with (go_at_call 157;refine HG.out.mono ?_;rintro e w1 ⟨rfl,rfl⟩)
    go_roundw
    case rel=>exact⟨i+1,by omega,by go_num,by trivial,HE⟩
    case measure=>simp[intOf];omega
  ·obtain rfl:i=s.size:=by omega
   have HE:Hid (a≤s.size∧s.data.toList.drop s.size=X):=⟨HI.out.1,by have:=HI.out.2;rw[drop_end] at this ⊢;exact this⟩
   clear HI
   go_wp2
   go_ret
   exact⟨s.size,rfl,by trivial,HE.out.1,Nat.le_refl _,HE.out.2⟩
theorem nil_bytes {s:ByteArray} (h:s.size=0):s.data.toList=[]∧s.toList=[]:=by
 have e:s.data.toList=[]:=List.eq_nil_of_length_eq_zero (by rw[Array.length_toList];exact h)
 exact⟨e,by rw[ByteArray.toList_eq,e]⟩
theorem some_bytes {s:ByteArray} (h:0<s.size):s.data.toList.isEmpty=false∧s.toList.isEmpty=false∧(s.toList == [])=false:=by
 have e:s.data.toList.isEmpty=false:=by
  cases hl:s.data.toList with
  |nil=>
   have:s.data.toList.length=0:=by rw[hl];rfl
   rw[Array.length_toList] at this
   exact absurd h (by show ¬0<s.data.size;omega)
  |cons _ _=>rfl
 refine⟨e,by rw[ByteArray.toList_eq];exact e,?_⟩
 rw[ByteArray.toList_eq]
 cases hl:s.data.toList with
 |nil=>rw[hl] at e;cases e
 |cons _ _=>rfl
theorem rdigits (s:ByteArray) (w:World) (hs:s.size≤maxLen):
  Calls Tryz.prog 184 #[.string s] w fun e w'=>e=.returned (.bool (Lx.digits s.data.toList))∧w'=w:=by
 unfold maxLen at hs
 by_cases h0:s.size=0
 ·obtain⟨e1,e2⟩:=nil_bytes h0
  rw[e1]
  clear e1
  show Calls _ _ _ _ fun e w'=>e=.returned (.bool false)∧w'=w
  go_enter Tryz.func184,Tryz.ntmps184
  go_wp2
  go_loopw [3] (fun iv wr=>iv=.int .i64 0∧wr=w) (fun _ _=>0)
  case atStart=>exact⟨rfl,rfl⟩
  case round=>
   obtain⟨rfl,rfl⟩:=hrel
   go_wp2
   go_ret
   exact⟨rfl,by trivial⟩
 obtain⟨f1,f2,f3⟩:=some_bytes (s:=s) (by omega)
 obtain⟨X,HX⟩:∃ X,Hid (Lx.digits s.data.toList=X):=⟨_,rfl⟩
 have HX2:Hid ((s.data.toList.drop 0).all Lx.digit=X):=by
  show _=_
  rw[←HX.out,Lx.digits,f1,List.drop_zero]
  rfl
 rw[HX.out]
 clear f1 HX
 go_enter Tryz.func184,Tryz.ntmps184
 go_wp2
 go_loopw [3] (fun iv wr=>∃ i:Nat,i≤s.size∧iv=.int .i64 (i:Nat)∧wr=w∧Hid ((s.data.toList.drop i).all Lx.digit=X)) (fun iv _=>s.size-(intOf iv).toNat)
 case atStart=>exact⟨0,by omega,rfl,rfl,HX2⟩
 case round=>
  clear HX2
  obtain⟨i,hi,rfl,rfl,HI⟩:=hrel
  by_cases hlt:i<s.size
  ·have HG:=Lib.hid (rdigit s[i] wr)
   obtain⟨g,hg'⟩:∃ g,Lx.digit s[i]=g:=⟨_,rfl⟩
   have HK:=HI.out
   rw[drop_at s hlt,List.all_cons,hg'] at HK
   rw[hg'] at HG
   have hlt':(i:Int)<(s.size:Int):=by omega
   cases g with
   |false=>
    obtain rfl:X=false:=by simpa using HK.symm
    clear HK HI hg'
    go_wp2_with (go_at_call 155;refine HG.out.mono ?_;rintro e w1 ⟨rfl,rfl⟩)
    go_ret
    exact⟨rfl,by trivial⟩
   |true=>
    have HE:Hid ((s.data.toList.drop (i+1)).all Lx.digit=X):=Lib.hid (by simpa using HK)
    clear HK HI hg'
    go_wp2_with (go_at_call 155;refine HG.out.mono ?_;rintro e w1 ⟨rfl,rfl⟩)
    go_roundw
    case rel=>exact⟨i+1,by omega,by go_num,by trivial,HE⟩
    case measure=>simp[intOf];omega
  ·obtain rfl:i=s.size:=by omega
   obtain rfl:X=true:=by have:=HI.out;rw[drop_end] at this;exact this.symm
   clear HI
   go_wp2
   go_ret
   exact⟨rfl,by trivial⟩
end Go.Proofs.YtcgaeknikfaghaaGreatDoor
