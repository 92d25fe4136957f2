import Derived.Test.YtdbgiijdgedggaaGreatDoorQM36
import Derived.Test.YtdbgiijdgedggaaGreatDoorQM32
set_option linter.unusedSimpArgs false
set_option linter.unusedVariables false
set_option maxRecDepth 100000
set_option maxHeartbeats 25600000
namespace Go.Proofs.YtdbgiijdgedggaaGreatDoor
open Go.RowKit
abbrev ku:Array Value:=#[.string ⟨#[110,111,116]⟩,.string ⟨#[97,110,100]⟩,.string ⟨#[111,114]⟩,.string ⟨#[61,62]⟩,.string ⟨#[120,111,114]⟩,.string ⟨#[61]⟩,.string ⟨#[100,105,115,116,105,110,99,116]⟩,.string ⟨#[105,116,101]⟩,.string ⟨#[]⟩,.string ⟨#[43]⟩,.string ⟨#[45]⟩,.string ⟨#[42]⟩,.string ⟨#[60,61]⟩,.string ⟨#[60]⟩,.string ⟨#[62,61]⟩,.string ⟨#[62]⟩,.string ⟨#[115,116,114,46,43,43]⟩,.string ⟨#[115,116,114,46,108,101,110]⟩,.string ⟨#[115,116,114,46,97,116]⟩,.string ⟨#[115,116,114,46,115,117,98,115,116,114]⟩,.string ⟨#[115,116,114,46,112,114,101,102,105,120,111,102]⟩,.string ⟨#[115,116,114,46,115,117,102,102,105,120,111,102]⟩,.string ⟨#[115,116,114,46,99,111,110,116,97,105,110,115]⟩,.string ⟨#[115,116,114,46,105,110,100,101,120,111,102]⟩,.string ⟨#[115,116,114,46,114,101,112,108,97,99,101]⟩]
abbrev jt:Array Value:=#[.string ⟨#[116,114,117,101]⟩,.string ⟨#[102,97,108,115,101]⟩,.string ⟨#[108,101,116]⟩,.string ⟨#[102,111,114,97,108,108]⟩,.string ⟨#[101,120,105,115,116,115]⟩,.string ⟨#[109,97,116,99,104]⟩,.string ⟨#[112,97,114]⟩,.string ⟨#[33]⟩,.string ⟨#[95]⟩,.string ⟨#[97,115]⟩,.string ⟨#[100,105,118]⟩,.string ⟨#[109,111,100]⟩,.string ⟨#[97,98,115]⟩]
theorem qM (i:Nat):ku[i]?=(Bd.bg[i]?).map fun l=>Value.string ⟨l.toArray⟩:=by
 rw[<-Fj,<-Hs]
 rfl
theorem oE (i:Nat):jt[i]?=(Bd.cg[i]?).map fun l=>Value.string ⟨l.toArray⟩:=by
 rw[<-Fj,<-Hs]
 rfl
theorem j9:Bd.bg.length=25:=rfl
theorem jx:Bd.cg.length=13:=rfl
theorem Bd.Aq:∀ i:Fin 25,Bd.bg[i]≠[]->Bd.bg.findIdx? (fun t=>t == Bd.bg[i])=some i.val:=by decide
theorem Bd.CA {s:List UInt8} {n i:Nat} (h:¬(s=[45]/\n=1)) (hs:s≠[]) (hi:Bd.bg[i]?=some s):Bd.op s n=6+(i:Int):=by
 obtain⟨hl,e⟩:=Fg.1 hi
 have:=Bd.Aq ⟨i,hl⟩
 simp only[Fin.getElem_fin,e] at this
 unfold Bd.op
 rw[FQ h,FQ hs,this hs]
theorem Bd.zx {s:List UInt8} {n:Nat} (h:¬(s=[45]/\n=1)) (hs:s≠[]->∀ (j:Nat) y,Bd.bg[j]?=some y->y≠s):Bd.op s n=0:=by
 by_cases e:s=[]
 ·unfold Bd.op
  rw[FQ h,Fx e]
 ·exact Bd.ud fun hm=>by
   obtain⟨j,r⟩:=Ic hm
   exact hs e j s r rfl
theorem Cl {s:ByteArray} (h:s.data.toList≠[]):s.toList.isEmpty=false:=by
 rw[GA]
 cases e:s.data.toList with
 |nil=>exact absurd e h
 |cons a l=>rfl
theorem Cc {s:ByteArray} (h:s.data.toList=[]):s.toList.isEmpty=true:=by rw[GA,h];rfl
theorem jC (s:ByteArray) (n:Nat) (w:World):
  Calls Tryz.prog 104 #[.string s,.int .i64 (n:Int)] w fun e w'=>e=.returned (.int .i64 (Bd.op s.data.toList n))/\Below w.heap.size w w':=by
 by_cases L:s.data.toList=[45]/\n=1
 ·obtain⟨L,rfl⟩:=L
  have b0:=aq L
  have e:Bd.op s.data.toList 1=14:=by rw[L];decide
  rw[e]
  clear L e
  go_enter Tryz.func104,Tryz.ntmps104
  go_wp2
  go_ret
  exact⟨rfl,Gp _ _⟩
 have hc:((s.toList == [45])=true/\((n:Int) == 1)=false)\/(s.toList == [45])=false:=by
  by_cases h:s.data.toList=[45]
  ·have h1:n≠1:=fun e=>L ⟨h,e⟩
   exact .inl ⟨aq h,Gx.2 (by omega)⟩
  ·exact .inr (az h)
 have I:Hid ((s.data.toList≠[]->∀ (j:Nat) y,Bd.bg[j]?=some y->y≠s.data.toList)->Bd.op s.data.toList n=0):=fun h=>Bd.zx L h
 have J:Hid (∀ i:Nat,s.data.toList≠[]->Bd.bg[i]?=some s.data.toList->Bd.op s.data.toList n=6+(i:Int)):=fun i h1 h2=>Bd.CA L h1 h2
 obtain⟨r,hr⟩:∃ r,Bd.op s.data.toList n=r:=⟨_,rfl⟩
 rw[hr] at I J ⊢
 obtain⟨U,O⟩:∃ U,w.alloc (.cells ku 9)=U:=⟨_,rfl⟩
 have hL:aa U w.heap.size 9 ku:=by rw[<-O];exact aa.new w _ _
 have HB:Hid (Below w.heap.size w U):=by rw[<-O];exact(Gp _ w).alloc (Fm _) _
 have a1:=hL.lt
 have V:Hid (∀ (i:Nat),i<25->∃ y:ByteArray,Bd.bg[i]?=some y.data.toList/\U.cell? ⟨w.heap.size,i,none⟩=some (.string y)):=fun i hi=>by
  obtain⟨l,hl⟩:∃ l,Bd.bg[i]?=some l:=⟨_,Ge (by rw[j9];exact hi)⟩
  exact⟨⟨l.toArray⟩,by rw[hl],by rw[hL.cell,qM,hl];rfl⟩
 unfold ku at O
 clear L hr hL
 rcases hc with⟨b0,d1⟩|b0
 all_goals
  go_enter Tryz.func104,Tryz.ntmps104
  go_wp2
  clear O
  go_loopw [6] (fun iv wr=>∃ i:Nat,i<=25/\iv=.int .i64 (i:Nat)/\U=wr/\Hid (s.data.toList≠[]->∀ (j:Nat) y,j<i->Bd.bg[j]?=some y->y≠s.data.toList)) (fun iv _=>25-(intOf iv).toNat)
  case atStart=>exact⟨0,Fz _,rfl,rfl,fun _ _ _ h=>absurd h (Gv _)⟩
  case round=>
   obtain⟨i,hi,rfl,rfl,Q⟩:=hrel
   by_cases X:i<25
   ·obtain⟨y,hl,c1⟩:=V.out i X
    have q1:=tI y s
    have ad:(0:Int)<=(i:Int):=by omega
    have ah:(i:Int)<25:=by omega
    have av:IntKind.i64.wrap ((i:Int)+1)=(i:Int)+1:=GR _ (by omega)
    have ao:IntKind.i64.wrap (6+(i:Int))=6+(i:Int):=GR _ (by omega)
    by_cases e:y=s
    ·rw[FW e] at q1
     by_cases hs:s.data.toList=[]
     ·have q2:=Cc hs
      have Z:Hid (s.data.toList≠[]->∀ (j:Nat) y,j<i+1->Bd.bg[j]?=some y->y≠s.data.toList):=fun h=>absurd hs h
      clear hl e hs Q V I J
      go_wp2
      go_roundw
      case rel=>exact⟨i+1,by omega,by go_num,(by first|trivial|rfl),Z⟩
      case measure=>simp[intOf];omega
     ·have q2:=Cl hs
      rw[e] at hl
      have hh:=J.out i hs hl
      subst hh
      clear hl e hs Q V I J
      go_wp2
      go_ret
      exact⟨rfl,HB.out⟩
    ·rw[Gq e] at q1
     have Z:Hid (s.data.toList≠[]->∀ (j:Nat) y,j<i+1->Bd.bg[j]?=some y->y≠s.data.toList):=fun h j y2 hj hy=>by
      rcases GX j i with e1|e1
      ·exact Q.out h j y2 e1 hy
      ·obtain rfl:j=i:=by omega
       rw[hl] at hy
       injection hy with hy
       rw[<-hy]
       exact fun h2=>e (dK h2)
     clear hl e Q V I J
     go_wp2
     go_roundw
     case rel=>exact⟨i+1,by omega,by go_num,(by first|trivial|rfl),Z⟩
     case measure=>simp[intOf];omega
   ·obtain rfl:i=25:=by omega
    have hh:r=0:=I.out fun h j y hy=>Q.out h j y (by have:=(Fg.1 hy).1;rw[j9] at this;exact this) hy
    subst hh
    clear Q V I J
    go_wp2
    go_ret
    exact⟨rfl,HB.out⟩
theorem mq (s:ByteArray) (k:Nat) (r:k<=s.size) (W:World) (h:k<=100):(Instr.slice 9 (.string s) none (some (.int .i64 (k:Nat))) none).run Tryz.prog W=.ok (.string (s.extract 0 k)) W:=by
 rw[run_slice_string_to_if _ _ _ _ _ Tryz.underlying9,Fx (by omega)]
 rfl
theorem mR (s:ByteArray) (k:Nat):(s.extract 0 k).data.toList=s.data.toList.take k:=by simp
theorem lh {l m:List UInt8} {k:Nat} (hm:m.length=k) (hl:l.length<k):l.take k≠m:=fun e=>by
 have:=G1 List.length e
 rw[FK] at this
 omega
theorem gB (s:ByteArray) (w:World):
  Calls Tryz.prog 60 #[.string s] w fun e w'=>e=.returned (.bool (Bd.reserved s.data.toList))/\Below w.heap.size w w':=by
 obtain⟨W1,ad⟩:∃ W1,w.alloc (.cells jt 9)=W1:=⟨_,rfl⟩
 have hL:aa W1 w.heap.size 9 jt:=by rw[<-ad];exact aa.new w _ _
 have HB:Hid (Below w.heap.size w W1):=by rw[<-ad];exact(Gp _ w).alloc (Fm _) _
 have bl:=hL.lt
 have HC:Hid (∀ (i:Nat),i<13->∃ y:ByteArray,Bd.cg[i]?=some y.data.toList/\W1.cell? ⟨w.heap.size,i,none⟩=some (.string y)):=fun i hi=>by
  obtain⟨l,hl⟩:∃ l,Bd.cg[i]?=some l:=⟨_,Ge (by rw[jx];exact hi)⟩
  exact⟨⟨l.toArray⟩,by rw[hl],by rw[hL.cell,oE,hl];rfl⟩
 have O:Hid (∀ (i:Nat),Bd.cg[i]?=some s.data.toList->Bd.reserved s.data.toList=true):=fun i h=>by
  unfold Bd.reserved
  rw[List.contains_iff_mem.2 (FP h)]
  rfl
 have I:Hid ((∀ (j:Nat) y,Bd.cg[j]?=some y->y≠s.data.toList)->Bd.reserved s.data.toList=(decide (s.data.toList.take 4=[115,116,114,46])||decide (s.data.toList.take 3=[114,101,46])||decide (Bd.op s.data.toList 2≠0))):=fun h=>by
  unfold Bd.reserved
  rw[show Bd.cg.contains s.data.toList=false by
   rw[GU]
   intro e
   obtain⟨j,hj⟩:=Ic (List.contains_iff_mem.1 e)
   exact h j _ hj rfl]
  rw[Ii]
 have V:=Gn fun W=>jC s 2 W
 obtain⟨L,bn⟩:∃ L,s.size=L:=⟨_,rfl⟩
 have bb:s.data.toList.length=L:=by rw[<-bn,Fv];rfl
 have Z:Hid (4<=L->∃ p:ByteArray,(∀ W,(Instr.slice 9 (.string s) none (some (.int .i64 4)) none).run Tryz.prog W=.ok (.string p) W)/\(p.toList == [115,116,114,46])=decide (s.data.toList.take 4=[115,116,114,46])):=fun h=>
  ⟨s.extract 0 4,fun W=>mq s 4 (by omega) W (by decide),by
   have e:=mR s 4
   by_cases J:s.data.toList.take 4=[115,116,114,46]
   ·rw[FW J];exact aq (e.trans J)
   ·rw[Gq J];exact az fun h3=>J (e.symm.trans h3)⟩
 have X:Hid (3<=L->∃ p:ByteArray,(∀ W,(Instr.slice 9 (.string s) none (some (.int .i64 3)) none).run Tryz.prog W=.ok (.string p) W)/\(p.toList == [114,101,46])=decide (s.data.toList.take 3=[114,101,46])):=fun h=>
  ⟨s.extract 0 3,fun W=>mq s 3 (by omega) W (by decide),by
   have e:=mR s 3
   by_cases J:s.data.toList.take 3=[114,101,46]
   ·rw[FW J];exact aq (e.trans J)
   ·rw[Gq J];exact az fun h3=>J (e.symm.trans h3)⟩
 have U:Hid (¬4<=L->decide (s.data.toList.take 4=[115,116,114,46])=false):=fun h=>Gq (lh rfl (by omega))
 have Q:Hid (¬3<=L->decide (s.data.toList.take 3=[114,101,46])=false):=fun h=>Gq (lh rfl (by omega))
 obtain⟨r,hr⟩:∃ r,Bd.reserved s.data.toList=r:=⟨_,rfl⟩
 obtain⟨o,ho⟩:∃ o,Bd.op s.data.toList 2=o:=⟨_,rfl⟩
 obtain⟨t4,a1⟩:∃ t4,decide (s.data.toList.take 4=[115,116,114,46])=t4:=⟨_,rfl⟩
 obtain⟨t3,av⟩:∃ t3,decide (s.data.toList.take 3=[114,101,46])=t3:=⟨_,rfl⟩
 rw[hr] at O I ⊢
 rw[ho] at I V
 rw[a1] at I Z U
 rw[av] at I X Q
 unfold jt at ad
 clear hr hL ho a1 av bb
 go_enter Tryz.func60,Tryz.ntmps60
 go_wp2
 clear ad
 go_loopw [4] (fun iv wr=>∃ i:Nat,i<=13/\iv=.int .i64 (i:Nat)/\W1=wr/\Hid (∀ (j:Nat) y,j<i->Bd.cg[j]?=some y->y≠s.data.toList)) (fun iv _=>13-(intOf iv).toNat)
 case atStart=>exact⟨0,Fz _,rfl,rfl,fun _ _ h=>absurd h (Gv _)⟩
 case round=>
  obtain⟨i,hi,rfl,rfl,HI⟩:=hrel
  by_cases ao:i<13
  ·obtain⟨y,hl,c1⟩:=HC.out i ao
   have q1:=tI y s
   have bo:(0:Int)<=(i:Int):=by omega
   have bp:(i:Int)<13:=by omega
   have bx:IntKind.i64.wrap ((i:Int)+1)=(i:Int)+1:=GR _ (by omega)
   by_cases e:y=s
   ·rw[FW e] at q1
    rw[e] at hl
    have hh:=O.out i hl
    subst hh
    clear hl e HI HC O I V Z X U Q
    go_wp2
    go_ret
    exact⟨rfl,HB.out⟩
   ·rw[Gq e] at q1
    have HN:Hid (∀ (j:Nat) y,j<i+1->Bd.cg[j]?=some y->y≠s.data.toList):=fun j y2 hj hy=>by
     rcases GX j i with e1|e1
     ·exact HI.out j y2 e1 hy
     ·obtain rfl:j=i:=by omega
      rw[hl] at hy
      injection hy with hy
      rw[<-hy]
      exact fun J=>e (dK J)
    clear hl e HI HC O I V Z X U Q
    go_wp2
    go_roundw
    case rel=>exact⟨i+1,by omega,by go_num,(by first|trivial|rfl),HN⟩
    case measure=>simp[intOf];omega
  ·obtain rfl:i=13:=by omega
   have hr:=I.out fun j y hy=>HI.out j y (by have:=(Fg.1 hy).1;rw[jx] at this;exact this) hy
   have hR:=Gn hr
   clear HI HC O I hr
   have ba:∃ p:ByteArray,(∀ W,4<=L->(Instr.slice 9 (.string s) none (some (.int .i64 4)) none).run Tryz.prog W=.ok (.string p) W)/\((decide ((4:Int)<=(L:Int))=true/\4<=L/\(p.toList == [115,116,114,46])=t4)\/(decide ((4:Int)<=(L:Int))=false/\t4=false)):=by
    by_cases h:4<=L
    ·obtain⟨p,h1,J⟩:=Z.out h
     exact⟨p,fun W _=>h1 W,.inl ⟨FW (by omega),h,J⟩⟩
    ·exact⟨s,fun W J=>absurd J h,.inr ⟨Gq (by omega),U.out h⟩⟩
   have a7:∃ p:ByteArray,(∀ W,3<=L->(Instr.slice 9 (.string s) none (some (.int .i64 3)) none).run Tryz.prog W=.ok (.string p) W)/\((decide ((3:Int)<=(L:Int))=true/\3<=L/\(p.toList == [114,101,46])=t3)\/(decide ((3:Int)<=(L:Int))=false/\t3=false)):=by
    by_cases h:3<=L
    ·obtain⟨p,h1,J⟩:=X.out h
     exact⟨p,fun W _=>h1 W,.inl ⟨FW (by omega),h,J⟩⟩
    ·exact⟨s,fun W J=>absurd J h,.inr ⟨Gq (by omega),Q.out h⟩⟩
   obtain⟨p4,s4,c4⟩:=ba
   obtain⟨p3,s3,c3⟩:=a7
   clear Z X U Q bl
   rcases c4 with⟨c4,l4,q4⟩|⟨c4,z4⟩ <;> rcases c3 with⟨c3,l3,q3⟩|⟨c3,z3⟩
   all_goals
    first|(replace s4:=fun W=>s4 W l4)|clear s4
    first|(replace s3:=fun W=>s3 W l3)|clear s3
    cases t4 <;> cases t3
    all_goals
     first
      |exact absurd z4 (by decide)
      |exact absurd z3 (by decide)
      |(
       have ah:r=true:=by have:=hR.out;simpa using this
       subst ah
       clear hR V
       go_wp2
       go_ret
       exact⟨rfl,HB.out⟩)
      |(
       have ah:r=decide (o≠0):=by have:=hR.out;simpa using this
       have bz:(o != 0)=r:=by rw[ah];by_cases e:o=0 <;> simp[e]
       clear hR ah
       go_wp2_with (go_at_call 104;refine(V.out _).mono ?_;rintro e w2 ⟨rfl,b2⟩)
       go_ret
       exact⟨rfl,HB.out.trans (b2.mono HB.out.size)⟩)
theorem Rf.dC {E:Rf.Env} {i S:Nat} {w J:World} {Y:Rf.Lay} {s:Rf.St} {rest:Nat} (h:Rf.aF E w Y s) (I:Rf.Ok E.D E.n i S s 0 rest) {r:bN} (U:Tm.Inv r.1) (hp:s.N<+:r.1) (hl:r.1.length<=20000) {e:Ending} (hn:cO w (Rf.free E Y) r e J):
  ∃ (A:Option Addr) (c:Nat),e=.returned (.tuple #[.slice A r.1.length c,.int .i64 r.2.1,.int .i64 r.2.2])/\aa J E.mb 102 (Rf.cells E Y s)/\Rf.aY E i S w Y s r rest (.returned (.tuple #[.int .i64 r.2.1,.int .i64 r.2.2])) (J.setCell ⟨E.mb,0,none⟩ (.slice A r.1.length c)):=by
 obtain⟨⟨A,c,rfl,V⟩,hb⟩:=hn
 have Q:=h.below hb
 have L:bO J (Rf.free E Y) A r.1.length c r.1:=V.mono fun k O=>O.elim id fun e=>⟨h.out k e,fun x=>by have:=h.vY k x;omega⟩
 have X:=Q.Ex L
 exact⟨A,c,rfl,Q.own,rfl,s.made,⟨_,X,rfl,(ae.af hb).put (p:=⟨E.mb,0,none⟩) (.inl (.inl rfl)) _,fun k O=> .inl O⟩,fun _=>⟨U,hl,I.nV.ext hp,I.cD.ext I.inv U hp,I.apart,I.fits⟩,fun _=> .inl⟩
theorem Rf.aY.up {E:Rf.Env} {i S:Nat} {w W w':World} {Y:Rf.Lay} {s:Rf.St} {r:bN} {rest:Nat} {e:Ending} (h:Rf.aY E i S W Y s r rest e w') (hb:Below w.heap.size w W):Rf.aY E i S w Y s r rest e w':=by
 obtain⟨I,m',J,L⟩:=h
 exact⟨I,m',J.up hb,L⟩
theorem Rf.aY.same {E:Rf.Env} {i S:Nat} {w I:World} {Y:Rf.Lay} {s:Rf.St} {rest:Nat} {id r:Int} (h:Rf.aF E w Y s) (hb:Below w.heap.size w I) (J:r=0->Rf.Ok E.D E.n i S s 0 rest):Rf.aY E i S w Y s (s.N,id,r) rest (.returned (.tuple #[.int .i64 id,.int .i64 r])) I:=
 ⟨rfl,s.made,Rf.Left.same h hb,fun e=>J e,fun _=> .inl⟩
def Rf.EJ (E:Rf.Env) (i S k:Nat):Prop:=∀ (j:Nat) d,j<k->E.D[j]?=some d->d.cL=true->Rf.Term E i S j d.body
structure Rf.Dj (E:Rf.Env) (i S:Nat):Prop where
 room:Bd.je E.D i E.n+(Bd.gb E.D i E.n+S)<=3200000000000
 cap:E.n<=E.c
 par:∀ d∈E.D,d.par.length<=1000
 n:E.n<=1000
 fine:∀ d∈E.D,Sx.bH d.body/\d.body.size<=90000
theorem zQ (E:Rf.Env) (i S:Nat) (hE:Rf.Dj E i S) (w:World) (Y:Rf.Lay) (s:Rf.St) (rest:Nat) (nm:ByteArray) (hF:Rf.EJ E i S s.k) (h:Rf.aF E w Y s) (hO:Rf.Ok E.D E.n i S s 0 rest) (bz:s.sc.length<=100000):
  Calls Tryz.prog 101 #[.pointer (some ⟨E.mb,0,none⟩),.string nm] w fun e w'=>Rf.aY E i S w Y s (Bd.jA E.D s.k (Bd.fn E.D) s.sc s.N nm) rest e w':=by
 obtain⟨R,O⟩:∃ R,Bd.jA E.D s.k (Bd.fn E.D) s.sc s.N nm=R:=⟨_,rfl⟩
 rw[O]
 unfold Bd.jA at O
 have HR:=Gn h
 have HO:=Gn hO
 have HF:=Gn hF
 have HE:=Gn hE
 have bx:=h.aO.len
 have ao:s.N.length<=30000:=Fo hO.len (by decide)
 by_cases X:nm.data.toList=[116,114,117,101]\/nm.data.toList=[102,97,108,115,101]
 ·rw[Fx X] at O
  obtain⟨bb,b3⟩:∃ bb,decide (nm.data.toList=[116,114,117,101])=bb:=⟨_,rfl⟩
  rw[b3] at O
  have e1:(nm.toList == [116,114,117,101])=bb:=by rw[GA,<-b3,Ia];simp
  have e2:bb=true\/(bb=false/\(nm.toList == [102,97,108,115,101])=true):=by
   rcases X with h1|h1
   ·exact .inl (by rw[<-b3,h1];rfl)
   ·exact .inr ⟨by rw[<-b3,h1];rfl,by rw[GA,h1];rfl⟩
  have bB:=Bd.St.bool bb hO.inv
  have HB:=Gn (CT w Y.bA s.N.length Y.bc s.N bb h.aO ao)
  have HK:Hid (∀ e r,cO w (Rf.free E Y) R e r->∃ (A:Option Addr) (c:Nat),e=.returned (.tuple #[.slice A R.1.length c,.int .i64 R.2.1,.int .i64 R.2.2])/\aa r E.mb 102 (Rf.cells E Y s)/\Rf.aY E i S w Y s R rest (.returned (.tuple #[.int .i64 R.2.1,.int .i64 R.2.2])) (r.setCell ⟨E.mb,0,none⟩ (.slice A R.1.length c))):=fun e r hn=>
   Rf.dC HR.out HO.out (by rw[<-O];exact bB.1) (by rw[<-O];exact bB.2.1) (by rw[<-O];exact Tm.oV HO.out.len bb) hn
  rw[O] at HB
  obtain⟨m0,m1,m2,m3⟩:=h.at_
  clear h hO hF hE bB O bz b3 X bx ao HR HO HF HE
  rcases e2 with rfl|⟨rfl,e2⟩
  all_goals
   go_enter Tryz.func101,Tryz.ntmps101
   go_wp2_with fail
   refine HB.out.mono ?_
   intro e r hn
   obtain⟨A,c,rfl,hl,hv⟩:=HK.out e r hn
   have HP:=Gn (kB r E.mb _ _ _ _ hl A R.1.length c R.2.1 R.2.2)
   have HV:=Gn hv
   clear HB HK hn hl hv m0 m1 m2 m3
   go_wp2_with fail
   refine HP.out.mono ?_
   rintro e w2 ⟨rfl,rfl⟩
   clear HP
   go_wp2
   exact GD (by simp[results,Tryz.results101,go_sem]) rfl HV.out
 rw[FQ X] at O
 have e1:(nm.toList == [116,114,117,101])=false:=by rw[GA];exact Gx.2 fun e=>X (.inl e)
 have e2:(nm.toList == [102,97,108,115,101])=false:=by rw[GA];exact Gx.2 fun e=>X (.inr e)
 have U:=Gn (gB nm w)
 by_cases I:Bd.reserved nm.data.toList=true
 ·rw[Fx I] at O
  rw[I] at U
  subst O
  clear h hO hF hE bx ao HF HE X I bz
  go_enter Tryz.func101,Tryz.ntmps101
  go_wp2_with fail
  refine U.out.mono ?_
  rintro e r ⟨rfl,J⟩
  have HV:Hid (Rf.aY E i S w Y s (s.N,0,101) rest (.returned (.tuple #[.int .i64 0,.int .i64 101])) r):=Rf.aY.same HR.out J fun e=>absurd e (by decide)
  clear U J HR HO
  go_wp2
  exact GD (by simp[results,Tryz.results101,go_sem]) rfl HV.out
 rw[FQ I] at O
 have I:Bd.reserved nm.data.toList=false:=by simpa using I
 rw[I] at U
 have V:=Gn fun(r:World) (J:Below w.heap.size w r)=>qb r E.mb Y.iA s.sc.length Y.ic s.sc nm ((HR.out.below J).at_.2.2.1) (HR.out.below J).scope (by omega)
 cases a7:Bd.bound s.sc nm with
 |some id=>
  rw[a7] at O V
  subst O
  clear h hO hF hE bx ao HF HE X I a7 bz
  go_enter Tryz.func101,Tryz.ntmps101
  go_wp2_with fail
  refine U.out.mono ?_
  rintro e r ⟨rfl,J⟩
  have Q:=Gn (V.out r J)
  have HV:Hid (Rf.aY E i S w Y s (s.N,id,0) rest (.returned (.tuple #[.int .i64 id,.int .i64 0])) r):=Rf.aY.same HR.out J fun _=>HO.out
  clear U V J HR HO
  go_wp2_with fail
  refine Q.out.mono ?_
  rintro e w2 ⟨rfl,rfl⟩
  clear Q
  go_wp2
  exact GD (by simp[results,Tryz.results101,go_sem]) rfl HV.out
 |none=>
 rw[a7] at O V
 simp only at O
 have ah:=Gn fun(r:World) (J:Below w.heap.size w r)=>j7 r E.mb E.A E.n s.k E.c E.L nm ((HR.out.below J).at_.2.1) (HR.out.below J).decl HR.out.kn (by have:=HR.out.kn;have:=HE.out.n;omega)
 cases ba:Bd.decl E.D nm s.k with
 |none=>
  rw[ba] at O ah
  simp only at O
  subst O
  clear h hO hF hE bx ao HF HE X I a7 bz ba
  go_enter Tryz.func101,Tryz.ntmps101
  go_wp2_with fail
  refine U.out.mono ?_
  rintro e r ⟨rfl,J⟩
  have Q:=Gn (V.out r J)
  have Z:=Gn (ah.out r J)
  have HV:Hid (Rf.aY E i S w Y s (s.N,0,100) rest (.returned (.tuple #[.int .i64 0,.int .i64 100])) r):=Rf.aY.same HR.out J fun e=>absurd e (by decide)
  clear U V ah J HR HO
  go_wp2_with fail
  refine Q.out.mono ?_
  rintro e w2 ⟨rfl,rfl⟩
  clear Q
  go_wp2_with fail
  refine Z.out.mono ?_
  rintro e w2 ⟨rfl,rfl⟩
  clear Z
  go_wp2
  exact GD (by simp[results,Tryz.results101,go_sem]) rfl HV.out
 |some j=>
 obtain⟨hj,d,hd,cq⟩:=Bd.bK ba
 rw[ba] at O ah
 simp only[hd] at O
 obtain⟨b,off,P,d',hA,hb,_,b4,cj,hc⟩:=h.decl.get (i:=j) (by have:=h.kn;omega)
 obtain rfl:d'=d:=by rw[hd] at b4;exact(Fk b4).symm
 obtain⟨sk,ca⟩:∃ sk,s.k=sk:=⟨_,rfl⟩
 have cY:(j:Int)<(sk:Int):=by omega
 have cX:(0:Int)<=(j:Int):=by omega
 have c6:decide ((j:Int)<0)=false:=Gq (by omega)
 have HC:Hid (∀ W,Below w.heap.size w W->W.cell? ⟨E.mb,1,none⟩=some (.slice (some ⟨b,off,none⟩) sk E.c)/\b<W.heap.size/\∀ u v,(fN P d')[u]?=some v->W.cell? ⟨b,off+j*10+u,none⟩=some v):=fun W hW=>by
  have h1:=(HR.out.below hW).at_.2.1
  rw[hA,ca] at h1
  exact⟨h1,hc W (ae.af hW)⟩
 have HJ:=Gn (Ig hj hd)
 obtain⟨nd,b6⟩:∃ nd,d'.name=nd:=⟨_,rfl⟩
 obtain⟨so,b7⟩:∃ so,d'.sort=so:=⟨_,rfl⟩
 obtain⟨cL,ad⟩:∃ cL,d'.cL=cL:=⟨_,rfl⟩
 obtain⟨pn,a1⟩:∃ pn,d'.par.length=pn:=⟨_,rfl⟩
 obtain⟨bo,b9⟩:∃ bo,d'.body=bo:=⟨_,rfl⟩
 obtain⟨bl,bk,bT,b2,bP,bL⟩:=bo
 obtain⟨bn,b8⟩:∃ bn,bL.length=bn:=⟨_,rfl⟩
 obtain⟨pA,pc,bA,bc⟩:=P
 have bC:Hid (∀ W,Below w.heap.size w W->W.cell? ⟨E.mb,1,none⟩=some (.slice (some ⟨b,off,none⟩) sk E.c)/\b<W.heap.size/\W.cell? ⟨b,off+j*10,none⟩=some (.string nd)/\W.cell? ⟨b,off+j*10+1,none⟩=some (.int .i64 so)/\W.cell? ⟨b,off+j*10+2,none⟩=some (.bool cL)/\W.cell? ⟨b,off+j*10+3,none⟩=some (.slice pA pn pc)/\
   W.cell? ⟨b,off+j*10+4,none⟩=some (.bool bl)/\W.cell? ⟨b,off+j*10+5,none⟩=some (.int .i64 bk)/\W.cell? ⟨b,off+j*10+6,none⟩=some (.string bT)/\W.cell? ⟨b,off+j*10+7,none⟩=some (.int .i64 b2)/\W.cell? ⟨b,off+j*10+8,none⟩=some (.int .i64 bP)/\W.cell? ⟨b,off+j*10+9,none⟩=some (.slice bA bn bc)):=fun W hW=>by
  obtain⟨h1,h2,h3⟩:=HC.out W hW
  unfold fN at h3
  rw[b6,b7,ad,a1,b9] at h3
  simp only at h3
  rw[b8] at h3
  exact⟨h1,h2,h3 0 _ rfl,h3 1 _ rfl,h3 2 _ rfl,h3 3 _ rfl,h3 4 _ rfl,h3 5 _ rfl,h3 6 _ rfl,h3 7 _ rfl,h3 8 _ rfl,h3 9 _ rfl⟩
 have cv:pn<=1000:=by rw[<-a1];exact hE.par d' (FP hd)
 have b5:=hE.fine d' (FP hd)
 rw[ad,b6,b7] at O
 by_cases hm:cL=true
 ·subst hm
  rw[Fx rfl] at O
  by_cases bD:d'.par=[]
  ·rw[Fx bD] at O
   have cF:pn=0:=by rw[<-a1,bD];rfl
   subst cF
   have bE:Hid (∀ W,Below w.heap.size w W->Calls Tryz.prog 139 #[.pointer (some ⟨E.mb,0,none⟩),.int .i64 (j:Int),.slice none 0 0] W fun e w'=>Rf.aY E i S w Y s R rest e w'):=fun W hW=>by
    have:=tD E i S hE.room hE.cap W Y s 0 rest j none 0 0 [] d' HJ.out.1 HJ.out.2 ad (HF.out j d' HJ.out.1 HJ.out.2 ad) b5.1 b5.2 hE.par (HR.out.below hW) HO.out (fun _=>by rw[a1];simp) (aH.nil _ _) (Gs.zero _ _) (Fz _) (fun p hp=>(FD hp).elim) hE.n
    rw[O] at this
    exact this.mono fun e w' q=>q.up hW
   clear h hO hF hE bx ao HF HE X I a7 bz ba O HR HO HC HJ hj hd b4 cq hA hb cj hc b6 b7 ad a1 b9 b8 cv b5 bD ca
   go_enter Tryz.func101,Tryz.ntmps101
   go_wp2_with fail
   refine U.out.mono ?_
   rintro e r ⟨rfl,J⟩
   have Q:=Gn (V.out r J)
   have Z:=Gn (ah.out r J)
   obtain⟨c1,cE,d0,d1,d2,d3,d4,d5,d6,d7,d8,d9⟩:=bC.out r J
   have HB:=Gn J
   clear U V ah J bC
   go_wp2_with fail
   refine Q.out.mono ?_
   rintro e w2 ⟨rfl,rfl⟩
   clear Q
   go_wp2_with fail
   refine Z.out.mono ?_
   rintro e w2 ⟨rfl,rfl⟩
   clear Z
   have HK:=Gn (bE.out _ (HB.out.alloc HB.out.size (.cells #[.string nd,.int .i64 so,.bool true,.slice pA 0 pc,.bool bl,.int .i64 bk,.string bT,.int .i64 b2,.int .i64 bP,.slice bA bn bc] 56)))
   clear bE HB
   go_wp2_with fail
   refine HK.out.mono ?_
   rintro e w3 ⟨rfl,v⟩
   have HV:Hid (Rf.aY E i S w Y s R rest (.returned (.tuple #[.int .i64 R.2.1,.int .i64 R.2.2])) w3):=⟨rfl,v⟩
   clear HK v
   go_wp2
   exact GD (by simp[results,Tryz.results101,go_sem]) rfl HV.out
  ·rw[FQ bD] at O
   subst O
   have cP:(0:Int)<(pn:Int):=by
    have:pn≠0:=fun e=>bD (FV (a1.trans e))
    omega
   have c7:decide ((0:Int)<(pn:Int))=true:=FW cP
   clear h hO hF hE bx ao HF HE X I a7 bz ba HC HJ hj hd b4 cq hA hb cj hc b6 b7 ad a1 b9 b8 cv b5 bD ca
   go_enter Tryz.func101,Tryz.ntmps101
   go_wp2_with fail
   refine U.out.mono ?_
   rintro e r ⟨rfl,J⟩
   have Q:=Gn (V.out r J)
   have Z:=Gn (ah.out r J)
   obtain⟨c1,cE,d0,d1,d2,d3,d4,d5,d6,d7,d8,d9⟩:=bC.out r J
   have HV:Hid (Rf.aY E i S w Y s (s.N,0,1) rest (.returned (.tuple #[.int .i64 0,.int .i64 1])) (r.alloc (.cells #[.string nd,.int .i64 so,.bool true,.slice pA pn pc,.bool bl,.int .i64 bk,.string bT,.int .i64 b2,.int .i64 bP,.slice bA bn bc] 56))):=Rf.aY.same HR.out (J.alloc J.size _) fun e=>absurd e (by decide)
   clear U V ah J bC HR HO
   go_wp2_with fail
   refine Q.out.mono ?_
   rintro e w2 ⟨rfl,rfl⟩
   clear Q
   go_wp2_with fail
   refine Z.out.mono ?_
   rintro e w2 ⟨rfl,rfl⟩
   clear Z
   go_wp2
   exact GD (by simp[results,Tryz.results101,go_sem]) rfl HV.out
 ·obtain rfl:cL=false:=by simpa using hm
  rw[FQ (by decide)] at O
  have bB:=Bd.St.const nd so hO.inv
  have cc:=Gn fun(W:World) (hW:Below w.heap.size w W)=>Am W Y.bA s.N.length Y.bc s.N nd so (HR.out.below hW).aO ao
  have HK:Hid (∀ W e r,Below w.heap.size w W->cO W (Rf.free E Y) R e r->∃ (A:Option Addr) (c:Nat),e=.returned (.tuple #[.slice A R.1.length c,.int .i64 R.2.1,.int .i64 R.2.2])/\aa r E.mb 102 (Rf.cells E Y s)/\Rf.aY E i S w Y s R rest (.returned (.tuple #[.int .i64 R.2.1,.int .i64 R.2.2])) (r.setCell ⟨E.mb,0,none⟩ (.slice A R.1.length c))):=fun W e r hW hn=>by
   obtain⟨A,c,q1,q2,q3⟩:=Rf.dC (i:=i) (S:=S) (rest:=rest) (HR.out.below hW) HO.out (by rw[<-O];exact bB.1) (by rw[<-O];exact bB.2.1) (by rw[<-O];exact Tm.kI HO.out.len nd so) hn
   exact⟨A,c,q1,q2,q3.up hW⟩
  rw[O] at cc
  have cf:Hid (∀ W,Below w.heap.size w W->W.cell? ⟨E.mb,0,none⟩=some (.slice Y.bA s.N.length Y.bc)):=fun W hW=>(HR.out.below hW).at_.1
  clear h hO hF hE bx ao HF HE X I a7 bz ba O HR HO HC HJ hj hd b4 cq hA hb cj hc b6 b7 ad a1 b9 b8 cv b5 ca bB hm
  go_enter Tryz.func101,Tryz.ntmps101
  go_wp2_with fail
  refine U.out.mono ?_
  rintro e r ⟨rfl,J⟩
  have Q:=Gn (V.out r J)
  have Z:=Gn (ah.out r J)
  obtain⟨c1,cE,d0,d1,d2,d3,d4,d5,d6,d7,d8,d9⟩:=bC.out r J
  have HB:=Gn J
  clear U V ah J bC
  go_wp2_with fail
  refine Q.out.mono ?_
  rintro e w2 ⟨rfl,rfl⟩
  clear Q
  go_wp2_with fail
  refine Z.out.mono ?_
  rintro e w2 ⟨rfl,rfl⟩
  clear Z
  obtain⟨W2,cz⟩:∃ W2,w2.alloc (.cells #[.string nd,.int .i64 so,.bool false,.slice pA pn pc,.bool bl,.int .i64 bk,.string bT,.int .i64 b2,.int .i64 bP,.slice bA bn bc] 56)=W2:=⟨_,rfl⟩
  have bp:aa W2 w2.heap.size 56 #[.string nd,.int .i64 so,.bool false,.slice pA pn pc,.bool bl,.int .i64 bk,.string bT,.int .i64 b2,.int .i64 bP,.slice bA bn bc]:=by rw[<-cz];exact aa.new w2 _ _
  have av:Below w.heap.size w W2:=by rw[<-cz];exact HB.out.alloc HB.out.size _
  have cl:Below w.heap.size w W2.drew:=⟨av.os,av.tape,av.output,av.size,av.block⟩
  have k0:=bp.cell 0
  have k1:=bp.cell 1
  have k2:=bp.cell 2
  have k3:=bp.cell 3
  have cR:=bp.lt
  simp at k0 k1 k2 k3
  have mm:=cf.out W2 av
  have cb:=Gn (cc.out W2.drew cl)
  have cx:=Gn fun e r hn=>HK.out W2.drew e r cl hn
  have ch:Hid (∀ W,Below W2.heap.size W2 W->W.cell? ⟨E.mb,0,none⟩=some (.slice Y.bA s.N.length Y.bc)/\W.cell? ⟨w2.heap.size,0,none⟩=some (.string nd)/\W.cell? ⟨w2.heap.size,1,none⟩=some (.int .i64 so)):=fun W hW=>by
   have hl:=(ae.af (F:=fun _=>False) hW).lies bp id
   exact⟨cf.out W (av.trans (hW.mono av.size)),hl.cell 0,hl.cell 1⟩
  have cy:=Gn (ch.out W2.drew ⟨rfl,rfl,rfl,Fm _,fun _ _=>rfl⟩)
  clear cc HK cf HB bp av cl
  go_wp2_with fail
  go_region_held3 (fun W=>W.cell? ⟨E.mb,0,none⟩=some (.slice Y.bA s.N.length Y.bc)/\W.cell? ⟨w2.heap.size,0,none⟩=some (.string nd)/\W.cell? ⟨w2.heap.size,1,none⟩=some (.int .i64 so))
   (first|exact cy.out|assumption)
   ((go_at_call 62;refine cb.out.mono ?_;intro e w3 hn;have cN:=ch.out w3 ⟨hn.2.os,hn.2.tape,hn.2.output,hn.2.size,hn.2.block⟩;obtain⟨A,c,rfl,hl,hv⟩:=cx.out e w3 hn))
  have HP:=Gn (kB w3 E.mb _ _ _ _ hl A R.1.length c R.2.1 R.2.2)
  have HV:=Gn hv
  clear cb cx hn hl hv mm k0 k1 k2 k3 ch cy cN
  go_wp2_with fail
  refine HP.out.mono ?_
  rintro e w4 ⟨rfl,rfl⟩
  clear HP
  go_wp2
  exact GD (by simp[results,Tryz.results101,go_sem]) rfl HV.out
end Go.Proofs.YtdbgiijdgedggaaGreatDoor
