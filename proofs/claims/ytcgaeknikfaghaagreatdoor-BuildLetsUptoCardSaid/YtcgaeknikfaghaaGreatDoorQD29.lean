/- What the proofs of this claim use, text by text. -/
import Derived.Test.YtcgaeknikfaghaaGreatDoorQD28
import Derived.Deep.CutBlock
import Derived.Deep.DeepCutAuto
set_option linter.unusedSimpArgs false
set_option linter.unusedVariables false
set_option maxRecDepth 100000
set_option maxHeartbeats 25600000
namespace Go.Proofs.YtcgaeknikfaghaaGreatDoor
open Go.RowKit
abbrev World.six (w:World) (g:Nat) (u0 u1 u2 u3 u4 u5:Value):World:=(((((w.setCell ⟨g,0,none⟩ u0).setCell ⟨g,1,none⟩ u1).setCell ⟨g,2,none⟩ u2).setCell ⟨g,3,none⟩ u3).setCell ⟨g,4,none⟩ u4).setCell ⟨g,5,none⟩ u5
theorem six_turn (w:World) (g:Nat) (u0 u1 u2 u3 u4 u5:Value):Turn (fun b=>b=g) w (World.six w g u0 u1 u2 u3 u4 u5):=
 ((((((Turn.refl (fun b=>b=g) w).put (p:=⟨g,0,none⟩) (.inl rfl) u0).put (p:=⟨g,1,none⟩) (.inl rfl) u1).put (p:=⟨g,2,none⟩) (.inl rfl) u2).put (p:=⟨g,3,none⟩) (.inl rfl) u3).put (p:=⟨g,4,none⟩) (.inl rfl) u4).put (p:=⟨g,5,none⟩) (.inl rfl) u5
theorem six_below {B:Nat} {w0 w:World} {g:Nat} {u0 u1 u2 u3 u4 u5:Value} (h:Below B w0 w) (hB:B≤w0.heap.size) (hg:B≤g):Below B w0 (World.six w g u0 u1 u2 u3 u4 u5):=
 h.trans ((six_turn w g u0 u1 u2 u3 u4 u5).below (Nat.le_trans hB h.size) (fun _ e=>e▸hg))
theorem six_lies {w:World} {g:Nat} {t:TypeId} {a0 a1 a2 a3 a4 a5:Value} (h:Lies w g t #[a0,a1,a2,a3,a4,a5]) (u0 u1 u2 u3 u4 u5:Value):Lies (World.six w g u0 u1 u2 u3 u4 u5) g t #[u0,u1,u2,u3,u4,u5]:=by
 have:=(((((h.put 0 u0).put 1 u1).put 2 u2).put 3 u3).put 4 u4).put 5 u5
 exact this
theorem six_tree {w:World} {g B B':Nat} {x:Sx} {A:Option Addr} {c:Nat} (u0 u1 u2 u3 u4 u5:Value) (h:STree w (fun b _=>B≤b) x A c) (hg:g<B) (hB':B'≤B):STree (World.six w g u0 u1 u2 u3 u4 u5) (fun b _=>B'≤b) x A c:=
 ⟨h.le,h.tree.imp (six_turn w g u0 u1 u2 u3 u4 u5).size (fun b off hb hG j _=>(six_turn w g u0 u1 u2 u3 u4 u5).cell (p:=⟨b,off+j,none⟩) hb (by show ¬b=g;omega)) (fun _ _ _ hG=>Nat.le_trans hB' hG)⟩
theorem Says.close_on {z:Int} {l:List ITok} {D:List SItem} {t:ITok} {r:List ITok} (h:∀ J,Says z (t::r) J→Says z l (D++J)) (h2:t.1=2):∀ J,Says z r J→Says z l ((D++[⟨Sx.zero,60,t.2.2⟩])++J):=fun J hJ=>by
 rw[List.append_assoc]
 exact h _ (.close t r J h2 hJ)
theorem Says.atom_on {z:Int} {l:List ITok} {D:List SItem} {t:ITok} {r:List ITok} (h:∀ J,Says z (t::r) J→Says z l (D++J)) (h1:t.1≠1) (h2:t.1≠2):∀ J,Says z r J→Says z l ((D++[⟨Sx.atom t,0,t.2.2⟩])++J):=fun J hJ=>by
 rw[List.append_assoc]
 exact h _ (.atom t r J h1 h2 hJ)
theorem Says.list_on {z:Int} {l:List ITok} {D:List SItem} {t c:ITok} {m r:List ITok} {M:List Sx} (h:∀ J,Says z (t::(m++c::r)) J→Says z l (D++J)) (h1:t.1=1) (h2:c.1=2) (hr:Reads m M) (hd:¬64<Sx.deeps M+1):∀ J,Says z r J→Says z l ((D++[⟨Sx.node t.2.2 M,0,t.2.2⟩])++J):=fun J hJ=>by
 rw[List.append_assoc]
 exact h _ (.list t c m r M J h1 h2 hr hd hJ)
theorem Says.deep_on {z:Int} {l:List ITok} {D:List SItem} {t c:ITok} {m r:List ITok} {M:List Sx} (h:∀ J,Says z (t::(m++c::r)) J→Says z l (D++J)) (h1:t.1=1) (h2:c.1=2) (hr:Reads m M) (hd:64<Sx.deeps M+1):∀ J,Says z r J→Says z l ((D++[⟨Sx.zero,2,t.2.2⟩])++J):=fun J hJ=>by
 rw[List.append_assoc]
 exact h _ (.deep t c m r M J h1 h2 hr hd hJ)
theorem Says.ends_on {z:Int} {l:List ITok} {D:List SItem} {t:ITok} {r:List ITok} (h:∀ J,Says z (t::r) J→Says z l (D++J)) (h1:t.1=1) (hc:clos 0 0 (t::r)=none):Says z l (D++[⟨Sx.zero,51,z⟩]):=h _ (.ends t r h1 hc)
abbrev ParseSaid (w:World) (l:List ITok) (z:Int) (e:Ending) (w':World):Prop:=
 (∃ (A':Option Addr) (c':Nat) (li:List MItem),e=.returned (.slice A' li.length c')∧li.length≤l.length∧OwnI w' w.heap.size A' c' li∧Says z l (li.map MItem.pure))∧Below w.heap.size w w'
theorem ParseSaid.mk {w w':World} {l:List ITok} {z:Int} {A':Option Addr} {c' n:Nat} {li:List MItem} (hn:li.length=n) (hnl:n≤l.length) (h:OwnI w' w.heap.size A' c' li) (hs:Says z l (li.map MItem.pure)) (hb:Below w.heap.size w w'):ParseSaid w l z (.returned (.slice A' n c')) w':=
 ⟨⟨A',c',li,by rw[hn],by omega,h,hs⟩,hb⟩
theorem rparse (w:World) (A:Option Addr) (n c:Nat) (l:List ITok) (z:Int) (h:TokS w A n l) (hn:n≤1000000):
  Calls Tryz.prog 91 #[.slice A n c,.int .i64 z] w fun e w'=>ParseSaid w l z e w':=by
 obtain⟨Post,hPost⟩:∃ Post:Ending→World→Prop,Post=fun e w'=>ParseSaid w l z e w':=⟨_,rfl⟩
 rw[←hPost]
 have HPo:=Lib.hid hPost
 have HH:=Lib.hid h
 clear hPost h
 go_enter Tryz.func91,Tryz.ntmps91
 go_wp2
 go_loopw [5,6] (fun ov iv wr=>∃ (i m:Nat) (A':Option Addr) (c':Nat) (li:List MItem),i≤n∧m≤i∧iv=.int .i64 (i:Nat)∧ov=.slice A' m c'∧Below w.heap.size w wr∧
  Hid (OwnI wr w.heap.size A' c' li∧li.length=m∧∀ J,Says z (l.drop i) J→Says z l (li.map MItem.pure++J))) (fun _ iv _=>n-(intOf iv).toNat)
 case atStart=>exact⟨0,0,none,0,[],Nat.zero_le _,Nat.le_refl _,rfl,rfl,Below.refl _ _,OwnI.nil _ _,rfl,fun J hJ=>by rw[List.drop_zero] at hJ;exact hJ⟩
 case round=>
  obtain⟨i,m,A',c',li,hi,hmi,rfl,rfl,hb,HI⟩:=hrel
  have HB:=Lib.hid hb
  by_cases hlt:i<n
  ·obtain⟨b,off,x,rfl,hx,hdr,hc⟩:=HH.out.get hlt
   obtain⟨z0,z1,z2,z3⟩:=hc wr hb
   obtain⟨xk,xt,xa⟩:=x
   obtain⟨hI1,hI2,hI3⟩:=HI.out
   rw[hdr] at hI3
   have hlt':(i:Int)<(n:Int):=by omega
   have hi0:(0:Int)≤(i:Int):=by omega
   have HO:=Lib.hid hI1
   have HM:=Lib.hid hI2
   have HNl:Hid (n=l.length):=HH.out.len.symm
   have HA:Hid (∀ o,OwnI (wr.alloc o) w.heap.size A' c' li∧w.heap.size≤(wr.alloc o).heap.size∧Below w.heap.size w (wr.alloc o)):=fun o=>⟨hI1.kept ((Below.refl _ wr).alloc (Nat.le_refl _) o),Nat.le_trans hb.size (by simp),hb.alloc hb.size o⟩
   by_cases h2:xk=2
   ·subst h2
    have HN:=Lib.hid (Says.close_on hI3 rfl)
    clear hI1 hI2 hI3 HI hb hx hdr hc hlt
    go_wp2_with (at_builtin;refine appendI _ rfl (.tmp 24) (.tmp 28) rfl w.heap.size A' c' li m HM.out ⟨Sx.zero,none,0,60,xa⟩ _ (by simp) rfl (HA.out _).1 ⟨⟨Nat.le_refl _,Nat.zero_le _⟩,.nil _⟩ rfl (by omega) (HA.out _).2.1 ?_;intro A3 c3 w3 o3 g3;have O3:=Lib.hid o3;have B3:=Lib.hid ((HA.out _).2.2.grown g3 (HA.out _).2.1 (fun q hq=>(HO.out.lt HM.out hq).1));clear o3 g3)
    go_roundw
    case rel=>exact⟨i+1,m+1,A3,c3,li++[⟨Sx.zero,none,0,60,xa⟩],by omega,by omega,by go_num,rfl,B3.out,O3.out,by rw[List.length_append,HM.out];rfl,by rw[List.map_append];exact HN.out⟩
    case measure=>simp[intOf];omega
   ·by_cases h1:xk=1
    ·subst h1
     have HC:=Lib.hid fun W (hW:Below w.heap.size w W)=>rclosing W (some ⟨b,off,none⟩) n c l i (1,xt,xa) (HH.out.below hW) hx rfl hn
     cases hcl:clos 0 0 (l.drop i) with
     |none=>
      rw[hcl] at HC
      rw[hdr] at hcl
      have HN:=Lib.hid (Says.ends_on hI3 rfl hcl)
      clear hI1 hI2 hI3 HI hb hx hdr hc hlt h2 hcl
      go_wp2_with (first
       |(go_at_call 129;refine(HC.out _ (HA.out _).2.2).mono ?_;rintro e w4 ⟨⟨y,rfl⟩,rfl⟩)
       |(at_builtin;refine appendI _ rfl (.tmp 51) (.tmp 54) rfl w.heap.size A' c' li m HM.out ⟨Sx.zero,none,0,51,z⟩ _ (by simp) rfl (HA.out _).1 ⟨⟨Nat.le_refl _,Nat.zero_le _⟩,.nil _⟩ rfl (by omega) (HA.out _).2.1 ?_;intro A3 c3 w3 o3 g3;have O3:=Lib.hid o3;have B3:=Lib.hid ((HA.out _).2.2.grown g3 (HA.out _).2.1 (fun q hq=>(HO.out.lt HM.out hq).1));clear o3 g3))
      rw[HPo.out]
      exact ParseSaid.mk (by rw[List.length_append,HM.out];rfl) (by have:=HNl.out;omega) O3.out (by rw[List.map_append];exact HN.out) B3.out
     |some sd=>
      obtain⟨s,d⟩:=sd
      rw[hcl] at HC
      rw[hdr] at hcl
      obtain⟨m',M',cb,r,e,hcb,hrm,rfl,rfl⟩:=clos_reads (o:=(1,xt,xa)) rfl hcl
      obtain⟨p,hp⟩:∃ p,m'.length=p:=⟨_,rfl⟩
      have hw:=window (l:=l) (j:=n) (c:=cb) (m:=m') (i:=i+1) (l':=r) (by rw[HH.out.len];exact Nat.le_refl _) (by rw[List.take_of_length_le (by rw[List.length_drop,HH.out.len];omega)];exact e)
      obtain⟨w1,w2,w3,w4⟩:=hw
      have hr:r=l.drop (i+1+p+1):=by
       rw[e,hp] at w4
       have:=List.append_cancel_left w4
       injection this
      rw[e,hr] at hI3
      rw[hp] at HC w1
      by_cases hd:64<Sx.deeps M'+1
      ·have HN:=Lib.hid (Says.deep_on hI3 rfl hcb hrm hd)
       obtain⟨dd,hdd⟩:∃ d,Sx.deeps M'+1=d:=⟨_,rfl⟩
       rw[hdd] at HC hd
       have hd':(64:Int)<(dd:Int):=by omega
       have hy0:¬(i:Int)+((p:Int)+1)<0:=by omega
       clear hI1 hI2 hI3 HI hb hx hdr hc hlt h2 hcl w2 w3 w4 e hr hrm hcb hdd hp hd
       go_wp2_with (first
        |(go_at_call 129;refine(HC.out _ (HA.out _).2.2).mono ?_;rintro e w4 ⟨⟨y,y',rfl,rfl,rfl⟩,rfl⟩)
        |(at_builtin;refine appendI _ rfl (.tmp 58) (.tmp 62) rfl w.heap.size A' c' li m HM.out ⟨Sx.zero,none,0,2,xa⟩ _ (by simp) rfl (HA.out _).1 ⟨⟨Nat.le_refl _,Nat.zero_le _⟩,.nil _⟩ rfl (by omega) (HA.out _).2.1 ?_;intro A3 c3 w3 o3 g3;have O3:=Lib.hid o3;have B3:=Lib.hid ((HA.out _).2.2.grown g3 (HA.out _).2.1 (fun q hq=>(HO.out.lt HM.out hq).1));clear o3 g3))
       go_roundw
       case rel=>exact⟨i+1+p+1,m+1,A3,c3,li++[⟨Sx.zero,none,0,2,xa⟩],by omega,by omega,by go_num,rfl,B3.out,O3.out,by rw[List.length_append,HM.out];rfl,by rw[List.map_append];exact HN.out⟩
       case measure=>simp[intOf];omega
      ·have HN:=Lib.hid (Says.list_on hI3 rfl hcb hrm hd)
       obtain⟨dd,hdd⟩:∃ d,Sx.deeps M'+1=d:=⟨_,rfl⟩
       rw[hdd] at HC hd
       have hd':¬(64:Int)<(dd:Int):=by omega
       have hy0:¬(i:Int)+((p:Int)+1)<0:=by omega
       have hrec:=fun W (hW:Below w.heap.size w W)=>rlistx p W (some ⟨b,off,none⟩) n c l (i+1) (i+1+p) M' (by omega) (HH.out.below hW) hn (by omega) (by omega) (by rw[show i+1+p-(i+1)=p by omega,←hp,w2];exact hrm)
       have hi1:((i+1:Nat):Int)=(i:Int)+1:=by omega
       have hq:((i+1+p:Nat):Int)=(i:Int)+((p:Int)+1):=by omega
       have hwp:IntKind.i64.wrap ((i:Int)+1)=(i:Int)+1:=IntWalk.i64_in _ (by omega)
       rw[hi1,hq] at hrec
       have HRec:=Lib.hid hrec
       clear hI1 hI2 hI3 HI hb hx hdr hc hlt h2 hcl w2 w3 w4 e hr hrm hcb hdd hp hd hrec
       go_wp2_with (first
        |(go_at_call 129;refine(HC.out _ (HA.out _).2.2).mono ?_;rintro e w4 ⟨⟨y,y',rfl,rfl,rfl⟩,rfl⟩))
       generalize hW1:wr.alloc (Obj.cells #[Value.int IntKind.i64 1,Value.string xt,Value.int IntKind.i64 xa] 24)=W1
       have HW1:Hid (Below w.heap.size w W1∧Lies W1 wr.heap.size 24 #[Value.int IntKind.i64 1,Value.string xt,Value.int IntKind.i64 xa]∧OwnI W1 w.heap.size A' c' li∧W1.heap.size=wr.heap.size+1):=by
        show _∧_
        rw[←hW1]
        exact⟨(HA.out _).2.2,Lies.new _ _ _,(HA.out _).1,by simp⟩
       have HdW:Hid (Below W1.heap.size W1 W1.drew):=⟨rfl,rfl,rfl,Nat.le_refl _,fun _ _=>rfl⟩
       have B2:=Lib.hid (HW1.out.1.trans (HdW.out.mono HW1.out.1.size))
       have KS:Hid (∀ W,Below W1.heap.size W1 W→W.cell? ⟨wr.heap.size,2,none⟩=some (.int .i64 xa)∧wr.heap.size<W.heap.size):=fun W hW=>by
        have:=(Turn.of_below (F:=fun _=>False) hW).lies HW1.out.2.1 id
        exact⟨this.cell 2,this.lt⟩
       have HS:=Lib.hid (KS.out _ HdW.out)
       have HdA:Hid (∀ o,Below W1.heap.size W1 (W1.alloc o).drew∧Below w.heap.size w (W1.alloc o).drew∧W1.heap.size≤(W1.alloc o).drew.heap.size):=fun o=>
        have e:Below W1.heap.size W1 (W1.alloc o).drew:=((Turn.refl (fun _=>False) W1).alloc o).drew.none_ (fun _=>id)
        ⟨e,HW1.out.1.trans (e.mono HW1.out.1.size),e.size⟩
       have HdZ:Hid (∀ o,(W1.alloc o).drew.heap.size=W1.heap.size+1):=fun o=>by show(W1.alloc o).heap.size=_;simp
       have HdL:Hid (∀ t cs,Lies (W1.alloc (.cells cs t)).drew W1.heap.size t cs):=fun t cs=>Lies.new W1 t cs
       clear hW1 HA
       go_cut [10] (fun s W=>∃ (p:Nat) (A2:Option Addr) (c2:Nat),s=.pointer (some ⟨p,0,none⟩)∧Lies W p 27 #[.bool true,.int .i64 0,.string ByteArray.empty,.int .i64 0,.int .i64 xa,.slice A2 M'.length c2]∧Below W1.heap.size W1 W∧STree W (fun b _=>W1.heap.size≤b) (Sx.node xa M') A2 c2)
       case first=>
        go_region_held3 (fun W'=>W'.cell? ⟨wr.heap.size,2,none⟩=some (.int .i64 xa)∧wr.heap.size<W'.heap.size)
         (first|(with_reducible exact HS.out)|(with_reducible exact KS.out _ B3.out)|(with_reducible exact KS.out _ (B3.out.alloc B3.out.size _))|(with_reducible exact KS.out _ (HdA.out _).1)|(with_reducible exact KS.out _ (six_below B3.out (Nat.le_refl _) (Nat.le_refl _))))
         (first
          |(go_at_call 130;(with_reducible refine(HRec.out _ ?_).mono ?_);(with_reducible exact B2.out);rintro e w5 ⟨⟨A2,c2,rfl,c2a,c2b,t2⟩,b5⟩;have B3:=Lib.hid (HdW.out.trans (b5.mono HdW.out.size));have T2:=Lib.hid (And.intro (And.intro c2a c2b) t2);clear b5 t2)
          |(go_at_call 130;(with_reducible refine(HRec.out _ ?_).mono ?_);(with_reducible exact(HdA.out _).2.1);rintro e w5 ⟨⟨A2,c2,rfl,c2a,c2b,t2⟩,b5⟩;have B3:=Lib.hid ((HdA.out _).1.trans (b5.mono (HdA.out _).2.2));have T2:=Lib.hid (And.intro (And.intro c2a c2b) t2);have L5:=(Turn.of_below (F:=fun _=>False) b5).lies (HdL.out _ _) id;have l0:=L5.cell 0;have l1:=L5.cell 1;have l2:=L5.cell 2;have l3:=L5.cell 3;have l4:=L5.cell 4;have l5:=L5.cell 5;have f0:=L5.free 0;have f1:=L5.free 1;have f2:=L5.free 2;have f3:=L5.free 3;have f4:=L5.free 4;have f5:=L5.free 5;clear b5 t2))
        case' _=>
         go_wp2_with fail
         go_meet
         exact⟨w5.heap.size,A2,c2,rfl,Lies.new _ _ _,B3.out.alloc B3.out.size _,⟨T2.out.1,(T2.out.2.kept ((Below.refl _ _).alloc (Nat.le_refl _) _)).mono fun _ _ _ h=>h⟩⟩
        case' _=>
         go_wp2_with fail
         go_meet
         exact⟨W1.heap.size,A2,c2,rfl,six_lies L5 _ _ _ _ _ _,six_below B3.out (Nat.le_refl _) (Nat.le_refl _),six_tree _ _ _ _ _ _ ⟨T2.out.1,T2.out.2⟩ (by rw[HdZ.out];omega) (by rw[HdZ.out];omega)⟩
       case rest=>
        obtain⟨g,A2,c2,rfl,hL,hB3,hT3⟩:=hcut
        have hLt:=(Turn.of_below (F:=fun _=>False) hB3).lies HW1.out.2.1 id
        have z0:=hLt.lt
        have z2:=hLt.cell 2
        have y_:=hL.lt
        have y0:=hL.cell 0
        have y1:=hL.cell 1
        have y2:=hL.cell 2
        have y3:=hL.cell 3
        have y4:=hL.cell 4
        have y5:=hL.cell 5
        simp at z2 y0 y1 y2 y3 y4 y5
        have HOn:=Lib.hid (HW1.out.2.2.1.kept hB3)
        have BOn:=Lib.hid (HW1.out.1.trans (hB3.mono HW1.out.1.size))
        have HTn:Hid (STree wc (OffRow w.heap.size A' m c') (Sx.node xa M') A2 c2):=⟨hT3.le,hT3.tree.mono fun b _ _ hb=>⟨Nat.le_trans HW1.out.1.size hb,fun e=>absurd (HW1.out.2.2.1.lt HM.out e).2 (Nat.not_lt.2 hb)⟩⟩
        clear hL hLt hB3 hT3 HW1 HdW HdA HdL HdZ KS HS B2 HC HRec
        go_wp2_with (at_builtin;refine appendI _ rfl (.tmp 72) (.tmp 77) rfl w.heap.size A' c' li m HM.out ⟨Sx.node xa M',A2,c2,0,xa⟩ _ (by simp) rfl HOn.out HTn.out rfl (by omega) BOn.out.size ?_;intro A3 c3 w3 o3 g3;have O3:=Lib.hid o3;have B3:=Lib.hid (BOn.out.grown g3 BOn.out.size (fun q hq=>(HOn.out.lt HM.out hq).1));clear o3 g3)
        go_roundw
        case rel=>exact⟨i+1+p+1,m+1,A3,c3,li++[⟨Sx.node xa M',A2,c2,0,xa⟩],by omega,by omega,by go_num,rfl,B3.out,O3.out,by rw[List.length_append,HM.out];rfl,by rw[List.map_append];exact HN.out⟩
        case measure=>simp[intOf];omega
    ·have HN:=Lib.hid (Says.atom_on hI3 h1 h2)
     have b1:(xk == 2)=false:=beq_eq_false_iff_ne.2 h2
     have b2:(xk != 1)=true:=bne_iff_ne.2 h1
     clear hI1 hI2 hI3 HI hb hx hdr hc hlt h1 h2
     go_wp2_with (at_builtin;refine appendI _ rfl (.tmp 33) (.tmp 41) rfl w.heap.size A' c' li m HM.out ⟨Sx.atom (xk,xt,xa),none,0,0,xa⟩ _ (by simp) rfl (HA.out _).1 ⟨⟨Nat.le_refl _,Nat.zero_le _⟩,.nil _⟩ rfl (by omega) (HA.out _).2.1 ?_;intro A3 c3 w3 o3 g3;have O3:=Lib.hid o3;have B3:=Lib.hid ((HA.out _).2.2.grown g3 (HA.out _).2.1 (fun q hq=>(HO.out.lt HM.out hq).1));clear o3 g3)
     go_roundw
     case rel=>exact⟨i+1,m+1,A3,c3,li++[⟨Sx.atom (xk,xt,xa),none,0,0,xa⟩],by omega,by omega,by go_num,rfl,B3.out,O3.out,by rw[List.length_append,HM.out];rfl,by rw[List.map_append];exact HN.out⟩
     case measure=>simp[intOf];omega
  ·obtain rfl:i=n:=by omega
   obtain⟨hI1,hI2,hI3⟩:=HI.out
   have HE:=Lib.hid (ParseSaid.mk (z:=z) (l:=l) hI2 (by rw[HH.out.len];exact hmi) hI1 (by have:=hI3 [] (by rw[List.drop_of_length_le (by rw[HH.out.len];exact Nat.le_refl _)];exact .nil);rw[List.append_nil] at this;exact this) hb)
   clear hI1 hI2 hI3 HI hb
   go_wp2
   rw[HPo.out]
   exact HE.out
section
variable {T : TypeId} {s : Nat} (hT : Tryz.prog.underlying T = some (.slice (Tryz.prog.elem T))) (hz : ∀ W, (sizeOf (Tryz.prog.elem T)).run Tryz.prog W = .ok s W)
include hT hz
theorem cut_h {A:Option Addr} {n c k:Nat} (W:World) (hA:A.map (·.add 0)=A) (hk:k≤c):(Instr.slice T (.slice A n c) none (some (.int .i64 (k:Nat))) none).run Tryz.prog W=.ok (.slice A k c) W:=by
 rw[run_slice_h W T A n c hT .i64 (k:Nat) (by omega) (by omega),hz]
 simp only[Result.andThen,sliced]
 have e:(if c=0 then A else A.map (·.add (0*s)))=A:=by
  split
  ·rfl
  ·rw[Nat.zero_mul];exact hA
 rw[e]
 simp
theorem cut_l {A:Option Addr} {n c k:Nat} (W:World) (hk:k≤n):(Instr.slice T (.slice A n c) (some (.int .i64 (k:Nat))) none none).run Tryz.prog W=.ok (.slice (if c=k then A else A.map (·.add (k*s))) (n-k) (c-k)) W:=by
 rw[run_slice_l W T A n c hT .i64 (k:Nat) (by omega) (by omega),hz]
 simp only[Result.andThen,sliced,Int.toNat_natCast]
theorem cut_lhm {A:Option Addr} {n c k:Nat} (W:World) (hA:A.map (·.add 0)=A) (hk:k≤c):(Instr.slice T (.slice A n c) (some (.int .i64 0)) (some (.int .i64 0)) (some (.int .i64 (k:Nat)))).run Tryz.prog W=.ok (.slice A 0 k) W:=by
 rw[run_slice_lhm W T A n c hT .i64 .i64 .i64 0 0 (k:Nat) (by omega) (by omega) (by omega) (by omega),hz]
 simp only[Result.andThen,sliced,Int.toNat_natCast]
 have e:(if k=Int.toNat 0 then A else A.map (·.add (Int.toNat 0*s)))=A:=by
  split
  ·rfl
  ·simpa using hA
 rw[e]
 simp
end
theorem own_add {w:World} {B:Nat} {e:TypeId} {size n:Nat} {A:Option Addr} {c m:Nat} {xs:List Value} (h:w.ownsRow B e size (.slice A m c) n xs):A.map (·.add 0)=A:=by
 rcases h.2 with⟨e1,_⟩|⟨g,cap,cur,e1,_⟩
 ·injection e1 with e1 _ _
  rw[e1]
  rfl
 ·injection e1 with e1 _ _
  rw[e1]
  simp[addr_add]
theorem own_take {w:World} {B:Nat} {e:TypeId} {size n k:Nat} {A:Option Addr} {c:Nat} {xs:List Value} (h:w.ownsRow B e size (.slice A n c) n xs) (hk:k≤n):w.ownsRow B e size (.slice A k c) k (xs.take (k*size)):=by
 have hl:=h.1
 have hkn:k*size≤n*size:=Nat.mul_le_mul_right _ hk
 refine⟨by rw[List.length_take];omega,?_⟩
 rcases h.2 with⟨e1,h0⟩|⟨g,cap,cur,e1,q1,q2,q3,q4,q5,q6⟩
 ·injection e1 with e1 e2 e3
  subst e1
  subst e3
  obtain rfl:k=0:=by omega
  exact .inl ⟨rfl,rfl⟩
 ·injection e1 with e1 e2 e3
  subst e1
  subst e3
  refine .inr ⟨g,c,cur,rfl,q1,q2,by omega,q4,q5,?_⟩
  rw[←q6,List.take_take,Nat.min_eq_left hkn]
theorem is_take (l:List MItem) (k:Nat) (hk:k≤l.length):(icellsOf l).take (k*8)=icellsOf (l.take k):=by
 have h:icellsOf l=icellsOf (l.take k)++icellsOf (l.drop k):=by rw[icellsOf,←List.flatMap_append,List.take_append_drop]
 have hl:(icellsOf (l.take k)).length=k*8:=by rw[is_length,List.length_take,Nat.min_eq_left hk]
 rw[h,←hl,List.take_left]
theorem OwnI.take {w:World} {B:Nat} {A:Option Addr} {c k:Nat} {l:List MItem} (h:OwnI w B A c l) (hk:k≤l.length):OwnI w B A c (l.take k):=by
 have hl:(l.take k).length=k:=by rw[List.length_take,Nat.min_eq_left hk]
 refine⟨?_,fun x hx=>?_⟩
 ·rw[hl,←is_take l k hk]
  exact own_take h.row hk
 ·have:=h.trees x (List.mem_of_mem_take hx)
  refine⟨this.le,this.tree.mono fun b off _ hG=>⟨hG.1,fun e=>hG.2 ?_⟩⟩
  rw[←e]
  cases A <;> rfl
structure LexOf (s:ByteArray) (l:List MTok) (E:Int) (p:Nat):Prop where
 at_:∀ x∈l,x.2.2≤s.size
 le:p≤s.size
 few:l.length≤4000
 long:16384<s.size→l=[]∧E=2∧p=0
 toks:s.size≤16384→l.map (pureTok s)=(Lx.lex 4000 s.data.toList).1∧E=(Lx.lex 4000 s.data.toList).2.1∧s.data.toList.drop p=(Lx.lex 4000 s.data.toList).2.2
theorem LSaid.of {s:ByteArray} {w w':World} {A:Option Addr} {c:Nat} {l:List MTok} {E:Int} {p:Nat} (h:LSaid s w A c l E p w'):LexOf s l E p:=⟨h.at_,h.le,h.few,h.long,h.toks⟩
theorem bytes_eq {a b:ByteArray} (h:a.data.toList=b.data.toList):a=b:=by
 have e:=Array.toList_inj.1 h
 cases a
 cases b
 simp only at e
 rw[e]
theorem LexOf.uniq {s:ByteArray} {l l':List MTok} {E E':Int} {p p':Nat} (h:LexOf s l E p) (h':LexOf s l' E' p'):l=l'∧E=E'∧p=p':=by
 by_cases hs:16384<s.size
 ·obtain⟨rfl,rfl,rfl⟩:=h.long hs
  obtain⟨rfl,rfl,rfl⟩:=h'.long hs
  exact⟨rfl,rfl,rfl⟩
 ·obtain⟨t1,t2,t3⟩:=h.toks (by omega)
  obtain⟨u1,u2,u3⟩:=h'.toks (by omega)
  refine⟨?_,t2.trans u2.symm,drop_inj s h.le h'.le (t3.trans u3.symm)⟩
  have hl:∀ (l l':List MTok),(∀ x∈l,x.2.2≤s.size)→(∀ x∈l',x.2.2≤s.size)→l.map (pureTok s)=l'.map (pureTok s)→l=l':=by
   intro l
   induction l with
   |nil=>
    intro l' _ _ e
    cases l' with
    |nil=>rfl
    |cons y l'=>simp at e
   |cons x l ih=>
    intro l' h1 h2 e
    cases l' with
    |nil=>simp at e
    |cons y l'=>
     rw[List.map_cons,List.map_cons] at e
     injection e with e1 e2
     rw[ih l' (fun z hz=>h1 z (List.mem_cons_of_mem _ hz)) (fun z hz=>h2 z (List.mem_cons_of_mem _ hz)) e2]
     have x1:=h1 x List.mem_cons_self
     have y1:=h2 y List.mem_cons_self
     unfold pureTok at e1
     injection e1 with k1 e1
     injection e1 with k2 k3
     obtain⟨xk,xt,xa⟩:=x
     obtain⟨yk,yt,ya⟩:=y
     simp only at k1 k2 k3 x1 y1
     rw[k1,bytes_eq k2,show xa=ya by omega]
  exact hl l l' h.at_ h'.at_ (t1.trans u1.symm)
def cutEnd (I:List SItem):List SItem:=if(I.getLast?.map (·.E))=some 51 then I.dropLast else I
def readOf (I:List SItem) (E:Int) (p:Nat):List SItem:=if E=0 then I else cutEnd I++[⟨Sx.zero,E,(p:Int)⟩]
def ReadOf (s:ByteArray) (R:List SItem):Prop:=∃ (l:List MTok) (E:Int) (p:Nat) (I:List SItem),LexOf s l E p∧Says (s.size:Nat) (l.map toI) I∧R=readOf I E p
theorem ReadOf.uniq {s:ByteArray} {R R':List SItem} (h:ReadOf s R) (h':ReadOf s R'):R=R':=by
 obtain⟨l,E,p,I,h1,h2,rfl⟩:=h
 obtain⟨l',E',p',I',h1',h2',rfl⟩:=h'
 obtain⟨rfl,rfl,rfl⟩:=h1.uniq h1'
 rw[Says.uniq _ _ _ _ (Nat.le_refl _) h2 h2']
abbrev ReadSaid (w:World) (s:ByteArray) (e:Ending) (w':World):Prop:=
 (∃ (A':Option Addr) (c':Nat) (li:List MItem),e=.returned (.slice A' li.length c')∧li.length≤4001∧OwnI w' w.heap.size A' c' li∧ReadOf s (li.map MItem.pure))∧Below w.heap.size w w'
theorem ReadSaid.mk {w w':World} {s:ByteArray} {A':Option Addr} {c' n:Nat} {li:List MItem} (hn:li.length=n) (hnl:n≤4001) (h:OwnI w' w.heap.size A' c' li) (hs:ReadOf s (li.map MItem.pure)) (hb:Below w.heap.size w w'):ReadSaid w s (.returned (.slice A' n c')) w':=
 ⟨⟨A',c',li,by rw[hn],by omega,h,hs⟩,hb⟩
theorem OwnI.base {w:World} {B B':Nat} {A:Option Addr} {c:Nat} {l:List MItem} (h:OwnI w B A c l) (hb:B'≤B):OwnI w B' A c l:=by
 refine⟨⟨h.row.1,?_⟩,fun x hx=>⟨(h.trees x hx).le,(h.trees x hx).tree.mono fun b off _ hG=>⟨Nat.le_trans hb hG.1,hG.2⟩⟩⟩
 rcases h.row.2 with q|⟨g,cap,cur,q1,q2,q3⟩
 ·exact .inl q
 ·exact .inr ⟨g,cap,cur,q1,Nat.le_trans hb q2,q3⟩
end Go.Proofs.YtcgaeknikfaghaaGreatDoor
namespace Go.Proofs.YtcgaeknikfaghaaGreatDoor
open Go.RowKit
theorem readOf_ok (I:List SItem) (p:Nat):readOf I 0 p=I:=by unfold readOf;rw[if_pos rfl]
theorem last_of {l:List MItem} {n:Nat} (hn:l.length=n+1):∃ x,l[n]?=some x∧l.getLast?=some x:=by
 refine⟨l[n],List.getElem?_eq_getElem (by omega),?_⟩
 rw[List.getLast?_eq_getElem?,show l.length-1=n by omega]
 exact List.getElem?_eq_getElem (by omega)
theorem cutEnd_yes {l:List MItem} {n:Nat} {x:MItem} (hn:l.length=n+1) (hx:l.getLast?=some x) (h:x.E=51):cutEnd (l.map MItem.pure)=(l.take n).map MItem.pure:=by
 unfold cutEnd
 rw[List.getLast?_map,hx,if_pos (by simp[h]),List.map_take,List.dropLast_eq_take,List.length_map,hn,Nat.add_sub_cancel]
theorem cutEnd_no {l:List MItem} {x:MItem} (hx:l.getLast?=some x) (h:x.E≠51):cutEnd (l.map MItem.pure)=l.map MItem.pure:=by
 unfold cutEnd
 rw[List.getLast?_map,hx,if_neg (by simp[h])]
theorem cutEnd_nil {l:List MItem} (hn:l.length=0):cutEnd (l.map MItem.pure)=l.map MItem.pure:=by
 rw[List.eq_nil_of_length_eq_zero hn]
 rfl
theorem rread (s:ByteArray) (w:World) (hs:s.size≤4000000):
  Calls Tryz.prog 61 #[.string s] w fun e w'=>ReadSaid w s e w':=by
 obtain⟨Post,hPost⟩:∃ Post:Ending→World→Prop,Post=fun e w'=>ReadSaid w s e w':=⟨_,rfl⟩
 rw[←hPost]
 have HPo:=Lib.hid hPost
 have HL:=Lib.hid (rlex s w hs)
 clear hPost
 go_enter Tryz.func61,Tryz.ntmps61
 go_wp2_with fail
 refine HL.out.mono ?_
 rintro e w1 ⟨A1,c1,l1,E,p,rfl,q1⟩
 have HQ:=Lib.hid q1
 have hT:=q1.own.toks
 obtain⟨n1,hn1⟩:∃ n,l1.length=n:=⟨_,rfl⟩
 have h4:=q1.few
 rw[hn1] at hT h4 ⊢
 have HP:=Lib.hid (rparse w1 A1 n1 c1 (l1.map toI) (s.size:Nat) hT (by omega))
 have HN1:Hid (l1.length=n1):=hn1
 clear q1 hT hn1 HL
 go_wp2_with fail
 refine HP.out.mono ?_
 rintro e w2 ⟨⟨A2,c2,li,rfl,hli,ho,hsay⟩,b2⟩
 have hB:Below w.heap.size w w2:=HQ.out.below.trans (b2.mono HQ.out.below.size)
 have ho':=ho.base HQ.out.below.size
 rw[List.length_map,HN1.out] at hli
 obtain⟨n,hn⟩:∃ n,li.length=n:=⟨_,rfl⟩
 rw[hn] at hli ⊢
 have hRd:ReadOf s (readOf (li.map MItem.pure) E p):=⟨l1,E,p,_,HQ.out.of,hsay,rfl⟩
 clear HP b2 hsay ho
 by_cases hE:E=0
 ·subst hE
  rw[readOf_ok] at hRd
  have HE:=Lib.hid (ReadSaid.mk hn (by omega) ho' hRd hB)
  clear ho' hRd hB hn hli HQ HN1
  go_wp2
  rw[HPo.out]
  exact HE.out
 ·have hEb:(E == 0)=false:=beq_eq_false_iff_ne.2 hE
  have HB:=Lib.hid hB
  have HN:=Lib.hid hn
  have HO:=Lib.hid ho'
  have hRd':Hid (ReadOf s (cutEnd (li.map MItem.pure)++[⟨Sx.zero,E,(p:Int)⟩])):=by
   unfold readOf at hRd
   rw[if_neg hE] at hRd
   exact hRd
  cases n with
  |zero=>
   have HR:Hid (ReadOf s ((li++[MItem.mk Sx.zero none 0 E (p:Int)]).map MItem.pure)):=by
    have:=hRd'.out
    rw[cutEnd_nil hn] at this
    show ReadOf _ _
    rw[List.map_append]
    exact this
   clear ho' hRd hB hn HQ HN1 hE hRd'
   go_wp2_with (at_builtin;refine appendI _ rfl (.tmp 37) (.tmp 41) rfl w.heap.size A2 c2 li 0 HN.out ⟨Sx.zero,none,0,E,(p:Int)⟩ _ rfl rfl HO.out ⟨⟨Nat.le_refl _,Nat.zero_le _⟩,.nil _⟩ rfl (by omega) HB.out.size ?_;intro A3 c3 w3 o3 g3;have O3:=Lib.hid o3;have B3:=Lib.hid (HB.out.grown g3 HB.out.size (fun q hq=>(HO.out.lt HN.out hq).1));clear o3 g3)
   rw[HPo.out]
   exact ReadSaid.mk (by rw[List.length_append,HN.out];rfl) (by omega) O3.out HR.out B3.out
  |succ n=>
   obtain⟨x,hx,hlast⟩:=last_of hn
   have hp:=ho'.parts
   have hnn:n<li.length:=by omega
   have hii:=(ho'.its hn).get (i:=n) (by omega)
   obtain⟨b,off,y,A',c',rfl,hy,_,hs,_,hc6,_⟩:=hii
   have hyE:y.E=x.E:=by
    rw[List.getElem?_map,hx] at hy
    injection hy with hy
    rw[←hy]
   have hlt:=hs.lt
   rw[hyE] at hc6
   have hn0:(0:Int)≤(n:Int):=by omega
   have hnlt:(n:Int)<(n:Int)+1:=by omega
   by_cases h51:x.E=51
   ·rw[h51] at hc6
    have HR:Hid (ReadOf s ((li.take n++[MItem.mk Sx.zero none 0 E (p:Int)]).map MItem.pure)):=by
     have:=hRd'.out
     rw[cutEnd_yes hn hlast h51] at this
     show ReadOf _ _
     rw[List.map_append]
     exact this
    have HNt:Hid ((li.take n).length=n):=by show _=_;rw[List.length_take,Nat.min_eq_left (by omega)]
    have HOt:=Lib.hid (ho'.take (k:=n) (by omega))
    have hcut:=fun W=>cut_h (T:=69) (s:=8) Tryz.underlying69 (fun W=>by kernel_rfl) (n:=n+1) (c:=c2) (k:=n) W (own_add ho'.row) (by have:=hp.1;omega)
    clear ho' hRd hB hn HQ HN1 hE hRd' hp hx hlast hy hs hyE hnn h51
    go_wp2_with (at_builtin;refine appendI _ rfl (.tmp 37) (.tmp 41) rfl w.heap.size _ c2 (li.take n) n HNt.out ⟨Sx.zero,none,0,E,(p:Int)⟩ _ rfl rfl HOt.out ⟨⟨Nat.le_refl _,Nat.zero_le _⟩,.nil _⟩ rfl (by omega) HB.out.size ?_;intro A3 c3 w3 o3 g3;have O3:=Lib.hid o3;have B3:=Lib.hid (HB.out.grown g3 HB.out.size (fun q hq=>(HOt.out.lt HNt.out hq).1));clear o3 g3)
    rw[HPo.out]
    exact ReadSaid.mk (by rw[List.length_append,HNt.out];rfl) (by omega) O3.out HR.out B3.out
   ·have h51b:(x.E == 51)=false:=beq_eq_false_iff_ne.2 h51
    have HR:Hid (ReadOf s ((li++[MItem.mk Sx.zero none 0 E (p:Int)]).map MItem.pure)):=by
     have:=hRd'.out
     rw[cutEnd_no hlast h51] at this
     show ReadOf _ _
     rw[List.map_append]
     exact this
    clear ho' hRd hB hn HQ HN1 hE hRd' hp hx hlast hy hs hyE hnn h51
    go_wp2_with (at_builtin;refine appendI _ rfl (.tmp 37) (.tmp 41) rfl w.heap.size _ c2 li (n+1) HN.out ⟨Sx.zero,none,0,E,(p:Int)⟩ _ rfl rfl HO.out ⟨⟨Nat.le_refl _,Nat.zero_le _⟩,.nil _⟩ rfl (by omega) HB.out.size ?_;intro A3 c3 w3 o3 g3;have O3:=Lib.hid o3;have B3:=Lib.hid (HB.out.grown g3 HB.out.size (fun q hq=>(HO.out.lt HN.out hq).1));clear o3 g3)
    rw[HPo.out]
    exact ReadSaid.mk (by rw[List.length_append,HN.out];rfl) (by omega) O3.out HR.out B3.out
end Go.Proofs.YtcgaeknikfaghaaGreatDoor
