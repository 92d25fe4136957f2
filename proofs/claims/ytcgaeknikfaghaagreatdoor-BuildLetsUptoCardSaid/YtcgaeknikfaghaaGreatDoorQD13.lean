/- What the proofs of this claim use, text by text. -/
import Derived.Test.YtcgaeknikfaghaaGreatDoorQD11
import Derived.Test.YtcgaeknikfaghaaGreatDoorQD12
set_option linter.unusedSimpArgs false
set_option linter.unusedVariables false
set_option maxRecDepth 100000
set_option maxHeartbeats 25600000
namespace Go.Proofs.YtcgaeknikfaghaaGreatDoor
open Go.RowKit
structure Bk (w:World) (b:Nat) (F:Nat→Prop) (l:List Nd):Prop where
 tab:∃ (Ft I:Nat→Prop) (A:Option Addr) (c:Nat) (L:List (NdP×Nd)),TabK w Ft b (l.map Tm.key) (.slice A l.length c)∧(∀ k,F k↔(Ft k∨(Value.slice A l.length c).ownBlock=some k)∨I k)∧(∀ k,(Value.slice A l.length c).ownBlock=some k→¬Ft k)∧OwnD w 0 A c L∧L.map (·.2)=l∧(∀ q∈L,NdK w I q.1 q.2)∧∀ k,I k→¬(Ft k∨(Value.slice A l.length c).ownBlock=some k)∧k<w.heap.size
 good:∀ x∈l,Tm.Good x
theorem OwnD.turn9 {F:Nat→Prop} {w w':World} {B:Nat} {A:Option Addr} {c n:Nat} {L:List (NdP×Nd)} (h:OwnD w B A c L) (hn:L.length=n) (hT:Turn F w w') (hF:∀ k,(Value.slice A n c).ownBlock=some k→¬F k):OwnD w' B A c L:=by
 subst hn
 exact hT.own h hF
theorem OwnD.lt9 {w:World} {B:Nat} {A:Option Addr} {c n:Nat} {L:List (NdP×Nd)} (h:OwnD w B A c L) (hn:L.length=n):∀ k,(Value.slice A n c).ownBlock=some k→k<w.heap.size:=by
 subst hn
 exact fun k hk=>(World.ownsRow.lt h k hk).2
theorem Bk.turn {G F:Nat→Prop} {w w':World} {b:Nat} {l:List Nd} (h:Bk w b F l) (hT:Turn G w w') (hG:∀ k,F k→¬G k):Bk w' b F l:=by
 obtain⟨⟨Ft,I,A,c,L,h1,h2,h3,h4,h5,h6,h7⟩,hg⟩:=h
 have hL:L.length=l.length:=by rw[←h5,List.length_map]
 exact⟨⟨Ft,I,A,c,L,h1.turn hT (fun i hi=>hG i ((h2 i).2 (.inl (.inl hi)))),h2,h3,h4.turn9 hL hT (fun k hk=>hG k ((h2 k).2 (.inl (.inr hk)))),h5,fun q hq=>(h6 q hq).turn hT (fun k hk=>hG k ((h2 k).2 (.inr hk))),fun k hk=>⟨(h7 k hk).1,Nat.lt_of_lt_of_le (h7 k hk).2 hT.size⟩⟩,hg⟩
theorem Bk.below {w w':World} {b:Nat} {F:Nat→Prop} {l:List Nd} (h:Bk w b F l) (hb:Below w.heap.size w w'):Bk w' b F l:=h.turn (G:=fun _=>False) (Turn.of_below hb) fun _ _=>id
theorem Bk.lt {w:World} {b:Nat} {F:Nat→Prop} {l:List Nd} (h:Bk w b F l):∀ k,F k→k<w.heap.size:=by
 obtain⟨⟨Ft,I,A,c,L,h1,h2,h3,h4,h5,h6,h7⟩,hg⟩:=h
 have hL:L.length=l.length:=by rw[←h5,List.length_map]
 intro k hk
 rcases(h2 k).1 hk with(e|e)|e
 ·exact h1.lt k e
 ·exact h4.lt9 hL k e
 ·exact(h7 k e).2
abbrev Z9:Array Value:=#[.map none,.slice none 0 0,.slice none 0 0]
theorem knew9 (w:World):Bk (w.alloc (.cells Z9 37)) w.heap.size (fun k=>k=w.heap.size) []:=
 ⟨⟨fun k=>k=w.heap.size,fun _=>False,none,0,[],TabK.new w _,fun _=>⟨fun h=> .inl (.inl h),fun h=>h.elim (fun h=>h.elim id (fun e=>nomatch e)) False.elim⟩,(fun _ e=>nomatch e),World.ownsRow_nil _ _ _ _,rfl,fun _ hq=>absurd hq List.not_mem_nil,fun _ e=>e.elim⟩,fun _ hx=>absurd hx List.not_mem_nil⟩
theorem Bk.cell {w:World} {b:Nat} {F:Nat→Prop} {l:List Nd} (h:Bk w b F l):∃ A c,b<w.heap.size∧w.cell? ⟨b,2,none⟩=some (.slice A l.length c)∧
  ∀ (i:Nat) x,l[i]?=some x→∃ g off P,A=some ⟨g,off,none⟩∧g<w.heap.size∧NdK w (fun _=>True) P x∧∀ j u,(P.cells x)[j]?=some u→w.cell? ⟨g,off+i*7+j,none⟩=some u:=by
 obtain⟨⟨Ft,I,A,c,L,⟨⟨m,v,q1,_⟩,_⟩,h2,h3,h4,h5,h6,h7⟩,hg⟩:=h
 have hL:L.length=l.length:=by rw[←h5,List.length_map]
 refine⟨A,c,q1.lt,by rw[q1.cell];rfl,fun i x hx=>?_⟩
 rw[←h5,List.getElem?_map] at hx
 obtain⟨q,hq,rfl⟩:=Option.map_eq_some_iff.1 hx
 have hil:=(List.getElem?_eq_some_iff.1 hq).1
 rcases h4.2 with⟨_,e⟩|⟨g,cap,cur,e,_,hgl,_⟩
 ·omega
 ·injection e with e1 _ _
  subst e1
  exact⟨g,0,q.1,rfl,(Array.getElem?_eq_some_iff.1 hgl).1,(h6 q (List.mem_of_getElem? hq)).mono (fun _ _=>trivial),fun j u hu=>by rw[Nat.zero_add];exact h4.cell hq hu⟩
theorem klen9 (w:World) (b:Nat) (F:Nat→Prop) (l:List Nd) (h:Bk w b F l):Calls Tryz.prog 14 #[.pointer (some ⟨b,0,none⟩)] w fun e w'=>e=.returned (.int .i64 (l.length:Nat))∧Below w.heap.size w w':=by
 obtain⟨A,c,hb,hc,_⟩:=h.cell
 obtain⟨n,hn⟩:∃ n,l.length=n:=⟨_,rfl⟩
 rw[hn] at hc ⊢
 clear h hn
 go_enter Tryz.func14,Tryz.ntmps14
 go_wp2
 go_ret
 exact⟨rfl,Below.refl _ _⟩
theorem khas9 (w:World) (b:Nat) (F:Nat→Prop) (l:List Nd) (h:Bk w b F l) (i:Int):Calls Tryz.prog 34 #[.pointer (some ⟨b,0,none⟩),.int .i64 i] w fun e w'=>e=.returned (.bool (decide (0≤i∧i<l.length)))∧Below w.heap.size w w':=by
 have HL:=Lib.hid (klen9 w b F l h)
 obtain⟨n,hn⟩:∃ n,l.length=n:=⟨_,rfl⟩
 rw[hn] at HL ⊢
 clear h hn
 by_cases h0:0≤i
 ·by_cases h1:i<(n:Int)
  ·rw[decide_eq_true (show 0≤i∧i<(n:Int) from⟨h0,h1⟩)]
   have d1:decide (i<(n:Int))=true:=decide_eq_true h1
   go_enter Tryz.func34,Tryz.ntmps34
   go_wp2_with (go_at_call 14;refine HL.out.mono ?_;rintro e w1 ⟨rfl,b1⟩)
   go_ret
   exact⟨rfl,b1⟩
  ·rw[decide_eq_false (show ¬(0≤i∧i<(n:Int)) from fun h=>h1 h.2)]
   have d1:decide (i<(n:Int))=false:=decide_eq_false h1
   go_enter Tryz.func34,Tryz.ntmps34
   go_wp2_with (go_at_call 14;refine HL.out.mono ?_;rintro e w1 ⟨rfl,b1⟩)
   go_ret
   exact⟨rfl,b1⟩
 ·rw[decide_eq_false (show ¬(0≤i∧i<(n:Int)) from fun h=>h0 h.1)]
  clear HL
  go_enter Tryz.func34,Tryz.ntmps34
  go_wp2
  go_ret
  exact⟨rfl,Below.refl _ _⟩
theorem khasAll9 (w:World) (b:Nat) (F:Nat→Prop) (l:List Nd) (h:Bk w b F l) (A:Option Addr) (n c:Nat) (a:List Int) (ha:NumS w A n a) (hn:n≤1000000):
  Calls Tryz.prog 188 #[.pointer (some ⟨b,0,none⟩),.slice A n c] w fun e w'=>e=.returned (.bool (Tm.allIn l a))∧Below w.heap.size w w':=by
 obtain⟨r,hr⟩:∃ r,Tm.allIn l a=r:=⟨_,rfl⟩
 have HR:Hid (∀ i,i≤n→(∀ z∈a.take i,decide (0≤z∧z<(l.length:Int))=true)→(∀ z,a[i]?=some z→decide (0≤z∧z<(l.length:Int))=false→r=false)∧(i=n→r=true)):=fun i _ hi=>by
  refine⟨fun z hz hd=>?_,fun e=>?_⟩
  ·rw[←hr]
   unfold Tm.allIn
   rw[List.all_eq_false]
   exact⟨z,List.mem_of_getElem? hz,by simpa using hd⟩
  ·rw[←hr]
   unfold Tm.allIn
   rw[List.all_eq_true]
   intro z hz
   have:z∈a.take i:=by rw[e,←ha.len,List.take_length];exact hz
   exact hi z this
 rw[hr]
 have HA:=Lib.hid ha
 have HH:=Lib.hid fun W (hW:Below w.heap.size w W) (i:Int)=>khas9 W b F l (h.below hW) i
 clear h ha hr
 go_enter Tryz.func188,Tryz.ntmps188
 go_wp2_with fail
 go_loopw [9] (fun iv wr=>∃ i:Nat,i≤n∧iv=.int .i64 (i:Nat)∧Hid (Below w.heap.size w wr∧∀ z∈a.take i,decide (0≤z∧z<(l.length:Int))=true)) (fun iv _=>n-(intOf iv).toNat)
 case atStart=>exact⟨0,Nat.zero_le _,rfl,Below.refl _ _,fun z hz=>by simp at hz⟩
 case round=>
  obtain⟨i,hi,rfl,HI⟩:=hrel
  by_cases hlt:i<n
  ·have hlt':(i:Int)<(n:Int):=by omega
   have hi0:(0:Int)≤(i:Int):=by omega
   obtain⟨bA,oA,z,rfl,hz,hzm,_,hc⟩:=HA.out.get hlt
   obtain⟨_,cz⟩:=hc wr HI.out.1
   have HC:=Lib.hid (HH.out wr HI.out.1 z)
   have HR1:=Lib.hid (HR.out i hi HI.out.2)
   have HZ:=Lib.hid hz
   have HIT:Hid (∀ w1,Below wr.heap.size wr w1→decide (0≤z∧z<(l.length:Int))=true→Below w.heap.size w w1∧∀ y∈a.take (i+1),decide (0≤y∧y<(l.length:Int))=true):=fun w1 b1 hd=>by
    refine⟨HI.out.1.trans (b1.mono HI.out.1.size),fun y hy=>?_⟩
    rw[take_one hz] at hy
    rcases List.mem_append.1 hy with hy|hy
    ·exact HI.out.2 y hy
    ·rw[List.mem_singleton.1 hy];exact hd
   have HBw:Hid (∀ w1,Below wr.heap.size wr w1→Below w.heap.size w w1):=fun w1 b1=>HI.out.1.trans (b1.mono HI.out.1.size)
   have hiw:IntKind.i64.wrap ((i:Int)+1)=(i:Int)+1:=IntWalk.i64_in _ (by omega)
   obtain⟨d,hd⟩:∃ d,decide (0≤z∧z<(l.length:Int))=d:=⟨_,rfl⟩
   rw[hd] at HC HIT
   have HD:=Lib.hid hd
   clear hz hzm hc HI HA HH HR hd
   go_wp2_with fail
   refine HC.out.mono ?_
   rintro e w1 ⟨rfl,b1⟩
   have B1:=Lib.hid b1
   clear HC b1 cz
   cases d with
   |true=>
    have HV:=Lib.hid (HIT.out w1 B1.out rfl)
    clear HIT HR1 HZ HD HBw B1
    go_wp2
    go_roundw
    case rel=>exact⟨i+1,by omega,by go_num,HV.out⟩
    case measure=>simp[intOf];omega
   |false=>
    obtain rfl:=HR1.out.1 z HZ.out HD.out
    have HV:=Lib.hid (HBw.out w1 B1.out)
    clear HIT HR1 HZ HD HBw B1
    go_wp2
    go_ret
    exact⟨rfl,HV.out⟩
  ·have him:i=n:=by omega
   have hlt2:¬(i:Int)<(n:Int):=by omega
   obtain rfl:=(HR.out i hi HI.out.2).2 him
   have HV:=Lib.hid HI.out.1
   clear HI HA HH HR hlt him hi
   go_wp2
   go_ret
   exact⟨rfl,HV.out⟩
theorem kat9 (w:World) (b:Nat) (F:Nat→Prop) (l:List Nd) (i:Nat) (x:Nd) (h:Bk w b F l) (hi:l[i]?=some x):Calls Tryz.prog 15 #[.pointer (some ⟨b,0,none⟩),.int .i64 (i:Int)] w fun e w'=>(∃ P:NdP,e=.returned (.tuple #[.agg (P.cells x),.bool true])∧NdAs w' (fun _=>True) P x)∧Below w.heap.size w w':=by
 obtain⟨W0,hW0⟩:∃ W0,w.alloc (.cells #[.int .i64 0,.int .i64 0,.slice none 0 0,.string ⟨#[]⟩,.bool false,.slice none 0 0,.slice none 0 0] 50)=W0:=⟨_,rfl⟩
 have B0:Below w.heap.size w W0:=by rw[←hW0];exact(Below.refl _ w).alloc (Nat.le_refl _) _
 have L0:Lies W0 w.heap.size 50 #[.int .i64 0,.int .i64 0,.slice none 0 0,.string ⟨#[]⟩,.bool false,.slice none 0 0,.slice none 0 0]:=by rw[←hW0];exact Lies.new w _ _
 have hil:=(List.getElem?_eq_some_iff.1 hi).1
 have HH:=Lib.hid (khas9 W0 b F l (h.below B0) (i:Int))
 rw[decide_eq_true (show 0≤(i:Int)∧(i:Int)<(l.length:Int) by omega)] at HH
 obtain⟨A,c,hb,hc,hx⟩:=(h.below B0).cell
 obtain⟨g,off,P,rfl,hg,hP,hcx⟩:=hx i x hi
 have hi0:(0:Int)≤(i:Int):=by omega
 obtain⟨n,hn⟩:∃ n,l.length=n:=⟨_,rfl⟩
 rw[hn] at hc hil
 have hin:(i:Int)<(n:Int):=by omega
 have HB0:=Lib.hid B0
 have HL0:=Lib.hid L0
 have HP:=Lib.hid hP
 have HC:=Lib.hid hcx
 have HCb:Hid (W0.cell? ⟨b,2,none⟩=some (.slice (some ⟨g,off,none⟩) n c)):=hc
 obtain⟨pA,pn,pc,pg,pB,pm,pd,pC,pp,pf⟩:=P
 clear h hi B0 L0 hx hP hcx hc hn hil
 go_enter Tryz.func15,Tryz.ntmps15
 go_wp2_with fail
 refine HH.out.mono ?_
 rintro e w1 ⟨rfl,b1⟩
 have hB1:=HB0.out.trans (b1.mono HB0.out.size)
 have cb:w1.cell? ⟨b,2,none⟩=some (.slice (some ⟨g,off,none⟩) n c):=(b1.cell (p:=⟨b,2,none⟩) hb).trans HCb.out
 have cx:∀ j u,(NdP.cells ⟨pA,pn,pc,pg,pB,pm,pd,pC,pp,pf⟩ x)[j]?=some u→w1.cell? ⟨g,off+i*7+j,none⟩=some u:=fun j u hu=>(b1.cell (p:=⟨g,off+i*7+j,none⟩) hg).trans (HC.out j u hu)
 have c0:=cx 0 _ rfl
 have c1:=cx 1 _ rfl
 have c2:=cx 2 _ rfl
 have c3:=cx 3 _ rfl
 have c4:=cx 4 _ rfl
 have c5:=cx 5 _ rfl
 have c6:=cx 6 _ rfl
 have hL1:Lies w1 w.heap.size 50 #[.int .i64 0,.int .i64 0,.slice none 0 0,.string ⟨#[]⟩,.bool false,.slice none 0 0,.slice none 0 0]:=(b1.block _ HL0.out.lt).trans HL0.out
 have HOw:=Lib.hid (ownK w1 _ x (HP.out.below b1))
 have HB1:=Lib.hid hB1
 have HL1:=Lib.hid hL1
 simp only[Nat.add_zero] at c0
 clear HH b1 HB0 HL0 HP HC HCb hB1 hL1 cx hW0
 go_wp2_with fail
 refine HOw.out.mono ?_
 rintro e w2 ⟨⟨P',rfl,hP'⟩,b2⟩
 obtain⟨qA,qn,qc,qg,qB,qm,qd,qC,qp,qf⟩:=P'
 have hL2:Lies w2 w.heap.size 50 #[.int .i64 0,.int .i64 0,.slice none 0 0,.string ⟨#[]⟩,.bool false,.slice none 0 0,.slice none 0 0]:=(b2.block _ HL1.out.lt).trans HL1.out
 obtain⟨W4,hW4⟩:∃ W4,((((((w2.setCell ⟨w.heap.size,0,none⟩ (.int .i64 x.op)).setCell ⟨w.heap.size,1,none⟩ (.int .i64 x.sort)).setCell ⟨w.heap.size,2,none⟩ (.slice qA qn qc)).setCell ⟨w.heap.size,3,none⟩ (.string x.name)).setCell ⟨w.heap.size,4,none⟩ (.bool qg)).setCell ⟨w.heap.size,5,none⟩ (.slice qB qm qd)).setCell ⟨w.heap.size,6,none⟩ (.slice qC qp qf)=W4:=⟨_,rfl⟩
 have hL4:Lies W4 w.heap.size 50 #[.int .i64 x.op,.int .i64 x.sort,.slice qA qn qc,.string x.name,.bool qg,.slice qB qm qd,.slice qC qp qf]:=by
  rw[←hW4]
  exact((((((hL2.put 0 (.int .i64 x.op)).put 1 (.int .i64 x.sort)).put 2 (.slice qA qn qc)).put 3 (.string x.name)).put 4 (.bool qg)).put 5 (.slice qB qm qd)).put 6 (.slice qC qp qf)
 have T4:Turn (fun k=>k=w.heap.size) w2 W4:=by
  rw[←hW4]
  exact(((((((Turn.refl (fun k=>k=w.heap.size) w2).put (p:=⟨w.heap.size,0,none⟩) (.inl rfl) _).put (p:=⟨w.heap.size,1,none⟩) (.inl rfl) _).put (p:=⟨w.heap.size,2,none⟩) (.inl rfl) _).put (p:=⟨w.heap.size,3,none⟩) (.inl rfl) _).put (p:=⟨w.heap.size,4,none⟩) (.inl rfl) _).put (p:=⟨w.heap.size,5,none⟩) (.inl rfl) _).put (p:=⟨w.heap.size,6,none⟩) (.inl rfl) _
 have HE:Hid (NdAs W4 (fun _=>True) ⟨qA,qn,qc,qg,qB,qm,qd,qC,qp,qf⟩ x∧Below w.heap.size w W4):=by
  refine⟨((hP'.turn T4 (fun k hk e=>by have:=HL1.out.lt;omega)).as_).mono (fun _ _=>trivial),?_⟩
  exact((Turn.of_below (F:=fun k=>w.heap.size≤k) (HB1.out.trans (b2.mono HB1.out.size))).trans T4 (fun k hk=> .inl (by omega))).below (Nat.le_refl _) (fun _ h=>h)
 have k0:W4.cell? ⟨w.heap.size,0,none⟩=some (.int .i64 x.op):=by rw[hL4.cell];rfl
 have k1:W4.cell? ⟨w.heap.size,1,none⟩=some (.int .i64 x.sort):=by rw[hL4.cell];rfl
 have k2:W4.cell? ⟨w.heap.size,2,none⟩=some (.slice qA qn qc):=by rw[hL4.cell];rfl
 have k3:W4.cell? ⟨w.heap.size,3,none⟩=some (.string x.name):=by rw[hL4.cell];rfl
 have k4:W4.cell? ⟨w.heap.size,4,none⟩=some (.bool qg):=by rw[hL4.cell];rfl
 have k5:W4.cell? ⟨w.heap.size,5,none⟩=some (.slice qB qm qd):=by rw[hL4.cell];rfl
 have k6:W4.cell? ⟨w.heap.size,6,none⟩=some (.slice qC qp qf):=by rw[hL4.cell];rfl
 have r0:=hL2.cell 0
 have r1:=hL2.cell 1
 have r2:=hL2.cell 2
 have r3:=hL2.cell 3
 have r4:=hL2.cell 4
 have r5:=hL2.cell 5
 have r6:=hL2.cell 6
 have y0:=hL2.free 0
 have y1:=hL2.free 1
 have y2:=hL2.free 2
 have y3:=hL2.free 3
 have y4:=hL2.free 4
 have y5:=hL2.free 5
 have y6:=hL2.free 6
 have ll:=hL2.lt
 simp at r0 r1 r2 r3 r4 r5 r6
 clear HOw hP' b2 hL2 hL4 T4 HB1 HL1 c0 c1 c2 c3 c4 c5 c6 cb
 go_wp2
 exact bodyPost_ret (v:=.tuple #[.agg #[.int .i64 x.op,.int .i64 x.sort,.slice qA qn qc,.string x.name,.bool qg,.slice qB qm qd,.slice qC qp qf],.bool true]) (by simp[results,Tryz.results15,go_sem,k0,k1,k2,k3,k4,k5,k6]) rfl ⟨⟨⟨qA,qn,qc,qg,qB,qm,qd,qC,qp,qf⟩,rfl,HE.out.1⟩,HE.out.2⟩
theorem katno9 (w:World) (b:Nat) (F:Nat→Prop) (l:List Nd) (i:Int) (h:Bk w b F l) (hi:i<0∨(l.length:Int)≤i):Calls Tryz.prog 15 #[.pointer (some ⟨b,0,none⟩),.int .i64 i] w fun e w'=>e=.returned (.tuple #[.agg #[.int .i64 0,.int .i64 0,.slice none 0 0,.string ⟨#[]⟩,.bool false,.slice none 0 0,.slice none 0 0],.bool false])∧Below w.heap.size w w':=by
 obtain⟨W0,hW0⟩:∃ W0,w.alloc (.cells #[.int .i64 0,.int .i64 0,.slice none 0 0,.string ⟨#[]⟩,.bool false,.slice none 0 0,.slice none 0 0] 50)=W0:=⟨_,rfl⟩
 have B0:Below w.heap.size w W0:=by rw[←hW0];exact(Below.refl _ w).alloc (Nat.le_refl _) _
 have L0:Lies W0 w.heap.size 50 #[.int .i64 0,.int .i64 0,.slice none 0 0,.string ⟨#[]⟩,.bool false,.slice none 0 0,.slice none 0 0]:=by rw[←hW0];exact Lies.new w _ _
 have HH:=Lib.hid (khas9 W0 b F l (h.below B0) i)
 rw[decide_eq_false (show ¬(0≤i∧i<(l.length:Int)) by omega)] at HH
 have HB0:=Lib.hid B0
 have HL0:=Lib.hid L0
 clear h hi B0 L0
 go_enter Tryz.func15,Tryz.ntmps15
 go_wp2_with fail
 refine HH.out.mono ?_
 rintro e w2 ⟨rfl,b2⟩
 have hL2:Lies w2 w.heap.size 50 #[.int .i64 0,.int .i64 0,.slice none 0 0,.string ⟨#[]⟩,.bool false,.slice none 0 0,.slice none 0 0]:=(b2.block _ HL0.out.lt).trans HL0.out
 obtain⟨W4,hW4⟩:∃ W4,((((((w2.setCell ⟨w.heap.size,0,none⟩ (.int .i64 0)).setCell ⟨w.heap.size,1,none⟩ (.int .i64 0)).setCell ⟨w.heap.size,2,none⟩ (.slice none 0 0)).setCell ⟨w.heap.size,3,none⟩ (.string ⟨#[]⟩)).setCell ⟨w.heap.size,4,none⟩ (.bool false)).setCell ⟨w.heap.size,5,none⟩ (.slice none 0 0)).setCell ⟨w.heap.size,6,none⟩ (.slice none 0 0)=W4:=⟨_,rfl⟩
 have hL4:Lies W4 w.heap.size 50 #[.int .i64 0,.int .i64 0,.slice none 0 0,.string ⟨#[]⟩,.bool false,.slice none 0 0,.slice none 0 0]:=by
  rw[←hW4]
  exact((((((hL2.put 0 (.int .i64 0)).put 1 (.int .i64 0)).put 2 (.slice none 0 0)).put 3 (.string ⟨#[]⟩)).put 4 (.bool false)).put 5 (.slice none 0 0)).put 6 (.slice none 0 0)
 have T4:Turn (fun k=>k=w.heap.size) w2 W4:=by
  rw[←hW4]
  exact(((((((Turn.refl (fun k=>k=w.heap.size) w2).put (p:=⟨w.heap.size,0,none⟩) (.inl rfl) _).put (p:=⟨w.heap.size,1,none⟩) (.inl rfl) _).put (p:=⟨w.heap.size,2,none⟩) (.inl rfl) _).put (p:=⟨w.heap.size,3,none⟩) (.inl rfl) _).put (p:=⟨w.heap.size,4,none⟩) (.inl rfl) _).put (p:=⟨w.heap.size,5,none⟩) (.inl rfl) _).put (p:=⟨w.heap.size,6,none⟩) (.inl rfl) _
 have HE:Hid (Below w.heap.size w W4):=
  ((Turn.of_below (F:=fun k=>w.heap.size≤k) (HB0.out.trans (b2.mono HB0.out.size))).trans T4 (fun k hk=> .inl (by omega))).below (Nat.le_refl _) (fun _ h=>h)
 have k0:W4.cell? ⟨w.heap.size,0,none⟩=some (.int .i64 0):=by rw[hL4.cell];rfl
 have k1:W4.cell? ⟨w.heap.size,1,none⟩=some (.int .i64 0):=by rw[hL4.cell];rfl
 have k2:W4.cell? ⟨w.heap.size,2,none⟩=some (.slice none 0 0):=by rw[hL4.cell];rfl
 have k3:W4.cell? ⟨w.heap.size,3,none⟩=some (.string ⟨#[]⟩):=by rw[hL4.cell];rfl
 have k4:W4.cell? ⟨w.heap.size,4,none⟩=some (.bool false):=by rw[hL4.cell];rfl
 have k5:W4.cell? ⟨w.heap.size,5,none⟩=some (.slice none 0 0):=by rw[hL4.cell];rfl
 have k6:W4.cell? ⟨w.heap.size,6,none⟩=some (.slice none 0 0):=by rw[hL4.cell];rfl
 have r0:=hL2.cell 0
 have r1:=hL2.cell 1
 have r2:=hL2.cell 2
 have r3:=hL2.cell 3
 have r4:=hL2.cell 4
 have r5:=hL2.cell 5
 have r6:=hL2.cell 6
 have y0:=hL2.free 0
 have y1:=hL2.free 1
 have y2:=hL2.free 2
 have y3:=hL2.free 3
 have y4:=hL2.free 4
 have y5:=hL2.free 5
 have y6:=hL2.free 6
 have ll:=hL2.lt
 simp at r0 r1 r2 r3 r4 r5 r6
 clear HH b2 hL2 hL4 T4 HB0 HL0 hW0
 go_wp2
 exact bodyPost_ret (v:=.tuple #[.agg #[.int .i64 0,.int .i64 0,.slice none 0 0,.string ⟨#[]⟩,.bool false,.slice none 0 0,.slice none 0 0],.bool false]) (by simp[results,Tryz.results15,go_sem,k0,k1,k2,k3,k4,k5,k6]) rfl ⟨rfl,HE.out⟩
theorem TabK.put {w:World} {F:Nat→Prop} {tb:Nat} {ks:List Ky} {V:Value} (h:TabK w F tb ks V) (V':Value):TabK (w.setCell ⟨tb,2,none⟩ V') F tb ks V':=by
 obtain⟨⟨m,v,h1,h2,h3,h4⟩,ok,inn,lt,few⟩:=h
 have ht:Turn (fun i=>i=tb) w (w.setCell ⟨tb,2,none⟩ V'):=(Turn.refl (fun i=>i=tb) w).put (p:=⟨tb,2,none⟩) (.inl rfl) V'
 refine⟨⟨m,v,h1.put 2 V',ht.own h2 (fun g hg e=>own_not_lies h2 h1 (by decide) (e▸hg)),h3,?_⟩,ok,inn,fun i hi=>Nat.lt_of_lt_of_le (lt i hi) ht.size,few⟩
 rcases h4 with h4|⟨mb,D,rfl,hF,ho,htl⟩
 ·exact .inl h4
 ·exact .inr ⟨mb,D,rfl,hF,ht.map ho (fun e=>lies_not_map h1 ho e.symm),htl⟩
theorem LeftK.step {w w' w'':World} {F:Nat→Prop} {tb:Nat} {ks:List Ky} {V:Value} (h:LeftK w F tb ks V w') (hb:Below w'.heap.size w' w''):LeftK w F tb ks V w'':=by
 obtain⟨F',h1,h2,h3,h4⟩:=h
 exact⟨F',h1.below hb,h2.step hb,h3,h4⟩
theorem Bk.grow {w w5 w6 w7:World} {b:Nat} {F Ft I:Nat→Prop} {A A':Option Addr} {n c c':Nat} {l:List Nd} {L:List (NdP×Nd)} {x:Nd} {P':NdP} (hn:l.length=n)
  (h2:∀ k,F k↔(Ft k∨(Value.slice A n c).ownBlock=some k)∨I k) (h3:∀ k,(Value.slice A n c).ownBlock=some k→¬Ft k) (h4:OwnD w 0 A c L) (h5:L.map (·.2)=l) (h6:∀ q∈L,NdK w I q.1 q.2) (h7:∀ k,I k→¬(Ft k∨(Value.slice A n c).ownBlock=some k)∧k<w.heap.size)
  (hg:∀ x∈l,Tm.Good x) (hx:Tm.Good x) (hL:LeftK w Ft b (l.map Tm.key++[Tm.key x]) (.slice A n c) w5) (b6:Below w5.heap.size w5 w6) (hP:NdK w6 (fun k=>w5.heap.size≤k) P' x)
  (g7:(w6.alloc (.cells (P'.cells x) 50)).grownBy w7 (Value.slice A n c).ownBlock) (o7:w7.ownsRow 0 50 7 (.slice A' (n+1) c') (n+1) (ncells L++ncells [(P',x)]))
  (v7:(Value.slice A' (n+1) c').ownBlock=(Value.slice A n c).ownBlock∨(Value.slice A' (n+1) c').ownBlock=some (w6.alloc (.cells (P'.cells x) 50)).heap.size):
  ∃ F',Bk (w7.setCell ⟨b,2,none⟩ (.slice A' (n+1) c')) b F' (l++[x])∧Turn F w (w7.setCell ⟨b,2,none⟩ (.slice A' (n+1) c'))∧∀ k,F' k→F k∨w.heap.size≤k:=by
 obtain⟨Ft',k1,k2,k3,k4⟩:=hL
 have hLn:L.length=n:=by rw[←hn,←h5,List.length_map]
 have hgv:∀ k,(Value.slice A n c).ownBlock=some k→k<w.heap.size:=fun k hk=>h4.lt9 hLn k hk
 have hgv':∀ k,(Value.slice A n c).ownBlock=some k→¬Ft' k:=fun k hk e=>(k4 k e).elim (h3 k hk) (fun e2=>by have:=hgv k hk;omega)
 have s56:=b6.size
 have s67:w6.heap.size+1≤w7.heap.size:=Nat.le_trans (Nat.le_of_eq (by simp)) g7.size
 have s05:=k2.size
 have s8:(w7.setCell ⟨b,2,none⟩ (.slice A' (n+1) c')).heap.size=w7.heap.size:=by simp[World.setCell]
 have tg:Turn (fun k=>(Value.slice A n c).ownBlock=some k) w6 w7:=((Turn.refl (fun k=>(Value.slice A n c).ownBlock=some k) w6).alloc (.cells (P'.cells x) 50)).trans (Turn.of_grown g7 (fun _ e _=>e)) (fun _ e=> .inl e)
 have t57:Turn (fun k=>(Value.slice A n c).ownBlock=some k) w5 w7:=(Turn.of_below b6).trans tg (fun _ e=> .inl e)
 have hb:Ft' b:=k1.inn
 have kt7:TabK w7 Ft' b (l.map Tm.key++[Tm.key x]) (.slice A n c):=k1.turn t57 (fun i hi e=>hgv' i e hi)
 have kt8:=kt7.put (.slice A' (n+1) c')
 have hv':∀ k,(Value.slice A' (n+1) c').ownBlock=some k→¬Ft' k∧((Value.slice A n c).ownBlock=some k∨w6.heap.size<k):=fun k hk=>by
  rcases v7 with e|e
  ·rw[e] at hk
   exact⟨hgv' k hk,.inl hk⟩
  ·rw[e] at hk
   have:=Option.some.inj hk
   simp at this
   exact⟨fun e2=>by have:=k1.lt k e2;omega,.inr (by omega)⟩
 have tb8:Turn (fun k=>k=b) w7 (w7.setCell ⟨b,2,none⟩ (.slice A' (n+1) c')):=(Turn.refl (fun k=>k=b) w7).put (p:=⟨b,2,none⟩) (.inl rfl) _
 have o8:=tb8.own o7 (fun k hk e=>(hv' k hk).1 (e▸hb))
 have t08:Turn (fun k=>Ft k∨(Value.slice A n c).ownBlock=some k) w (w7.setCell ⟨b,2,none⟩ (.slice A' (n+1) c')):=by
  have u1:Turn (fun k=>Ft k∨(Value.slice A n c).ownBlock=some k) w w5:=k2.mono (fun i _ hi=> .inl hi)
  have u2:Turn (fun k=>Ft k∨(Value.slice A n c).ownBlock=some k) w w7:=u1.trans t57 (fun i hi=> .inl (.inr hi))
  exact u2.trans tb8 (fun i hi=>by
   rcases k4 i (hi▸hb) with e|e
   ·exact .inl (.inl e)
   ·exact .inr e)
 refine⟨fun k=>(Ft' k∨(Value.slice A' (n+1) c').ownBlock=some k)∨(I k∨(w5.heap.size≤k∧k<w6.heap.size)),⟨⟨Ft',fun k=>I k∨(w5.heap.size≤k∧k<w6.heap.size),A',c',L++[(P',x)],?_,fun k=>?_,fun k hk=>?_,?_,by rw[List.map_append,h5];rfl,fun q hq=>?_,fun k hk=>?_⟩,fun y hy=>?_⟩,t08.mono (fun i _ hi=>(h2 i).2 (.inl hi)),fun k hk=>?_⟩
 ·rw[List.map_append,List.length_append,hn]
  exact kt8
 ·rw[List.length_append,hn]
  exact Iff.rfl
 ·rw[List.length_append,hn] at hk
  exact(hv' k hk).1
 ·unfold OwnD
  rw[List.length_append,hLn]
  have e:ncells L++ncells [(P',x)]=ncells (L++[(P',x)]):=by simp[ncells]
  rw[←e]
  exact o8
 ·rcases List.mem_append.1 hq with hq|hq
  ·exact((h6 q hq).turn t08 (fun k hk e=>(h7 k hk).1 e)).mono fun k hk=> .inl hk
  ·rw[List.mem_singleton.1 hq]
   have q1:=hP.inside
   have q2:=q1.turn tg (fun k hk e=>by have:=hgv k e;omega)
   have q3:=q2.turn tb8 (fun k hk e=>by have:=k1.lt b hb;omega)
   exact q3.mono fun k hk=> .inr hk
 ·rw[List.length_append,hn,s8]
  rcases hk with hk|hk
  ·obtain⟨e1,e2⟩:=h7 k hk
   refine⟨fun e=>?_,by omega⟩
   rcases e with e|e
   ·rcases k4 k e with e|e
    ·exact e1 (.inl e)
    ·omega
   ·rcases(hv' k e).2 with e|e
    ·exact e1 (.inr e)
    ·omega
  ·refine⟨fun e=>?_,by omega⟩
   rcases e with e|e
   ·have:=k1.lt k e
    omega
   ·rcases(hv' k e).2 with e|e
    ·have:=hgv k e
     omega
    ·omega
 ·rcases List.mem_append.1 hy with hy|hy
  ·exact hg y hy
  ·rw[List.mem_singleton.1 hy];exact hx
 ·rcases hk with(e|e)|e|e
  ·rcases k4 k e with e|e
   ·exact .inl ((h2 k).2 (.inl (.inl e)))
   ·exact .inr e
  ·rcases(hv' k e).2 with e|e
   ·exact .inl ((h2 k).2 (.inl (.inr e)))
   ·exact .inr (by omega)
  ·exact .inl ((h2 k).2 (.inr e))
  ·exact .inr (by omega)
theorem nd_at (P:NdP) (x:Nd) (w:World) (j:Nat) (u:Value) (h:(ncells [(P,x)])[j]?=some u):(w.alloc (.cells (P.cells x) 50)).cell? ((⟨w.heap.size,0,none⟩:Addr).add j)=some u:=by
 rw[addr_add,Nat.zero_add,(Lies.new w 50 (P.cells x)).cell]
 simpa [ncells,ncell] using h
theorem key_ok {x:Nd} (ho:(Lit.int .i64 x.op).wf=true) (hs:(Lit.int .i64 x.sort).wf=true) (hn:x.name.size≤1000000) {w:World} {G:Nat→Prop} {P:NdP} (h:NdK w G P x):(Tm.key x).Ok:=by
 refine⟨ho,hs,by unfold maxLen;show x.name.size≤_;omega,?_⟩
 have h1:=Tm.spell_len (l:=Tm.lst x) fun z hz=>by
  unfold Tm.lst at hz
  rcases List.mem_append.1 hz with hz|hz
  ·rcases List.mem_append.1 hz with hz|hz
   ·exact h.wfa z hz
   ·obtain⟨q,hq,rfl⟩:=List.mem_map.1 hz
    have:=Tm.limbs_fit _ q hq
    rw[M.BB_eq] at this
    exact WalkArith.wf_i64 (by omega)
  ·have hws:=h.wfs
   revert hws hz
   generalize x.str=t
   induction t with
   |nil=>intro hz _;cases hz
   |cons r t ih=>
    intro hz hws
    rw[Tm.flat] at hz
    rcases List.mem_cons.1 hz with rfl|hz
    ·exact(hws r (by simp)).1
    rcases List.mem_cons.1 hz with rfl|hz
    ·exact(hws r (by simp)).2
    ·exact ih hz (fun q hq=>hws q (List.mem_cons_of_mem _ hq))
 have h2:(Tm.lst x).length≤140000:=by
  unfold Tm.lst
  have h3:=h.a.len
  have h4:=h.num.1
  have h5:=h.str.len
  have h6:=h.few
  rw[List.length_append,List.length_append,List.length_map,Tm.flat_len]
  omega
 show(Tm.spell (Tm.lst x)).toArray.size≤maxLen
 unfold maxLen
 simp
 omega
def BAns (w:World) (b:Nat) (F:Nat→Prop) (r:List Nd×Int×Int) (e:Ending) (w':World):Prop:=e=.returned (.tuple #[.int .i64 r.2.1,.int .i64 r.2.2])∧∃ F',Bk w' b F' r.1∧Turn F w w'∧∀ k,F' k→F k∨w.heap.size≤k
theorem BAns.up {w W w':World} {b:Nat} {F:Nat→Prop} {r:List Nd×Int×Int} {e:Ending} (h:BAns W b F r e w') (hb:Below w.heap.size w W):BAns w b F r e w':=by
 obtain⟨h1,F',h2,h3,h4⟩:=h
 exact⟨h1,F',h2,(Turn.of_below hb).trans h3 (fun _ e=> .inl e),fun k hk=>(h4 k hk).imp id (fun e=>Nat.le_trans hb.size e)⟩
theorem BAns.same {w w':World} {b:Nat} {F:Nat→Prop} {l:List Nd} {x y:Int} (h:Bk w b F l) (hb:Below w.heap.size w w'):BAns w b F (l,x,y) (.returned (.tuple #[.int .i64 x,.int .i64 y])) w':=
 ⟨rfl,F,h.below hb,Turn.of_below hb,fun _=> .inl⟩
theorem kadd9 (w:World) (b:Nat) (F:Nat→Prop) (l:List Nd) (P:NdP) (x:Nd) {G:Nat→Prop} (h:Bk w b F l) (hx:NdK w G P x) (hG:∀ k,G k→¬F k) (hgood:Tm.Good x) (ho:(Lit.int .i64 x.op).wf=true) (hs:(Lit.int .i64 x.sort).wf=true) (hnm:x.name.size≤1000000) (hn:l.length≤30000) (hT:Pow9 w):
  Calls Tryz.prog 109 #[.pointer (some ⟨b,0,none⟩),.agg (P.cells x)] w fun e w'=>BAns w b F (Tm.add l x) e w':=by
 obtain⟨W0,hW0⟩:∃ W0,w.alloc (.cells (P.cells x) 50)=W0:=⟨_,rfl⟩
 have B0:Below w.heap.size w W0:=by rw[←hW0];exact(Below.refl _ w).alloc (Nat.le_refl _) _
 have L0:Lies W0 w.heap.size 50 (P.cells x):=by rw[←hW0];exact Lies.new w _ _
 have hkok:=key_ok ho hs hnm hx
 have HK:=Lib.hid (keyOfK W0 P x (hx.a.below B0) (hx.num.below B0) (hx.str.below B0) hx.wfa hx.wfs hx.few.1 hx.few.2.1 hx.few.2.2 (hT.on B0))
 obtain⟨⟨Ft,I,A,c,L,h1,h2,h3,h4,h5,h6,h7⟩,hg⟩:=id h
 obtain⟨ky,hky⟩:∃ ky,Tm.key x=ky:=⟨_,rfl⟩
 obtain⟨n,hnl⟩:∃ n,l.length=n:=⟨_,rfl⟩
 have hpl:∀ i bb,PlaceK (l.map Tm.key) ky i bb→Hid (∀ W,Below w.heap.size w W→Calls Tryz.prog 141 #[.pointer (some ⟨b,0,none⟩),ky.v] W fun e w'=>e=.returned (.tuple #[.int .i64 i,.bool bb])∧Below W.heap.size W w'):=fun i bb hp W hW=>
  findK W Ft b (l.map Tm.key) _ ky i bb hp (by rw[←hky];exact hkok) (h1.below hW)
 have hmem:ky∈l.map Tm.key↔x∈l:=by rw[←hky];exact Tm.key_mem hg hgood
 obtain⟨pA,pn,pc,pg,pB,pm,pd,pC,pp,pf⟩:=P
 have c0:=L0.cell 0
 have c1:=L0.cell 1
 have c2:=L0.cell 2
 have c3:=L0.cell 3
 have c4:=L0.cell 4
 have c5:=L0.cell 5
 have c6:=L0.cell 6
 simp at c0 c1 c2 c3 c4 c5 c6
 rw[hky] at HK
 have HB0:=Lib.hid B0
 have HL0:=Lib.hid L0
 have HH:=Lib.hid h
 by_cases hxl:x∈l
 · -- it is there
  have hadd:Tm.add l x=(l,((Tm.idx x l:Nat):Int),0):=by rw[Tm.add,if_pos (Tm.has_iff.2 hxl)]
  rw[hadd]
  have HF:=hpl (Tm.idx x l:Nat) true (.inl ⟨rfl,Tm.idx x l,by rw[List.getElem?_map,(Tm.idx_mem hxl).1,←hky];rfl,rfl⟩)
  obtain⟨ix,hix⟩:∃ ix:Int,((Tm.idx x l:Nat):Int)=ix:=⟨_,rfl⟩
  rw[hix] at HF ⊢
  clear h hx hG hgood ho hs hnm hn hT B0 L0 hkok h1 h2 h3 h4 h5 h6 h7 hg hky hpl hmem hadd hix hxl hnl
  go_enter Tryz.func109,Tryz.ntmps109
  go_wp2_with fail
  refine HK.out.mono ?_
  rintro e w1 ⟨rfl,b1⟩
  have hB1:=HB0.out.trans (b1.mono HB0.out.size)
  obtain⟨W2,hW2⟩:∃ W2,w1.alloc (.cells ky.cells 203)=W2:=⟨_,rfl⟩
  have hB2:Below w.heap.size w W2:=by rw[←hW2];exact hB1.alloc hB1.size _
  have hL2:Lies W2 w1.heap.size 203 ky.cells:=by rw[←hW2];exact Lies.new w1 _ _
  have HFs:Hid (∀ s:Lat W2,Calls Tryz.prog 141 #[.pointer (some ⟨b,0,none⟩),.agg #[.int .i64 ky.op,.int .i64 ky.sort,.string ky.name,.string ky.list]] s.at_ fun e w'=>e=.returned (.tuple #[.int .i64 ix,.bool true])∧Below s.at_.heap.size s.at_ w'):=fun s=>HF.out s.at_ (hB2.trans (s.ok.mono hB2.size))
  have HC2:Hid (∀ s:Lat W2,Lies s.at_ w1.heap.size 203 ky.cells):=fun s=>(s.ok.block _ hL2.lt).trans hL2
  have HB2:=Lib.hid hB2
  clear HK HF b1 hB1 hB2 hL2 HB0 HL0 c0 c1 c2 c3 c4 c5 c6
  go_wp2_with fail
  refine calm_region (C:=Latr W2) (by kernel_rfl) (by kernel_rfl) (latr_drew (Below.refl _ W2)) ?_
  have p0_:∀ s:Lat W2,s.at_.cell? ⟨w1.heap.size,0,none⟩=some (.int .i64 ky.op):=fun s=>by rw[(HC2.out s).cell];rfl
  have p1_:∀ s:Lat W2,s.at_.cell? ⟨w1.heap.size,1,none⟩=some (.int .i64 ky.sort):=fun s=>by rw[(HC2.out s).cell];rfl
  have p2_:∀ s:Lat W2,s.at_.cell? ⟨w1.heap.size,2,none⟩=some (.string ky.name):=fun s=>by rw[(HC2.out s).cell];rfl
  have p3_:∀ s:Lat W2,s.at_.cell? ⟨w1.heap.size,3,none⟩=some (.string ky.list):=fun s=>by rw[(HC2.out s).cell];rfl
  repeat(go_big_quiet_step ((go_at_call 141;with_reducible exact calm_call (HFs.out _))))
  refine wpQuiet_nil ?_
  rintro _ ⟨s,rfl⟩
  have HV:=Lib.hid (BAns.same (x:=ix) (y:=0) HH.out (HB2.out.trans (s.ok.mono HB2.out.size)))
  clear p0_ p1_ p2_ p3_ HC2 HFs HB2 HH hW2
  generalize s.at_=W3 at*
  clear s
  go_wp2
  go_ret2
  exact HV.out
 · -- it is not there
  have HF:=hpl 0 false (.inr ⟨rfl,fun e=>hxl (hmem.1 e),rfl⟩)
  have HLn:=Lib.hid fun W (hW:Below w.heap.size w W)=>klen9 W b F l (h.below hW)
  rw[hnl] at HLn
  rcases Tm.add_ways l x with⟨e,_⟩|⟨_,hfull,hadd⟩|⟨_,hroom,hadd⟩
  ·exact absurd e hxl
  ·rw[hadd]
   rw[hnl] at hfull
   have hge:(20000:Int)≤(n:Int):=by omega
   have hge2:¬(n:Int)<20000:=by omega
   clear h hx hG hgood ho hs hnm hn hT B0 L0 hkok h1 h2 h3 h4 h5 h6 h7 hg hky hpl hmem hadd hxl hnl hfull
   go_enter Tryz.func109,Tryz.ntmps109
   go_wp2_with fail
   refine HK.out.mono ?_
   rintro e w1 ⟨rfl,b1⟩
   have hB1:=HB0.out.trans (b1.mono HB0.out.size)
   obtain⟨W2,hW2⟩:∃ W2,w1.alloc (.cells ky.cells 203)=W2:=⟨_,rfl⟩
   have hB2:Below w.heap.size w W2:=by rw[←hW2];exact hB1.alloc hB1.size _
   have hL2:Lies W2 w1.heap.size 203 ky.cells:=by rw[←hW2];exact Lies.new w1 _ _
   have HFs:Hid (∀ s:Lat W2,Calls Tryz.prog 141 #[.pointer (some ⟨b,0,none⟩),.agg #[.int .i64 ky.op,.int .i64 ky.sort,.string ky.name,.string ky.list]] s.at_ fun e w'=>e=.returned (.tuple #[.int .i64 0,.bool false])∧Below s.at_.heap.size s.at_ w'):=fun s=>HF.out s.at_ (hB2.trans (s.ok.mono hB2.size))
   have HC2:Hid (∀ s:Lat W2,Lies s.at_ w1.heap.size 203 ky.cells):=fun s=>(s.ok.block _ hL2.lt).trans hL2
   have HB2:=Lib.hid hB2
   clear HK HF b1 hB1 hB2 hL2 HB0 HL0 c0 c1 c2 c3 c4 c5 c6
   go_wp2_with fail
   refine calm_region (C:=Latr W2) (by kernel_rfl) (by kernel_rfl) (latr_drew (Below.refl _ W2)) ?_
   have p0_:∀ s:Lat W2,s.at_.cell? ⟨w1.heap.size,0,none⟩=some (.int .i64 ky.op):=fun s=>by rw[(HC2.out s).cell];rfl
   have p1_:∀ s:Lat W2,s.at_.cell? ⟨w1.heap.size,1,none⟩=some (.int .i64 ky.sort):=fun s=>by rw[(HC2.out s).cell];rfl
   have p2_:∀ s:Lat W2,s.at_.cell? ⟨w1.heap.size,2,none⟩=some (.string ky.name):=fun s=>by rw[(HC2.out s).cell];rfl
   have p3_:∀ s:Lat W2,s.at_.cell? ⟨w1.heap.size,3,none⟩=some (.string ky.list):=fun s=>by rw[(HC2.out s).cell];rfl
   repeat(go_big_quiet_step ((go_at_call 141;with_reducible exact calm_call (HFs.out _))))
   refine wpQuiet_nil ?_
   rintro _ ⟨s,rfl⟩
   have hB3:=HB2.out.trans (s.ok.mono HB2.out.size)
   have HL3:=Lib.hid (HLn.out _ hB3)
   have HB3:=Lib.hid hB3
   clear p0_ p1_ p2_ p3_ HC2 HFs HB2 hW2 HLn hB3
   generalize s.at_=W3 at*
   clear s
   go_wp2_with fail
   refine HL3.out.mono ?_
   rintro e w4 ⟨rfl,b4⟩
   have HV:=Lib.hid (BAns.same (x:=0) (y:=2) HH.out (HB3.out.trans (b4.mono HB3.out.size)))
   clear HL3 HB3 HH b4
   go_wp2
   go_ret2
   exact HV.out
  ·rw[hadd]
   rw[hnl] at hroom
   have hlt:¬(20000:Int)≤(n:Int):=by omega
   have hge2:(n:Int)<20000:=by omega
   rw[hnl] at h1 h2 h3 h7 ⊢
   have hLn:L.length=n:=by rw[←hnl,←h5,List.length_map]
   have HAd:Hid (∀ W,Below w.heap.size w W→Calls Tryz.prog 142 #[.pointer (some ⟨b,0,none⟩),ky.v] W fun e w'=>e=.returned (.tuple #[.int .i64 n,.bool true])∧LeftK W Ft b (l.map Tm.key++[ky]) (.slice A n c) w'):=fun W hW=>by
    have:=addK_new W Ft b (l.map Tm.key) (.slice A n c) ky (fun e=>hxl (hmem.1 e)) (by rw[←hky];exact hkok) (by rw[List.length_map,hnl];omega) (h1.below hW)
    rwa [List.length_map,hnl] at this
   have HFt:Hid (∀ k,Ft k→k<w.heap.size):=h1.lt
   have HX:Hid (∀ w',Turn Ft w w'→NdK w' G ⟨pA,pn,pc,pg,pB,pm,pd,pC,pp,pf⟩ x):=fun w' ht=>hx.turn ht (fun k hk e=>hG k hk ((h2 k).2 (.inl (.inl e))))
   obtain⟨NL,HNL⟩:∃ NL:List Value,Hid (NL=ncells L):=⟨_,rfl⟩
   have HO:Hid (∀ w',Turn Ft w w'→w'.ownsRow 0 50 7 (.slice A n c) n NL):=fun w' ht=>by
    have:=h4.turn9 hLn ht h3
    unfold OwnD at this
    rw[hLn] at this
    rw[HNL.out]
    exact this
   have HGV:Hid (∀ k,(Value.slice A n c).ownBlock=some k→k≠b):=fun k hk e=>h3 k hk (e▸h1.inn)
   have HFin:Hid (∀ w5 w6 w7 P' A' c',LeftK w Ft b (l.map Tm.key++[ky]) (.slice A n c) w5→Below w5.heap.size w5 w6→NdK w6 (fun k=>w5.heap.size≤k) P' x→(w6.alloc (.cells (P'.cells x) 50)).grownBy w7 (Value.slice A n c).ownBlock→w7.ownsRow 0 50 7 (.slice A' (n+1) c') (n+1) (NL++ncells [(P',x)])→
     ((Value.slice A' (n+1) c').ownBlock=(Value.slice A n c).ownBlock∨(Value.slice A' (n+1) c').ownBlock=some (w6.alloc (.cells (P'.cells x) 50)).heap.size)→BAns w b F (l++[x],(n:Int),0) (.returned (.tuple #[.int .i64 n,.int .i64 0])) (w7.setCell ⟨b,2,none⟩ (.slice A' (n+1) c'))):=fun w5 w6 w7 P' A' c' q1 q2 q3 q4 q5 q6=>by
    rw[HNL.out] at q5
    rw[←hky] at q1
    exact⟨rfl,Bk.grow hnl h2 h3 h4 h5 h6 h7 hg hgood q1 q2 q3 q4 q5 q6⟩
   obtain⟨iN,hi,hz0,hz1,hz2⟩:=info_parts infoN9
   have hmx:n+1≤maxLen:=by unfold maxLen;omega
   have hbt:(n+1)*112≤140737488355328:=by omega
   clear h hx hG hgood ho hs hnm hn hT B0 L0 hkok h1 h2 h3 h4 h5 h6 h7 hg hky hpl hmem hadd hxl hnl hroom hLn HH
   go_enter Tryz.func109,Tryz.ntmps109
   go_wp2_with fail
   refine HK.out.mono ?_
   rintro e w1 ⟨rfl,b1⟩
   have hB1:=HB0.out.trans (b1.mono HB0.out.size)
   obtain⟨W2,hW2⟩:∃ W2,w1.alloc (.cells ky.cells 203)=W2:=⟨_,rfl⟩
   have hB2:Below w.heap.size w W2:=by rw[←hW2];exact hB1.alloc hB1.size _
   have hL2:Lies W2 w1.heap.size 203 ky.cells:=by rw[←hW2];exact Lies.new w1 _ _
   have hX2:Lies W2 w.heap.size 50 (NdP.cells ⟨pA,pn,pc,pg,pB,pm,pd,pC,pp,pf⟩ x):=by
    have:=(b1.block _ HL0.out.lt).trans HL0.out
    rw[←hW2]
    exact(Below.heap_alloc _ _ _ (Lies.lt (t:=50) this)).trans this
   have HFs:Hid (∀ s:Lat W2,Calls Tryz.prog 141 #[.pointer (some ⟨b,0,none⟩),.agg #[.int .i64 ky.op,.int .i64 ky.sort,.string ky.name,.string ky.list]] s.at_ fun e w'=>e=.returned (.tuple #[.int .i64 0,.bool false])∧Below s.at_.heap.size s.at_ w'):=fun s=>HF.out s.at_ (hB2.trans (s.ok.mono hB2.size))
   have HC2:Hid (∀ s:Lat W2,Lies s.at_ w1.heap.size 203 ky.cells):=fun s=>(s.ok.block _ hL2.lt).trans hL2
   have HX2:Hid (∀ s:Lat W2,Lies s.at_ w.heap.size 50 (NdP.cells ⟨pA,pn,pc,pg,pB,pm,pd,pC,pp,pf⟩ x)):=fun s=>(s.ok.block _ hX2.lt).trans hX2
   have HB2:=Lib.hid hB2
   have HBk1:Hid (w.heap.size≤w1.heap.size):=hB1.size
   clear HK HF b1 hB1 hB2 hL2 hX2 HB0 HL0 c0 c1 c2 c3 c4 c5 c6
   go_wp2_with fail
   refine calm_region (C:=Latr W2) (by kernel_rfl) (by kernel_rfl) (latr_drew (Below.refl _ W2)) ?_
   have p0_:∀ s:Lat W2,s.at_.cell? ⟨w1.heap.size,0,none⟩=some (.int .i64 ky.op):=fun s=>by rw[(HC2.out s).cell];rfl
   have p1_:∀ s:Lat W2,s.at_.cell? ⟨w1.heap.size,1,none⟩=some (.int .i64 ky.sort):=fun s=>by rw[(HC2.out s).cell];rfl
   have p2_:∀ s:Lat W2,s.at_.cell? ⟨w1.heap.size,2,none⟩=some (.string ky.name):=fun s=>by rw[(HC2.out s).cell];rfl
   have p3_:∀ s:Lat W2,s.at_.cell? ⟨w1.heap.size,3,none⟩=some (.string ky.list):=fun s=>by rw[(HC2.out s).cell];rfl
   repeat(go_big_quiet_step ((go_at_call 141;with_reducible exact calm_call (HFs.out _))))
   refine wpQuiet_nil ?_
   rintro _ ⟨s,rfl⟩
   have hB3:=HB2.out.trans (s.ok.mono HB2.out.size)
   have HL3:=Lib.hid (HLn.out _ hB3)
   have HB3:=Lib.hid hB3
   have HC3:=Lib.hid (HC2.out s)
   have HX3:=Lib.hid (HX2.out s)
   clear p0_ p1_ p2_ p3_ HC2 HX2 HFs HB2 hW2 HLn hB3
   generalize s.at_=W3 at*
   clear s
   go_wp2_with fail
   refine HL3.out.mono ?_
   rintro e w4 ⟨rfl,b4⟩
   have hB4:=HB3.out.trans (b4.mono HB3.out.size)
   have hC4:=(b4.block _ HC3.out.lt).trans HC3.out
   have hX4:=(b4.block _ HX3.out.lt).trans HX3.out
   have p0:=Lies.cell (t:=203) (cs:=ky.cells) hC4 0
   have p1:=Lies.cell (t:=203) (cs:=ky.cells) hC4 1
   have p2:=Lies.cell (t:=203) (cs:=ky.cells) hC4 2
   have p3:=Lies.cell (t:=203) (cs:=ky.cells) hC4 3
   simp at p0 p1 p2 p3
   have HA4:=Lib.hid (HAd.out w4.drew (hB4.trans ⟨rfl,rfl,rfl,Nat.le_refl _,fun _ _=>rfl⟩))
   have HX4:Hid (Lies w4.drew w.heap.size 50 (NdP.cells ⟨pA,pn,pc,pg,pB,pm,pd,pC,pp,pf⟩ x)):=hX4
   have HB4:Hid (Below w.heap.size w w4.drew):=hB4.trans ⟨rfl,rfl,rfl,Nat.le_refl _,fun _ _=>rfl⟩
   have hC4d:Lies w4.drew w1.heap.size 203 ky.cells:=hC4
   have HS4:Hid (w4.drew.cell? ⟨w1.heap.size,0,none⟩=some (.int .i64 ky.op)∧w4.drew.cell? ⟨w1.heap.size,1,none⟩=some (.int .i64 ky.sort)∧w4.drew.cell? ⟨w1.heap.size,2,none⟩=some (.string ky.name)∧w4.drew.cell? ⟨w1.heap.size,3,none⟩=some (.string ky.list)):=⟨p0,p1,p2,p3⟩
   have HS5:Hid (∀ W,LeftK w4.drew Ft b (l.map Tm.key++[ky]) (.slice A n c) W→W.cell? ⟨w1.heap.size,0,none⟩=some (.int .i64 ky.op)∧W.cell? ⟨w1.heap.size,1,none⟩=some (.int .i64 ky.sort)∧W.cell? ⟨w1.heap.size,2,none⟩=some (.string ky.name)∧W.cell? ⟨w1.heap.size,3,none⟩=some (.string ky.list)):=fun W hW=>by
    obtain⟨_,_,q2,_⟩:=hW
    have q:=q2.lies hC4d (fun e=>by have:=HFt.out _ e;have:=HBk1.out;omega)
    exact⟨by rw[q.cell];rfl,by rw[q.cell];rfl,by rw[q.cell];rfl,by rw[q.cell];rfl⟩
   clear HL3 HB3 b4 HC3 HX3 hB4 hC4 hX4 HAd hC4d p0 p1 p2 p3
   go_wp2_with fail
   go_region_held3 (fun W=>W.cell? ⟨w1.heap.size,0,none⟩=some (.int .i64 ky.op)∧W.cell? ⟨w1.heap.size,1,none⟩=some (.int .i64 ky.sort)∧W.cell? ⟨w1.heap.size,2,none⟩=some (.string ky.name)∧W.cell? ⟨w1.heap.size,3,none⟩=some (.string ky.list))
    (first|exact HS4.out|exact HS5.out _ (by assumption))
    (first|(go_at_call 142;refine HA4.out.mono ?_;rintro e w5 ⟨rfl,l5⟩))
   obtain⟨Ft',k1,k2,k3,k4⟩:=id l5
   obtain⟨⟨m5,v5,q5,_⟩,_⟩:=k1
   have y5:=q5.cell 2
   simp at y5
   have z5:=q5.lt
   have hX5:=k2.lies HX4.out (fun e=>by have:=HFt.out _ e;omega)
   have c0:=hX5.cell 0
   have c1:=hX5.cell 1
   have c2:=hX5.cell 2
   have c3:=hX5.cell 3
   have c4:=hX5.cell 4
   have c5:=hX5.cell 5
   have c6:=hX5.cell 6
   simp at c0 c1 c2 c3 c4 c5 c6
   have hl5w:LeftK w Ft b (l.map Tm.key++[ky]) (.slice A n c) w5.drew:=(l5.after (Turn.of_below HB4.out) (fun _ e=>e) (fun _ e=> .inl e)).step ⟨rfl,rfl,rfl,Nat.le_refl _,fun _ _=>rfl⟩
   have ht5:Turn Ft w w5.drew:=by obtain⟨_,_,q,_⟩:=hl5w;exact q
   have HOw:=Lib.hid (ownK w5.drew _ x (HX.out _ ht5))
   have HO6:Hid (∀ w6,Below w5.drew.heap.size w5.drew w6→w6.ownsRow 0 50 7 (.slice A n c) n NL∧b<w6.heap.size∧w6.cell? ⟨b,2,none⟩=some (.slice A n c)):=fun w6 b6=>by
    have l6:=(Turn.of_below (F:=fun _=>False) b6).lies (show Lies w5.drew b 37 _ from q5) id
    exact⟨HO.out w6 (ht5.step b6),l6.lt,by rw[l6.cell];rfl⟩
   have HA7:Hid (∀ w6 w7 cs,Below w5.drew.heap.size w5.drew w6→(w6.alloc (.cells cs 50)).grownBy w7 (Value.slice A n c).ownBlock→b<w7.heap.size∧w7.cell? ⟨b,2,none⟩=some (.slice A n c)∧w7.frozen? ⟨b,2,none⟩=false):=fun w6 w7 cs b6 g7=>by
    have l6:=(Turn.of_below (F:=fun _=>False) b6).lies (show Lies w5.drew b 37 _ from q5) id
    have l7:=((Turn.refl (fun _=>False) w6).alloc (.cells cs 50)).lies l6 id
    have l8:=(Turn.of_grown (F:=fun k=>(Value.slice A n c).ownBlock=some k) g7 (fun g e _=>e)).lies l7 (fun e=>HGV.out b e rfl)
    exact⟨l8.lt,by rw[l8.cell];rfl,l8.free 2⟩
   have HL5:=Lib.hid hl5w
   clear k2 k3 k4 q5 hX5 hl5w ht5 l5 HX HO HGV HX4 HB4 HA4 HS4 HS5 HFt HBk1
   go_wp2_with fail
   go_region_law (first
    |(refine step_append_wide rfl (.tmp 40) (.tmp 43) 35 rfl 0 50 iN (.agg #[.int .i64 0,.int .i64 0,.slice none 0 0,.string ByteArray.empty,.bool false,.slice none 0 0,.slice none 0 0]) 7 112 Tryz.underlying35 hi hz0 hz1 hz2 rfl (by decide) (.slice A n c) n NL (by simp[Act.eval]) (O6.out.alloc _) ⟨w6.heap.size,0,none⟩ 1 1 (ncells [(⟨qA,qn,qc,qg,qB,qm,qd,qC,qp,qf⟩,x)]) (by simp[Act.eval]) rfl (fun j u hu=>nd_at _ x w6 j u hu) (nc_one _) hmx hbt (Nat.zero_le _) ?_;intro A2 c2' w7 o7 g7 a7;obtain⟨z7,y7,f7⟩:=HA7.out w6 w7 _ B6.out g7;have O7:=Lib.hid o7;have A7:=Lib.hid a7;have G7:=Lib.hid g7;clear o7 a7 g7)
    |(go_simp;go_at_call 35;refine HOw.out.mono ?_;rintro e w6 ⟨⟨P',rfl,hP'⟩,b6⟩;obtain⟨qA,qn,qc,qg,qB,qm,qd,qC,qp,qf⟩:=P';obtain⟨o6,z6,y6⟩:=HO6.out w6 b6;have O6:=Lib.hid o6;have B6:=Lib.hid b6;have P6:=Lib.hid hP';clear o6 b6 hP'))
   all_goals
    have HV:=Lib.hid (HFin.out w5.drew w6 w7 ⟨qA,qn,qc,qg,qB,qm,qd,qC,qp,qf⟩ A2 c2' HL5.out B6.out P6.out G7.out O7.out A7.out)
    clear HFin HL5 B6 P6 G7 O7 A7 O6 HO6 HA7 HOw c0 c1 c2 c3 c4 c5 c6 y5 z5 y6 z6 y7 z7 f7 HNL
    go_wp2
    go_ret2
    exact HV.out
end Go.Proofs.YtcgaeknikfaghaaGreatDoor
