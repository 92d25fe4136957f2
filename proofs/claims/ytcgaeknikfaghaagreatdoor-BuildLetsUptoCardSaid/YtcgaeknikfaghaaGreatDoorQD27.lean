/- What the proofs of this claim use, text by text. -/
import Derived.Test.YtcgaeknikfaghaaGreatDoorQD26
import Derived.Test.YtcgaeknikfaghaaGreatDoorRows
import Derived.Test.YtcgaeknikfaghaaGreatDoorQD21
import Derived.Deep.Slices
import Derived.Deep.Fields
import Derived.ChangeSame
import Derived.WideShapes
set_option linter.unusedSimpArgs false
set_option linter.unusedVariables false
set_option maxRecDepth 100000
set_option maxHeartbeats 25600000
namespace Go.Proofs.YtcgaeknikfaghaaGreatDoor
open Go.RowKit
inductive Sx.Fine:Sx→Prop
 |mk (x:Sx):x.T.size≤1048576→x.L.length≤1000→(∀ y∈x.L,Sx.Fine y)→Sx.Fine x
theorem Sx.Fine.T {x:Sx} (h:Sx.Fine x):x.T.size≤1048576:=by cases h;assumption
theorem Sx.Fine.len {x:Sx} (h:Sx.Fine x):x.L.length≤1000:=by cases h;assumption
theorem Sx.Fine.all {x:Sx} (h:Sx.Fine x):∀ y∈x.L,Sx.Fine y:=by cases h;assumption
theorem Bd.binds_fine:∀ {l:List Sx} {m:List (ByteArray×Sx)},(∀ y∈l,Sx.Fine y)→Bd.binds l=some m→∀ q∈m,q.1.size≤1048576∧Sx.Fine q.2
 |[],m,_,h=>by
  cases h
  intro q hq
  cases hq
 |x::l,m,hf,h=>by
  rw[Bd.binds] at h
  cases h1:Bd.bind1 x with
  |none=>rw[h1] at h;cases h
  |some b=>
   rw[h1] at h
   cases h2:Bd.binds l with
   |none=>rw[h2] at h;cases h
   |some k=>
    rw[h2] at h
    cases h
    intro q hq
    rcases List.mem_cons.1 hq with rfl|hq
    ·have hx:=(hf x (by simp)).all
     unfold Bd.bind1 at h1
     split at h1
     ·rename_i n t e
      rw[e] at hx
      split at h1
      ·cases h1
       exact⟨(hx n (by simp)).T,hx t (by simp)⟩
      ·cases h1
     ·cases h1
    ·exact Bd.binds_fine (fun y hy=>hf y (by simp[hy])) h2 q hq
theorem Mk.says_lt {D:List Dc} {t:ByteArray} {j n:Nat}:∀ (sc:List Scp),(∀ x∈sc,x.ahead≤n)→Mk.find D t sc=.decl j→j<n
 |[],_,h=>by cases h
 |x::l,ha,h=>by
  rw[Mk.find] at h
  split at h
  ·cases h
  ·split at h
   ·cases hd:Bd.decl D t x.ahead with
    |none=>rw[hd] at h;cases h
    |some i=>
     rw[hd] at h
     cases h
     rcases Pl.decl D t x.ahead with⟨e,_⟩|⟨j',l',e,e2⟩
     ·rw[e] at hd;cases hd
     ·rw[e] at hd
      cases hd
      have:=Pl.lt (D:=D) (s:=t) (k:=x.ahead) (j:Int) (by rw[e2];simp)
      have:=ha x (by simp)
      omega
   ·exact Mk.says_lt l (fun y hy=>ha y (by simp[hy])) h
theorem klist10 (E:Mk.Env) (hE:E.Ok) (w:World) (M:Nat) (Y:Mk.Lay) (s:Ms) (bs:List Fr) (f:Fr) (A:Option Addr) (c:Nat) (l:List Sx) (h:Mk.Rep E w M Y s) (hf:s.fr=bs++[f]) (hs:Mk.Small s) (ha:∀ x∈s.sc,x.ahead≤E.n)
  (hr:TreeL w (fun b _=>¬Mk.foot M Y b) A l) (hle:l.length≤c∧c≤maxLen) (hln:l.length≤1000) (hfi:∀ y∈l,Sx.Fine y):
  Calls Tryz.prog 131 #[.pointer (some ⟨M,0,none⟩),.slice A l.length c] w fun x w'=>Mk.Ans E w M Y (Mk.list E.D s l) x w':=by
 obtain⟨W0,hW0⟩:∃ W0,w.alloc (.cells #[.pointer (some ⟨M,0,none⟩)] 74)=W0:=⟨_,rfl⟩
 have hB0:Below w.heap.size w W0:=by rw[←hW0];exact(Below.refl _ w).alloc (Nat.le_refl _) _
 have hL0:Lies W0 w.heap.size 74 #[.pointer (some ⟨M,0,none⟩)]:=by rw[←hW0];exact Lies.new w _ _
 have hup:∀ {W:World},Below W0.heap.size W0 W→Below w.heap.size w W:=fun hW=>hB0.trans (hW.mono hB0.size)
 have HS:Hid (∀ W,Below W0.heap.size W0 W→Mk.Left E w M Y s W):=fun W hW=>Mk.Left.same h (hup hW)
 cases l with
 |nil=>
  have HV:Hid (Mk.Ans E w M Y (Mk.list E.D s []) (.returned (.int .i64 1)) W0):=⟨rfl,HS.out W0 (Below.refl _ _)⟩
  generalize Mk.list E.D s []=R at HV ⊢
  clear h hf hs ha hr hle hln hfi hB0 hL0 hup HS
  go_enter Tryz.func131,Tryz.ntmps131
  go_wp2
  go_ret
  exact HV.out
 |cons x r=>
  have hR:Mk.list E.D s (x::r)=if x.list=true∨x.k≠3 then(s,(101:Int))
   else if x.T.data.toList=[108,101,116] then Mk.let_ s r
   else if Bd.op x.T.data.toList r.length≠0 then(Mk.nest s r (.op (Bd.op x.T.data.toList r.length)),0)
   else if Bd.reserved x.T.data.toList=true then(s,101)
   else match Mk.says E.D s.sc x.T with
    | .decl j=>if(E.D[j]?.map (·.mac)).getD false=true then(Mk.nest s r (.fn j),0) else(s,100)
    |_=>(s,100):=rfl
  obtain⟨p1,hp1⟩:∃ p1,(if c=1 then A else A.map (·.add 6))=p1:=⟨_,rfl⟩
  have hcl:r.length+1≤c:=hle.1
  have hcut:∀ W:World,(Instr.slice 25 (.slice A (r.length+1) c) (some (.int .i64 1)) none none).run Tryz.prog W=.ok (.slice p1 r.length (c-1)) W:=fun W=>by
   rw[←hp1]
   exact cut_x W (by omega)
  have htail:TreeL w (fun b _=>¬Mk.foot M Y b) p1 r:=by rw[←hp1];exact hr.tail_ hcl
  have hle2:r.length≤c-1∧c-1≤maxLen:=⟨by omega,by have:=hle.2;omega⟩
  have hLet:∀ b t,r=[b,t]→b.L.length≤1000∧∀ m,Bd.binds b.L=some m→∀ q∈m,q.1.size≤maxLen:=fun b t e=>by
   have hb:Sx.Fine b:=hfi b (by rw[e];simp)
   exact⟨hb.len,fun m hm q hq=>by have:=(Bd.binds_fine hb.all hm q hq).1;unfold maxLen;omega⟩
  have HLet:Hid (∀ W,Below W0.heap.size W0 W→Calls Tryz.prog 159 #[.pointer (some ⟨M,0,none⟩),.slice p1 r.length (c-1)] W fun x w'=>Mk.Ans E w M Y (Mk.let_ s r) x w'):=fun W hW=>
   (klet E W M Y s bs f p1 (c-1) r (h.below (hup hW)) hf hs (htail.kept (hup hW)) hle2 hLet).mono fun x w' q=>q.up (hup hW)
  have HNest:Hid (∀ W v th,Below W0.heap.size W0 W→ThAs W (fun k=>¬Mk.foot M Y k) M v th→Calls Tryz.prog 160 #[.pointer (some ⟨M,0,none⟩),.slice p1 r.length (c-1),v] W fun x w'=>Mk.Ans E w M Y (Mk.nest s r th,0) x w'):=fun W v th hW hth=>
   (knest E W M Y s bs f p1 (c-1) v r th (h.below (hup hW)) hf (by have:=hs.fr;rw[hf,List.length_append] at this;omega) (by have:=hs.sc;omega) (by have:=(hs.ids f (by rw[hf];simp)).2;omega) hle2 (htail.kept (hup hW)) hth).mono fun x w' q=>q.up (hup hW)
  have hxT:x.T.size≤1048576:=(hfi x (by simp)).T
  have HSay:Hid (∀ W,Below W0.heap.size W0 W→Calls Tryz.prog 164 #[.pointer (some ⟨M,0,none⟩),.string x.T] W fun e w'=>e=.returned (.agg #[.int .i64 (Mk.says E.D s.sc x.T).cells.1,.int .i64 (Mk.says E.D s.sc x.T).cells.2])∧Below W.heap.size W w'):=fun W hW=>
   ksays E hE W M Y s x.T (h.below (hup hW)) (by unfold maxLen;omega) ha (by have:=hs.sc;omega)
  have HFl:Hid (∀ W,Below W0.heap.size W0 W→W.cell? ⟨w.heap.size,0,none⟩=some (.pointer (some ⟨M,0,none⟩))∧w.heap.size<W.heap.size):=fun W hW=>by
   have hl:=(Turn.of_below (F:=fun _=>False) hW).lies hL0 id
   exact⟨by rw[hl.cell];rfl,hl.lt⟩
  have HOut:Hid (∀ k,w.heap.size≤k→¬Mk.foot M Y k):=h.out
  have HLi:Hid (∀ W,Below W0.heap.size W0 W→Lies W w.heap.size 74 #[.pointer (some ⟨M,0,none⟩)]):=fun W hW=>(Turn.of_below (F:=fun _=>False) hW).lies hL0 id
  have HDc:Hid (∀ j,j<E.n→∃ b off d,E.A=some ⟨b,off,none⟩∧E.D[j]?=some d∧∀ W,Below W0.heap.size W0 W→W.cell? ⟨M,1,none⟩=some (.slice E.A E.n E.c)∧W.cell? ⟨b,off+j*10+2,none⟩=some (.bool d.mac)):=fun j hj=>by
   obtain⟨b,off,P,d,e,_,_,hD,_,hc⟩:=hE.dc.get hj
   exact⟨b,off,d,e,hD,fun W hW=>⟨by rw[(h.below (hup hW)).own.cell];rfl,(hc W (h.below (hup hW)).pl).2 2 _ rfl⟩⟩
  have HLt:Hid (∀ j,Mk.says E.D s.sc x.T=.decl j→j<E.n):=fun j e=>Mk.says_lt s.sc.reverse (fun y hy=>ha y (List.mem_reverse.1 hy)) e
  cases hr with
  |cons b off _ _ A' c' s1 _ _ _ _=>
  obtain⟨hb,d0,d1,d2,d3,d4,d5⟩:=s1
  have g:=fun(j:Nat)=>hB0.cell (p:=⟨b,j,none⟩) hb
  have d0:=(g _).trans d0
  have d1:=(g _).trans d1
  have d2:=(g _).trans d2
  have d3:=(g _).trans d3
  have d4:=(g _).trans d4
  have d5:=(g _).trans d5
  have hNm:=knameOf W0 x A' c'
  unfold sval at hNm
  obtain⟨rn,hrn⟩:∃ rn,r.length=rn:=⟨_,rfl⟩
  obtain⟨xn,hxn⟩:∃ xn,x.L.length=xn:=⟨_,rfl⟩
  have hg:(x::r).length=rn+1:=by rw[List.length_cons,hrn]
  rw[hg]
  rw[hrn] at hcut HLet HNest hR hcl hle2
  rw[hxn] at d5 hNm
  have hrn1:rn+1≤1000:=by rw[←hg];exact hln
  obtain⟨EA,hEA⟩:∃ EA,E.A=EA:=⟨_,rfl⟩
  have hsp:(0:Int)<((rn+1:Nat):Int):=by omega
  have hne:(((rn+1:Nat):Int) == 0)=false:=by simp;omega
  by_cases hsy:x.list=false∧x.k=3
  ·rw[if_neg (by rw[hsy.1,hsy.2];simp)] at hR
   rw[if_pos hsy,decide_eq_true hsy] at hNm
   have HNm:=Lib.hid hNm
   have HRu:=Lib.hid hR
   clear hNm hR
   generalize Mk.list E.D s (x::r)=R at HRu ⊢
   have hTl:x.T.size≤1048576:=hxT
   obtain⟨T,hT⟩:∃ T,x.T=T:=⟨_,rfl⟩
   rw[hT] at HNm HRu HSay HLt d2
   have HOp:Hid (∀ W,Calls Tryz.prog 53 #[.string T,.int .i64 (rn:Int)] W fun e w'=>e=.returned (.int .i64 (Bd.op T.data.toList rn))∧w'=W):=fun W=>koperation T rn W
   have HRs:Hid (∀ W,Calls Tryz.prog 21 #[.string T] W fun e w'=>e=.returned (.bool (Bd.reserved T.data.toList))∧w'=W):=fun W=>kreserved T W
   have HAl:Hid (∀ W o,Below W0.heap.size W0 W→Below W0.heap.size W0 (W.alloc o)):=fun W o hW=>hW.alloc hW.size o
   have HSz:Hid (∀ W,Below W0.heap.size W0 W→w.heap.size≤W.heap.size):=fun W hW=>(hup hW).size
   have hmf:∀ (fn:Fn) (first cap:Array Value) (w:World),(Instr.makeFunc fn first cap).run Tryz.prog w=.ok (.func fn first cap) w:=fun _ _ _ _=>rfl
   clear h hf hs ha hle hln hfi hB0 hL0 hup hp1 htail hle2 hLet hxT hb g hrn hxn hg hrn1 hsy hT hTl
   by_cases hlet:T.data.toList=[108,101,116]
   ·have hb:=lit_yes hlet
    have hR2:R=Mk.let_ s r:=by rw[HRu.out,if_pos hlet]
    rw[←hR2] at HLet
    clear hR2 HRu HNest HSay HOut HLi HDc HLt HOp HRs HS HAl HSz hEA hlet hcl
    go_enter Tryz.func131,Tryz.ntmps131
    go_wp2_with fail
    refine HNm.out.mono ?_
    rintro e w1 ⟨rfl,b1⟩
    obtain⟨f1,f2⟩:=HFl.out w1 b1
    have HL1:=Lib.hid (HLet.out w1 b1)
    clear HNm HFl HLet b1 d0 d1 d2 d3 d4 d5
    go_wp2_with fail
    refine HL1.out.mono ?_
    rintro e w2 ⟨rfl,v⟩
    have V:=Lib.hid v
    clear HL1 v f1 f2
    go_wp2
    go_ret
    exact⟨rfl,V.out⟩
   ·have hb:=lit_no hlet
    have hR1:=HRu.out
    rw[if_neg hlet] at hR1
    obtain⟨o,ho⟩:∃ o,Bd.op T.data.toList rn=o:=⟨_,rfl⟩
    rw[ho] at hR1 HOp
    clear HLet hlet HRu ho
    by_cases h0:o=0
    ·subst h0
     rw[if_neg (by simp)] at hR1
     by_cases hres:Bd.reserved T.data.toList=true
     ·rw[if_pos hres] at hR1
      rw[hres] at HRs
      subst hR1
      clear HNest HSay HOut HLi HDc HLt HSz hEA hres HFl hcl
      go_enter Tryz.func131,Tryz.ntmps131
      go_wp2_with fail
      refine HNm.out.mono ?_
      rintro e w1 ⟨rfl,b1⟩
      have HE:=Lib.hid (HS.out _ (HAl.out w1 (.cells #[.int .i64 0] 3) b1))
      clear HNm b1 d0 d1 d2 d3 d4 d5 HS HAl
      go_wp2_with fail
      refine(HOp.out _).mono ?_
      rintro e w2 ⟨rfl,rfl⟩
      clear HOp
      go_wp2_with fail
      refine(HRs.out _).mono ?_
      rintro e w3 ⟨rfl,rfl⟩
      clear HRs
      go_wp2
      go_ret
      exact⟨rfl,HE.out⟩
     ·rw[if_neg hres] at hR1
      have hrf:Bd.reserved T.data.toList=false:=by simpa using hres
      rw[hrf] at HRs
      clear hres hrf
      obtain⟨q,hq⟩:∃ q,Mk.says E.D s.sc T=q:=⟨_,rfl⟩
      rw[hq] at HSay HLt hR1
      have hkeep:True:=trivial
      cases q with
      |decl j=>
       obtain⟨b9,off9,d,e9,hd,HC9'⟩:=HDc.out j (HLt.out j rfl)
       have HC9:=Lib.hid HC9'
       rw[e9] at HC9
       have hjn:(j:Int)<(E.n:Int):=by have:=HLt.out j rfl;omega
       have hj0:(0:Int)≤(j:Int):=by omega
       simp only[hd,Option.map_some,Option.getD_some] at hR1
       simp only[Mng.cells] at HSay
       obtain⟨mac,hmac⟩:∃ mac,d.mac=mac:=⟨_,rfl⟩
       rw[hmac] at hR1 HC9
       have HMF:Hid (∀ W o,Below W0.heap.size W0 W→M<W.heap.size∧M<(W.alloc o).heap.size):=fun W o hW=>by
        obtain⟨Y',r1,_⟩:=HS.out W hW
        obtain⟨Y2,r2,_⟩:=HS.out _ (HAl.out W o hW)
        exact⟨r1.own.lt,r2.own.lt⟩
       clear HDc HLt hEA HC9' e9 hd hmac hq hkeep hcl
       cases mac with
       |true=>
        rw[if_pos rfl] at hR1
        subst hR1
        clear HS
        go_enter Tryz.func131,Tryz.ntmps131
        go_wp2_with fail
        refine HNm.out.mono ?_
        rintro e w1 ⟨rfl,b1⟩
        have B1:=Lib.hid (HAl.out w1 (.cells #[.int .i64 0] 3) b1)
        clear HNm b1 d0 d1 d2 d3 d4 d5
        go_wp2_with fail
        refine(HOp.out _).mono ?_
        rintro e w2 ⟨rfl,rfl⟩
        clear HOp
        go_wp2_with fail
        refine(HRs.out _).mono ?_
        rintro e w3 ⟨rfl,rfl⟩
        clear HRs
        obtain⟨f1,f2⟩:=HFl.out _ B1.out
        have HSa:=Lib.hid (HSay.out _ B1.out)
        go_wp2_with fail
        refine HSa.out.mono ?_
        rintro e w3 ⟨rfl,b3⟩
        have B3:=Lib.hid (B1.out.trans (b3.mono B1.out.size))
        clear HSa HSay b3 f1 f2
        obtain⟨W4,hW4⟩:∃ W4,w3.alloc (.cells #[.int .i64 2,.int .i64 (j:Int)] 218)=W4:=⟨_,rfl⟩
        have hb4:=HAl.out w3 (.cells #[.int .i64 2,.int .i64 (j:Int)] 218) B3.out
        rw[hW4] at hb4
        have hl4:Lies W4 w3.heap.size 218 #[.int .i64 2,.int .i64 (j:Int)]:=by rw[←hW4];exact Lies.new w3 _ _
        obtain⟨f1,f2⟩:=HFl.out W4 hb4
        obtain⟨m1,m2⟩:=HC9.out W4 hb4
        have mM:=(HMF.out W4 (.cells #[] 3) hb4).1
        have k0:=hl4.cell 0
        have k1:=hl4.cell 1
        have kl:=hl4.lt
        simp at k0 k1
        have HN:Hid (∀ nq,Calls Tryz.prog 160 #[.pointer (some ⟨M,0,none⟩),.slice p1 rn (c-1),.func (.func 165) #[] #[.pointer (some ⟨w.heap.size,0,none⟩),.pointer (some ⟨w3.heap.size,0,none⟩)]] (W4.drewN nq) fun x w'=>Mk.Ans E w M Y (Mk.nest s r (.fn j),0) x w'):=fun nq=>
         HNest.out _ _ (.fn j) (below_drewN hb4 nq) ⟨w.heap.size,w3.heap.size,rfl,HOut.out _ (Nat.le_refl _),HOut.out _ (HSz.out _ B3.out),HLi.out _ (below_drewN hb4 nq),(Turn.of_below (F:=fun _=>False) (below_drewN (Below.refl _ W4) nq)).lies hl4 id⟩
        clear hb4 hl4 HNest HLi HOut HFl HAl HSz HC9 HMF B1 B3
        go_wp2_with fail
        go_quiet (fail)
        go_wp2_with fail
        refine(HN.out _).mono ?_
        rintro e w5 ⟨rfl,v⟩
        have V:=Lib.hid v
        clear HN v f1 f2 m1 m2 k0 k1
        go_wp2
        go_ret
        exact⟨rfl,V.out⟩
       |false=>
        rw[if_neg (by decide)] at hR1
        subst hR1
        clear HNest HLi HOut
        go_enter Tryz.func131,Tryz.ntmps131
        go_wp2_with fail
        refine HNm.out.mono ?_
        rintro e w1 ⟨rfl,b1⟩
        have B1:=Lib.hid (HAl.out w1 (.cells #[.int .i64 0] 3) b1)
        clear HNm b1 d0 d1 d2 d3 d4 d5
        go_wp2_with fail
        refine(HOp.out _).mono ?_
        rintro e w2 ⟨rfl,rfl⟩
        clear HOp
        go_wp2_with fail
        refine(HRs.out _).mono ?_
        rintro e w3 ⟨rfl,rfl⟩
        clear HRs
        obtain⟨f1,f2⟩:=HFl.out _ B1.out
        have HSa:=Lib.hid (HSay.out _ B1.out)
        go_wp2_with fail
        refine HSa.out.mono ?_
        rintro e w3 ⟨rfl,b3⟩
        have B3:=Lib.hid (B1.out.trans (b3.mono B1.out.size))
        clear HSa HSay b3 f1 f2
        obtain⟨W4,hW4⟩:∃ W4,w3.alloc (.cells #[.int .i64 2,.int .i64 (j:Int)] 218)=W4:=⟨_,rfl⟩
        have hb4:=HAl.out w3 (.cells #[.int .i64 2,.int .i64 (j:Int)] 218) B3.out
        rw[hW4] at hb4
        have hl4:Lies W4 w3.heap.size 218 #[.int .i64 2,.int .i64 (j:Int)]:=by rw[←hW4];exact Lies.new w3 _ _
        obtain⟨f1,f2⟩:=HFl.out W4 hb4
        obtain⟨m1,m2⟩:=HC9.out W4 hb4
        have mM:=(HMF.out W4 (.cells #[] 3) hb4).1
        have k0:=hl4.cell 0
        have k1:=hl4.cell 1
        have kl:=hl4.lt
        simp at k0 k1
        have HV:Hid (∀ nq,Mk.Left E w M Y s (W4.drewN nq)):=fun nq=>HS.out _ (below_drewN hb4 nq)
        clear hb4 hl4 HFl HAl HSz HC9 HMF B1 B3 HS
        go_wp2_with fail
        go_quiet (fail)
        go_wp2
        go_ret
        exact⟨rfl,HV.out _⟩
      |_=>
       simp only[Mng.cells] at HSay
       simp only at hR1
       subst hR1
       clear HDc HLt hEA hq hkeep hcl HNest HLi HOut
       go_enter Tryz.func131,Tryz.ntmps131
       go_wp2_with fail
       refine HNm.out.mono ?_
       rintro e w1 ⟨rfl,b1⟩
       have B1:=Lib.hid (HAl.out w1 (.cells #[.int .i64 0] 3) b1)
       clear HNm b1 d0 d1 d2 d3 d4 d5
       go_wp2_with fail
       refine(HOp.out _).mono ?_
       rintro e w2 ⟨rfl,rfl⟩
       clear HOp
       go_wp2_with fail
       refine(HRs.out _).mono ?_
       rintro e w3 ⟨rfl,rfl⟩
       clear HRs
       obtain⟨f1,f2⟩:=HFl.out _ B1.out
       have HSa:=Lib.hid (HSay.out _ B1.out)
       go_wp2_with fail
       refine HSa.out.mono ?_
       rintro e w3 ⟨rfl,b3⟩
       have B3:=Lib.hid (B1.out.trans (b3.mono B1.out.size))
       have HV:Hid (∀ o nq,Mk.Left E w M Y s ((w3.alloc o).drewN nq)):=fun o nq=>HS.out _ (below_drewN (HAl.out w3 o B3.out) nq)
       clear HSa HSay b3 f1 f2 B3 HS HAl HSz HFl B1
       go_wp2_with fail
       go_quiet (fail)
       go_wp2
       go_ret
       exact⟨rfl,HV.out _ _⟩
    ·rw[if_pos h0] at hR1
     subst hR1
     have hne2:(o != 0)=true:=by simp[h0]
     clear HSay HDc HLt HRs HS hEA h0 hcl
     go_enter Tryz.func131,Tryz.ntmps131
     go_wp2_with fail
     refine HNm.out.mono ?_
     rintro e w1 ⟨rfl,b1⟩
     have hb2:=HAl.out w1 (.cells #[.int .i64 o] 3) b1
     obtain⟨f1,f2⟩:=HFl.out _ hb2
     have HN:=Lib.hid (HNest.out (w1.alloc (.cells #[.int .i64 o] 3)) (.func (.func 161) #[] #[.pointer (some ⟨w.heap.size,0,none⟩),.pointer (some ⟨w1.heap.size,0,none⟩)]) (.op o) hb2 ⟨w.heap.size,w1.heap.size,rfl,HOut.out _ (Nat.le_refl _),HOut.out _ (HSz.out _ b1),HLi.out _ hb2,Lies.new w1 _ _⟩)
     clear HNm b1 hb2 d0 d1 d2 d3 d4 d5 HNest HOut HLi HAl HSz HFl
     go_wp2_with fail
     refine(HOp.out _).mono ?_
     rintro e w2 ⟨rfl,rfl⟩
     clear HOp
     go_wp2_with fail
     refine HN.out.mono ?_
     rintro e w3 ⟨rfl,v⟩
     have V:=Lib.hid v
     clear HN v f1 f2
     go_wp2
     go_ret
     exact⟨rfl,V.out⟩
  ·rw[if_pos (by
    by_cases h1:x.list=true
    ·exact .inl h1
    ·exact .inr fun h2=>hsy ⟨by simpa using h1,h2⟩)] at hR
   rw[if_neg hsy,decide_eq_false hsy] at hNm
   have HNm:=Lib.hid hNm
   have HE:Hid (∀ W,Below W0.heap.size W0 W→Mk.Ans E w M Y (Mk.list E.D s (x::r)) (.returned (.int .i64 101)) W):=fun W hW=>by rw[hR];exact⟨rfl,HS.out W hW⟩
   generalize Mk.list E.D s (x::r)=R at HE ⊢
   clear h hf hs ha hle hln hfi hB0 hL0 hup HS hR hp1 hcl hcut htail hle2 hLet HLet HNest hxT HSay HFl HOut HLi HDc HLt hb g hNm hrn hxn hg hrn1 hEA hsy
   go_enter Tryz.func131,Tryz.ntmps131
   go_wp2_with fail
   refine HNm.out.mono ?_
   rintro e w1 ⟨rfl,b1⟩
   have HE1:=Lib.hid (HE.out w1 b1)
   clear HNm b1 d0 d1 d2 d3 d4 d5 HE
   go_wp2
   go_ret
   exact HE1.out
end Go.Proofs.YtcgaeknikfaghaaGreatDoor
namespace Go.Proofs.YtcgaeknikfaghaaGreatDoor
open Go.RowKit Go.ChangeShapes Go.WideShapes Go.Deep
theorem bulk_le {H:Type} {d:DataW H} {l:List (DataW H)} (h:d∈l):Rows.uptoBulk d≤Rows.uptoBulkAll l:=by
 induction l with
 |nil=>cases h
 |cons x r ih=>
  simp only[Rows.uptoBulkAll]
  cases List.mem_cons.1 h with
  |inl e=>subst e;omega
  |inr e=>have:=ih e;omega
theorem open_sx {H:Type} {enc:TypeId×Value→H} {W:World}:∀ (N fuel:Nat) (cs:List Value) (y:DataW H×List MemPlace),fuel≤N→DataW.trod enc Tryz.prog W 0 (fun _=>true) true fuel 27 cs=some y→
  ∃ x A c,cs=scells x A c∧STree W AnyP x A c∧x.size≤Rows.uptoBulk y.1∧x.wide≤Rows.uptoBulk y.1:=by
 intro N
 induction N with
 |zero=>
  intro fuel cs y hN h
  obtain⟨_,_,e,_⟩:=DataW.trod_struct Tryz.underlying27 h
  omega
 |succ N ih=>
  intro fuel cs y hN h
  obtain⟨xs,n,hfu,hy,hlen,hxl,hf⟩:=DataW.trod_struct Tryz.underlying27 h
  rw[show Tryz.prog.cellsOf 27=6 by kernel_rfl] at hlen
  match xs,hxl,cs,hlen with
  |[y0,y1,y2,y3],_,[v0,v1,v2,v3,v4,v5],_=>
   have e0:DataW.trod enc Tryz.prog W 0 (fun _=>true) true n 4 [v0]=some y0:=hf 0 _ rfl
   have e1:DataW.trod enc Tryz.prog W 0 (fun _=>true) true n 24 [v1,v2,v3]=some y1:=hf 1 _ rfl
   have e2:DataW.trod enc Tryz.prog W 0 (fun _=>true) true n 3 [v4]=some y2:=hf 2 _ rfl
   have e3:DataW.trod enc Tryz.prog W 0 (fun _=>true) true n 25 [v5]=some y3:=hf 3 _ rfl
   obtain⟨b0,hb0,hy0⟩:=DataW.trod_bool Tryz.underlying4 e0
   obtain⟨z4,hz4,hy2,_⟩:=DataW.trod_int Tryz.underlying3 e2
   obtain⟨ts,k,_,hty,_,htl,htf⟩:=DataW.trod_struct Tryz.underlying24 e1
   match ts,htl with
   |[t0,t1,t2],_=>
    have f0:DataW.trod enc Tryz.prog W 0 (fun _=>true) true k 3 [v1]=some t0:=htf 0 _ rfl
    have f1:DataW.trod enc Tryz.prog W 0 (fun _=>true) true k 9 [v2]=some t1:=htf 1 _ rfl
    have f2:DataW.trod enc Tryz.prog W 0 (fun _=>true) true k 3 [v3]=some t2:=htf 2 _ rfl
    obtain⟨z1,hz1,ht0,_⟩:=DataW.trod_int Tryz.underlying3 f0
    obtain⟨T,hT,ht1,_⟩:=DataW.trod_string Tryz.underlying9 f1
    obtain⟨z3,hz3,ht2,_⟩:=DataW.trod_int Tryz.underlying3 f2
    injection hb0 with hb0
    injection hz4 with hz4
    injection hz1 with hz1
    injection hT with hT
    injection hz3 with hz3
    subst hb0 hz4 hz1 hT hz3
    clear e0 e1 e2 f0 f1 f2 hf htf
    have hTs:T.size=T.data.toList.length:=by rw[Array.length_toList];rfl
    rcases DataW.trod_slice Tryz.underlying25 e3 with⟨hcs,h3⟩|⟨a,len,cap,elems,rest,n2,hn2,hcs,h3,_,hl,hm,hel,hi,_,_⟩
    ·injection hcs with hcs
     subst hcs
     refine⟨⟨b0,z1,T,z3,z4,[]⟩,none,0,rfl,⟨⟨Nat.le_refl _,Nat.zero_le _⟩,.nil _⟩,?_,?_⟩
     ·rw[hy,Sx.size_eq]
      simp only[Sx.sizes,Rows.uptoBulk]
      omega
     ·rw[hy,Sx.wide_eq]
      simp only[Sx.wides,Rows.uptoBulk,Rows.uptoBulkAll,List.map_cons,List.map_nil,hty,ht0,ht1,ht2,hy0,hy2,h3]
      omega
    ·injection hcs with hcs
     subst hcs
     have each:∀ i,i<len→∃ q cs',elems[i]?=some q∧W.cells? 0 (a.add (i*6)) 6=some cs'∧∃ x A c,cs'=scells x A c∧STree W AnyP x A c∧x.size≤Rows.uptoBulk q.1∧x.wide≤Rows.uptoBulk q.1:=by
      intro i hlt
      have hii:=hi i hlt
      rw[show Tryz.prog.cellsOf 27=6 by kernel_rfl] at hii
      obtain⟨q,hq⟩:∃ q,elems[i]?=some q:=⟨_,List.getElem?_eq_getElem (by omega)⟩
      rw[hq] at hii
      obtain⟨cs',h1,h2⟩:=Option.bind_eq_some_iff.1 hii
      exact⟨q,cs',hq,h1,ih n2 cs' q (by omega) h2⟩
     have row:∃ L:List Sx,L.length=len∧TreeL W AnyP (some a) L∧Sx.sizes L≤Rows.uptoBulkAll (elems.map (·.1))∧Sx.wides L≤Rows.uptoBulkAll (elems.map (·.1)):=by
      cases len with
      |zero=>exact⟨[],rfl,.nil _,by simp[Sx.sizes],by simp[Sx.wides]⟩
      |succ len=>
       obtain⟨_,cs0,_,hc0,x0,A0,c0,rfl,_⟩:=each 0 (by omega)
       obtain⟨_,_,hcell0⟩:=World.cells?_some hc0
       have hc00:=hcell0 0 (by omega)
       obtain⟨b,off,spot⟩:=a
       have hspot:spot=none:=by simpa [Addr.add] using World.cell?_spot hc00
       subst hspot
       clear hcell0 hc00 hc0
       have go:∀ m i,i+m=len+1→∃ L:List Sx,L.length=m∧TreeL W AnyP (some ⟨b,off+i*6,none⟩) L∧Sx.sizes L≤Rows.uptoBulkAll ((elems.drop i).map (·.1))∧Sx.wides L≤Rows.uptoBulkAll ((elems.drop i).map (·.1)):=by
        intro m
        induction m with
        |zero=>intro i _;exact⟨[],rfl,.nil _,by simp[Sx.sizes],by simp[Sx.wides]⟩
        |succ m im=>
         intro i him
         obtain⟨L,hL,hTr,hs,hw⟩:=im (i+1) (by omega)
         obtain⟨q,cs',hq,hc,x,A,c,rfl,hST,hxs,hxw⟩:=each i (by omega)
         obtain⟨hqi,hqe⟩:=List.getElem?_eq_some_iff.1 hq
         have hdr:elems.drop i=q::elems.drop (i+1):=by rw[←hqe];exact List.drop_eq_getElem_cons hqi
         obtain⟨_,_,hcell⟩:=World.cells?_some hc
         have g0:=hcell 0 (by omega)
         have g1:=hcell 1 (by omega)
         have g2:=hcell 2 (by omega)
         have g3:=hcell 3 (by omega)
         have g4:=hcell 4 (by omega)
         have g5:=hcell 5 (by omega)
         rw[addr_add,addr_add] at g0 g1 g2 g3 g4 g5
         simp only[Nat.add_zero] at g0
         have hb:b<W.heap.size:=by
          have:=World.block_lt_of_cell? W _ g0
          simpa using this
         refine⟨x::L,by rw[List.length_cons,hL],.cons b (off+i*6) x L A c ⟨hb,g0,g1,g2,g3,g4,g5⟩ trivial hST.le hST.tree ?_,?_,?_⟩
         ·rw[show off+i*6+6=off+(i+1)*6 by omega]
          exact hTr
         ·rw[hdr,Sx.sizes,List.map_cons,Rows.uptoBulkAll]
          omega
         ·rw[hdr,Sx.wides,List.map_cons,Rows.uptoBulkAll]
          omega
       obtain⟨L,h1,h2,h3,h4⟩:=go (len+1) 0 (by omega)
       refine⟨L,h1,?_,by simpa using h3,by simpa using h4⟩
       rw[Nat.zero_mul,Nat.add_zero] at h2
       exact h2
     obtain⟨L,hLl,hTr,hs,hw⟩:=row
     refine⟨⟨b0,z1,T,z3,z4,L⟩,some a,cap,by rw[scells,←hLl],⟨⟨by rw[hLl];exact hl,hm⟩,hTr⟩,?_,?_⟩
     ·rw[hy,Sx.size_eq]
      simp only[Rows.uptoBulk,Rows.uptoBulkAll,List.map_cons,List.map_nil,h3]
      omega
     ·rw[hy,Sx.wide_eq]
      simp only[Rows.uptoBulk,Rows.uptoBulkAll,List.map_cons,List.map_nil,hty,ht0,ht1,ht2,hy0,hy2,h3]
      omega
theorem open_sexp {H:Type} {enc:TypeId×Value→H} {W:World} {base:Nat} {v:Value} {d:DataW H} {p:List MemPlace} (hv:Value.okWide Tryz.prog W .any base 27 v) (h:DataW.Trod enc Tryz.prog W 0 (fun _=>true) true 27 v d p):
  ∃ x A c,v=sval x A c∧STree W AnyP x A c∧x.size≤Rows.uptoBulk d∧x.wide≤Rows.uptoBulk d:=by
 obtain⟨cs,rfl,_⟩:=okWide_struct Tryz.underlying27 hv
 obtain⟨fuel,hf⟩:=h
 obtain⟨x,A,c,e,h1,h2,h3⟩:=open_sx fuel fuel _ _ (Nat.le_refl _) hf
 refine⟨x,A,c,?_,h1,h2,h3⟩
 have e':cs.toList=scells x A c:=e
 rw[show cs=(scells x A c).toArray from by rw[←e']]
end Go.Proofs.YtcgaeknikfaghaaGreatDoor
