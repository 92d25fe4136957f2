/- What the proofs of this claim use, text by text. -/
import Derived.Test.YtcgaeknikfaghaaGreatDoorQD27
set_option linter.unusedSimpArgs false
set_option linter.unusedVariables false
set_option maxRecDepth 100000
set_option maxHeartbeats 25600000
namespace Go.Proofs.YtcgaeknikfaghaaGreatDoor
open Go.RowKit
theorem Mk.name_eq (D:List Dc) (s:Ms) (t:ByteArray):Mk.name D s t=
 if t.data.toList=[116,114,117,101]∨t.data.toList=[102,97,108,115,101] then Mk.bank s (Tm.bool s.N (decide (t.data.toList=[116,114,117,101])))
 else if Bd.reserved t.data.toList=true then(s,101)
 else match Mk.says D s.sc t with
  | .nothing=>(s,100)
  | .term id=>Mk.give s id 0
  | .decl j=>match D[j]? with
   |none=>(s,100)
   |some d=>if d.mac=true then Mk.call D s j [] else Mk.bank s (Tm.const s.N d.name d.sort):=rfl
theorem kname (E:Mk.Env) (hE:E.Ok) (w:World) (M:Nat) (Y:Mk.Lay) (s:Ms) (bs:List Fr) (f:Fr) (t:ByteArray) (h:Mk.Rep E w M Y s) (hf:s.fr=bs++[f]) (hs:Mk.Small s) (ha:∀ x∈s.sc,x.ahead≤E.n) (ht:t.size≤1048576)
  (hpl:∀ (j:Nat) d,E.D[j]?=some d→d.par.length≤1000∧∀ p∈d.par,p.1.size≤maxLen):
  Calls Tryz.prog 172 #[.pointer (some ⟨M,0,none⟩),.string t] w fun x w'=>Mk.Ans E w M Y (Mk.name E.D s t) x w':=by
 have hR:=Mk.name_eq E.D s t
 have hsN:=hs.N
 have hbl:bs.length≤5000:=by have:=hs.fr;rw[hf,List.length_append] at this;omega
 have hnl:f.ids.length≤100000:=by have:=(hs.ids f (by rw[hf];simp)).1;omega
 have c0:w.cell? ⟨M,0,none⟩=some (.pointer (some ⟨E.bk,0,none⟩)):=by rw[h.own.cell];rfl
 have zM:=h.own.lt
 by_cases htf:t.data.toList=[116,114,117,101]∨t.data.toList=[102,97,108,115,101]
 ·rw[if_pos htf] at hR
  rw[hR]
  have HB:Hid (∀ b,Calls Tryz.prog 206 #[.pointer (some ⟨E.bk,0,none⟩),.bool b] w fun e w1=>e=.returned (.tuple #[.int .i64 (Tm.bool s.N b).2.1,.int .i64 (Tm.bool s.N b).2.2])∧Calls Tryz.prog 162 #[.pointer (some ⟨M,0,none⟩),.int .i64 (Tm.bool s.N b).2.1,.int .i64 (Tm.bool s.N b).2.2] w1 fun x w'=>Mk.Ans E w M Y (Mk.bank s (Tm.bool s.N b)) x w'):=fun b=>
   (kbool9 w E.bk Y.Fb s.N h.bank b (by omega) (h.pow hE)).mono fun e w1 q=>⟨(Mk.banked h q).1,Mk.given (Mk.banked h q).2 hf hs⟩
  have HB2:=Lib.hid (HB.out (decide (t.data.toList=[116,114,117,101])))
  have hbt:(t.toList == [116,114,117,101])=decide (t.data.toList=[116,114,117,101]):=by
   by_cases e:t.data.toList=[116,114,117,101]
   ·rw[lit_yes e,decide_eq_true e]
   ·rw[lit_no e,decide_eq_false e]
  have hbf:t.data.toList≠[116,114,117,101]→(t.toList == [102,97,108,115,101])=true:=fun e=>lit_yes (htf.resolve_left e)
  generalize Mk.bank s (Tm.bool s.N (decide (t.data.toList=[116,114,117,101])))=R at HB2 ⊢
  generalize Tm.bool s.N (decide (t.data.toList=[116,114,117,101]))=q at HB2
  obtain⟨q0,q1,q2⟩:=q
  obtain⟨bk,hbk⟩:∃ bk,E.bk=bk:=⟨_,rfl⟩
  rw[hbk] at HB2 c0
  by_cases e:t.data.toList=[116,114,117,101]
  ·rw[decide_eq_true e] at hbt HB2
   clear h hf hs ha ht hpl hR hsN hbl hnl htf HB hbf hbk e
   go_enter Tryz.func172,Tryz.ntmps172
   go_wp2_with fail
   refine HB2.out.mono ?_
   rintro e w1 ⟨rfl,hg⟩
   have HG:=Lib.hid hg
   clear HB2 hg
   go_wp2_with fail
   refine HG.out.mono ?_
   rintro e w2 ⟨rfl,v⟩
   have V:=Lib.hid v
   clear HG v
   go_wp2
   go_ret
   exact⟨rfl,V.out⟩
  ·have hbf2:=hbf e
   rw[decide_eq_false e] at hbt HB2
   clear h hf hs ha ht hpl hR hsN hbl hnl htf HB hbf hbk e
   go_enter Tryz.func172,Tryz.ntmps172
   go_wp2_with fail
   refine HB2.out.mono ?_
   rintro e w1 ⟨rfl,hg⟩
   have HG:=Lib.hid hg
   clear HB2 hg
   go_wp2_with fail
   refine HG.out.mono ?_
   rintro e w2 ⟨rfl,v⟩
   have V:=Lib.hid v
   clear HG v
   go_wp2
   go_ret
   exact⟨rfl,V.out⟩
 ·rw[if_neg htf] at hR
  have hb1:=lit_no fun e=>htf (.inl e)
  have hb2:=lit_no fun e=>htf (.inr e)
  have HRs:Hid (Calls Tryz.prog 21 #[.string t] w fun e w'=>e=.returned (.bool (Bd.reserved t.data.toList))∧w'=w):=kreserved t w
  by_cases hres:Bd.reserved t.data.toList=true
  ·rw[if_pos hres] at hR
   rw[hR]
   rw[hres] at HRs
   have HV:Hid (Mk.Left E w M Y s w):=Mk.Left.same h (Below.refl _ w)
   clear h hf hs ha ht hpl hR hsN hbl hnl htf hres c0 zM
   go_enter Tryz.func172,Tryz.ntmps172
   go_wp2_with fail
   refine HRs.out.mono ?_
   rintro e w1 ⟨rfl,rfl⟩
   clear HRs
   go_wp2
   go_ret
   exact⟨rfl,HV.out⟩
  ·rw[if_neg hres] at hR
   have hrf:Bd.reserved t.data.toList=false:=by simpa using hres
   rw[hrf] at HRs
   have HSay:=ksays E hE w M Y s t h (by unfold maxLen;omega) ha (by have:=hs.sc;omega)
   cases hq:Mk.says E.D s.sc t with
   |nothing=>
    rw[hq] at hR HSay
    rw[hR]
    simp only[Mng.cells] at HSay
    have HS:=Lib.hid HSay
    have HV:Hid (∀ W,Below w.heap.size w W→Mk.Left E w M Y s W):=fun W hW=>Mk.Left.same h hW
    clear h hf hs ha ht hpl hR hsN hbl hnl htf hres c0 zM HSay hrf hq
    go_enter Tryz.func172,Tryz.ntmps172
    go_wp2_with fail
    refine HRs.out.mono ?_
    rintro e w1 ⟨rfl,rfl⟩
    clear HRs
    go_wp2_with fail
    refine HS.out.mono ?_
    rintro e w2 ⟨rfl,b2⟩
    have HE:Hid (∀ o,Mk.Left E w1 M Y s (w2.alloc o)):=fun o=>HV.out _ (b2.alloc b2.size o)
    clear HS b2 HV
    go_wp2
    go_ret
    exact⟨rfl,HE.out _⟩
   |term id=>
    rw[hq] at hR HSay
    rw[hR]
    simp only[Mng.cells] at HSay
    have HS:=Lib.hid HSay
    have HG:Hid (∀ W,Below w.heap.size w W→Calls Tryz.prog 162 #[.pointer (some ⟨M,0,none⟩),.int .i64 id,.int .i64 0] W fun x w'=>Mk.Ans E w M Y (Mk.give s id 0) x w'):=fun W hW=>(kgive E W M Y s bs f id 0 (h.below hW) hf hbl hnl).mono fun x w' q=>q.up hW
    simp only
    generalize Mk.give s id 0=R at HG ⊢
    clear h hf hs ha ht hpl hR hsN hbl hnl htf hres c0 zM HSay hrf hq
    go_enter Tryz.func172,Tryz.ntmps172
    go_wp2_with fail
    refine HRs.out.mono ?_
    rintro e w1 ⟨rfl,rfl⟩
    clear HRs
    go_wp2_with fail
    refine HS.out.mono ?_
    rintro e w2 ⟨rfl,b2⟩
    have HE:Hid (∀ o,Calls Tryz.prog 162 #[.pointer (some ⟨M,0,none⟩),.int .i64 id,.int .i64 0] (w2.alloc o) fun x w'=>Mk.Ans E w1 M Y R x w'):=fun o=>HG.out _ (b2.alloc b2.size o)
    clear HS b2 HG
    go_wp2_with fail
    refine(HE.out _).mono ?_
    rintro e w3 ⟨rfl,v⟩
    have V:=Lib.hid v
    clear HE v
    go_wp2
    go_ret
    exact⟨rfl,V.out⟩
   |decl j=>
    rw[hq] at hR HSay
    simp only[Mng.cells] at HSay
    have hj:j<E.n:=Mk.says_lt s.sc.reverse (fun y hy=>ha y (List.mem_reverse.1 hy)) hq
    obtain⟨b,off,P,d,hEA,_,_,hD,hdc,hc⟩:=hE.dc.get hj
    have HS:=Lib.hid HSay
    simp only[hD] at hR
    have hjn:(j:Int)<(E.n:Int):=by omega
    have hj0:(0:Int)≤(j:Int):=by omega
    have HC:Hid (∀ W,Below w.heap.size w W→M<W.heap.size∧W.cell? ⟨M,0,none⟩=some (.pointer (some ⟨E.bk,0,none⟩))∧W.cell? ⟨M,1,none⟩=some (.slice (some ⟨b,off,none⟩) E.n E.c)∧∀ i u,(dcells P d)[i]?=some u→W.cell? ⟨b,off+j*10+i,none⟩=some u):=fun W hW=>
     ⟨(h.below hW).own.lt,by rw[(h.below hW).own.cell];rfl,by rw[(h.below hW).own.cell,←hEA];rfl,(hc W (h.below hW).pl).2⟩
    obtain⟨mac,hmac⟩:∃ mac,d.mac=mac:=⟨_,rfl⟩
    have HT:Hid (∀ W,Below w.heap.size w W→∀ q,Lies W q 218 #[.int .i64 2,.int .i64 (j:Int)]→W.cell? ⟨q,1,none⟩=some (.int .i64 (j:Int))):=fun W hW q hq=>by rw[hq.cell];rfl
    have HFin:Hid (∀ W,Below w.heap.size w W→d.mac=true→Calls Tryz.prog 166 #[.pointer (some ⟨M,0,none⟩),.int .i64 (j:Int),.slice none 0 0] W fun x w'=>Mk.Ans E w M Y (Mk.name E.D s t) x w'):=fun W hW hm=>by
     rw[hR,if_pos hm]
     exact(kcall E hE W M Y s bs f j none 0 0 [] (h.below hW) hf hs hj (NumS.nil _ _) (fun z hz=>by cases hz) (Nat.zero_le _) (hpl j)).mono fun x w' q=>q.up hW
    have HCon:Hid (∀ W,Below w.heap.size w W→d.mac=false→Calls Tryz.prog 78 #[.pointer (some ⟨E.bk,0,none⟩),.string d.name,.int .i64 d.sort] W fun e w1=>∃ q1 q2:Int,e=.returned (.tuple #[.int .i64 q1,.int .i64 q2])∧(∀ k cs tt,w.heap.size≤k→Lies W k tt cs→Lies w1 k tt cs)∧w1.cell? ⟨M,0,none⟩=some (.pointer (some ⟨E.bk,0,none⟩))∧Calls Tryz.prog 162 #[.pointer (some ⟨M,0,none⟩),.int .i64 q1,.int .i64 q2] w1 fun x w'=>Mk.Ans E w M Y (Mk.name E.D s t) x w'∧(∀ k cs tt,w.heap.size≤k→Lies W k tt cs→Lies w' k tt cs)∧w'.cell? ⟨M,0,none⟩=some (.pointer (some ⟨E.bk,0,none⟩))):=fun W hW hm=>by
     rw[hR,if_neg (by rw[hm];decide)]
     refine(kconst9 W E.bk Y.Fb s.N (h.below hW).bank d.name d.sort (by omega) ((h.below hW).pow hE)).mono fun e w1 q=>?_
     obtain⟨e1,e2⟩:=Mk.banked (h.below hW) q
     refine⟨_,_,e1,fun k cs tt hk hl=>Mk.lies_left e2 hl (h.out k hk),?_,(Mk.given e2 hf hs).mono fun x w' q=>⟨q.up hW,fun k cs tt hk hl=>Mk.lies_left q.2 hl (h.out k hk),?_⟩⟩
     ·obtain⟨Y',r1,_⟩:=e2
      rw[r1.own.cell]
      rfl
     ·obtain⟨Y',r1,_⟩:=q.2
      rw[r1.own.cell]
      rfl
    have HB:Hid (∀ W,Below w.heap.size w W→w.heap.size≤W.heap.size):=fun W hW=>hW.size
    have hcl:=dcells P d
    clear hcl
    obtain⟨x0,hx0⟩:∃ x0,d.name=x0:=⟨_,rfl⟩
    obtain⟨x1,hx1⟩:∃ x1,d.sort=x1:=⟨_,rfl⟩
    obtain⟨y3,hy3⟩:∃ y3,P.A=y3:=⟨_,rfl⟩
    obtain⟨m3,hm3⟩:∃ m3,d.par.length=m3:=⟨_,rfl⟩
    obtain⟨z3,hz3⟩:∃ z3,P.c=z3:=⟨_,rfl⟩
    obtain⟨x4,hx4⟩:∃ x4,d.body.list=x4:=⟨_,rfl⟩
    obtain⟨x5,hx5⟩:∃ x5,d.body.k=x5:=⟨_,rfl⟩
    obtain⟨x6,hx6⟩:∃ x6,d.body.T=x6:=⟨_,rfl⟩
    obtain⟨x7,hx7⟩:∃ x7,d.body.ta=x7:=⟨_,rfl⟩
    obtain⟨x8,hx8⟩:∃ x8,d.body.at_=x8:=⟨_,rfl⟩
    obtain⟨y9,hy9⟩:∃ y9,P.B=y9:=⟨_,rfl⟩
    obtain⟨m9,hm9⟩:∃ m9,d.body.L.length=m9:=⟨_,rfl⟩
    obtain⟨z9,hz9⟩:∃ z9,P.d=z9:=⟨_,rfl⟩
    obtain⟨En,hEn⟩:∃ En,E.n=En:=⟨_,rfl⟩
    obtain⟨Ec,hEc⟩:∃ Ec,E.c=Ec:=⟨_,rfl⟩
    obtain⟨bk,hbk⟩:∃ bk,E.bk=bk:=⟨_,rfl⟩
    have HD:Hid (∀ W,Below w.heap.size w W→∀ w2,Lies W w2 218 #[.int .i64 2,.int .i64 (j:Int)]→W.cell? ⟨M,1,none⟩=some (.slice (some ⟨b,off,none⟩) En Ec)∧W.cell? ⟨w2,1,none⟩=some (.int .i64 (j:Int))∧W.cell? ⟨b,off+j*10,none⟩=some (.string x0)∧W.cell? ⟨b,off+j*10+1,none⟩=some (.int .i64 x1)∧W.cell? ⟨b,off+j*10+2,none⟩=some (.bool mac)∧W.cell? ⟨b,off+j*10+3,none⟩=some (.slice y3 m3 z3)∧W.cell? ⟨b,off+j*10+4,none⟩=some (.bool x4)∧W.cell? ⟨b,off+j*10+5,none⟩=some (.int .i64 x5)∧W.cell? ⟨b,off+j*10+6,none⟩=some (.string x6)∧W.cell? ⟨b,off+j*10+7,none⟩=some (.int .i64 x7)∧W.cell? ⟨b,off+j*10+8,none⟩=some (.int .i64 x8)∧W.cell? ⟨b,off+j*10+9,none⟩=some (.slice y9 m9 z9)):=fun W hW w2 hq=>by
     obtain⟨_,_,q2,q3⟩:=HC.out W hW
     rw[hEn,hEc] at q2
     rw[←hx0,←hx1,←hmac,←hy3,←hm3,←hz3,←hx4,←hx5,←hx6,←hx7,←hx8,←hy9,←hm9,←hz9]
     exact⟨q2,HT.out W hW w2 hq,by have:=q3 0 _ rfl;rwa [Nat.add_zero] at this,q3 1 _ rfl,q3 2 _ rfl,q3 3 _ rfl,q3 4 _ rfl,q3 5 _ rfl,q3 6 _ rfl,q3 7 _ rfl,q3 8 _ rfl,q3 9 _ rfl⟩
    have HM0:Hid (∀ W,Below w.heap.size w W→M<W.heap.size∧W.cell? ⟨M,0,none⟩=some (.pointer (some ⟨bk,0,none⟩))):=fun W hW=>by rw[←hbk];exact⟨(HC.out W hW).1,(HC.out W hW).2.1⟩
    rw[hmac] at HFin HCon
    rw[hx0,hx1,hbk] at HCon
    rw[hEn] at hjn
    clear h hf hs ha ht hpl hR hsN hbl hnl htf hres c0 zM HSay hrf hq hj hEA hD hdc hc HC hmac hx0 hx1 hy3 hm3 hz3 hx4 hx5 hx6 hx7 hx8 hy9 hm9 hz9 hEn hEc hbk HT
    cases mac with
    |true=>
     have HF2:Hid (∀ W,Below w.heap.size w W→Calls Tryz.prog 166 #[.pointer (some ⟨M,0,none⟩),.int .i64 (j:Int),.slice none 0 0] W fun x w'=>Mk.Ans E w M Y (Mk.name E.D s t) x w'):=fun W hW=>HFin.out W hW rfl
     generalize Mk.name E.D s t=R at HF2 ⊢
     clear HFin HCon
     go_enter Tryz.func172,Tryz.ntmps172
     go_wp2_with fail
     refine HRs.out.mono ?_
     rintro e w1 ⟨rfl,rfl⟩
     clear HRs
     go_wp2_with fail
     refine HS.out.mono ?_
     rintro e w2 ⟨rfl,b2⟩
     obtain⟨W3,hW3⟩:∃ W3,w2.alloc (.cells #[.int .i64 2,.int .i64 (j:Int)] 218)=W3:=⟨_,rfl⟩
     have hl3:Lies W3 w2.heap.size 218 #[.int .i64 2,.int .i64 (j:Int)]:=by rw[←hW3];exact Lies.new w2 _ _
     have hb3:Below w1.heap.size w1 W3:=by rw[←hW3];exact b2.alloc b2.size _
     have hb4:Below w1.heap.size w1 W3.drew:=⟨hb3.os,hb3.tape,hb3.output,hb3.size,hb3.block⟩
     have HS3:=Lib.hid (HD.out W3.drew hb4 _ hl3)
     have HS4:=Lib.hid fun(o:Obj)=>HD.out (W3.drew.alloc o) (hb4.alloc hb4.size o) w2.heap.size (((Turn.refl (fun _=>False) W3.drew).alloc o).lies (show Lies W3.drew _ _ _ from hl3) id)
     have k0:=hl3.cell 0
     have kl:=hl3.lt
     simp at k0
     have mM:=(HM0.out W3.drew hb4).1
     clear HS b2 hb3
     go_wp2_with fail
     go_region_held3 (fun W=>W.cell? ⟨M,1,none⟩=some (.slice (some ⟨b,off,none⟩) En Ec)∧W.cell? ⟨w2.heap.size,1,none⟩=some (.int .i64 (j:Int))∧W.cell? ⟨b,off+j*10,none⟩=some (.string x0)∧W.cell? ⟨b,off+j*10+1,none⟩=some (.int .i64 x1)∧W.cell? ⟨b,off+j*10+2,none⟩=some (.bool true)∧W.cell? ⟨b,off+j*10+3,none⟩=some (.slice y3 m3 z3)∧W.cell? ⟨b,off+j*10+4,none⟩=some (.bool x4)∧W.cell? ⟨b,off+j*10+5,none⟩=some (.int .i64 x5)∧W.cell? ⟨b,off+j*10+6,none⟩=some (.string x6)∧W.cell? ⟨b,off+j*10+7,none⟩=some (.int .i64 x7)∧W.cell? ⟨b,off+j*10+8,none⟩=some (.int .i64 x8)∧W.cell? ⟨b,off+j*10+9,none⟩=some (.slice y9 m9 z9))
      (first|(with_reducible exact HS3.out)|exact HS4.out _)
      (fail)
     all_goals
      obtain⟨W5,hW5⟩:∃ W5,W5=(W3.alloc (.cells #[.string x0,.int .i64 x1,.bool true,.slice y3 m3 z3,.bool x4,.int .i64 x5,.string x6,.int .i64 x7,.int .i64 x8,.slice y9 m9 z9] 56)).drew:=⟨_,rfl⟩
      rw[←hW5]
      have hb5:Below W3.heap.size W3 W5:=by
       have:=(Below.refl W3.heap.size W3).alloc (Nat.le_refl _) (.cells #[.string x0,.int .i64 x1,.bool true,.slice y3 m3 z3,.bool x4,.int .i64 x5,.string x6,.int .i64 x7,.int .i64 x8,.slice y9 m9 z9] 56)
       rw[hW5]
       exact⟨this.os,this.tape,this.output,this.size,this.block⟩
      have hl5:Lies W5 W3.heap.size 56 #[.string x0,.int .i64 x1,.bool true,.slice y3 m3 z3,.bool x4,.int .i64 x5,.string x6,.int .i64 x7,.int .i64 x8,.slice y9 m9 z9]:=by rw[hW5];exact Lies.new W3 _ _
      have hb6:Below w1.heap.size w1 W5:=(show Below w1.heap.size w1 W3 from⟨hb4.os,hb4.tape,hb4.output,hb4.size,hb4.block⟩).trans (hb5.mono hb4.size)
      have l0:=hl5.cell 0
      have l1:=hl5.cell 1
      have l2:=hl5.cell 2
      have hll:=hl5.lt
      simp at l0 l1 l2
      have q5:=(HD.out W5 hb6 w2.heap.size ((Turn.of_below (F:=fun _=>False) hb5).lies hl3 id)).2.1
      have HC5:=Lib.hid (HF2.out W5 hb6)
      clear hb5 hl5 hb6 HF2 HD hW5 HM0 HB HS3 HS4 k0 hb4 hl3
      go_wp2_with fail
      refine HC5.out.mono ?_
      rintro e w6 ⟨rfl,v⟩
      have V:=Lib.hid v
      clear HC5 v l0 l1 l2 q5
      go_wp2
      go_ret
      exact⟨rfl,V.out⟩
    |false=>
     have HF2:=Lib.hid fun(W:World) (hW:Below w.heap.size w W)=>HCon.out W hW rfl
     generalize Mk.name E.D s t=R at HF2 ⊢
     clear HFin HCon
     go_enter Tryz.func172,Tryz.ntmps172
     go_wp2_with fail
     refine HRs.out.mono ?_
     rintro e w1 ⟨rfl,rfl⟩
     clear HRs
     go_wp2_with fail
     refine HS.out.mono ?_
     rintro e w2 ⟨rfl,b2⟩
     obtain⟨W3,hW3⟩:∃ W3,w2.alloc (.cells #[.int .i64 2,.int .i64 (j:Int)] 218)=W3:=⟨_,rfl⟩
     have hl3:Lies W3 w2.heap.size 218 #[.int .i64 2,.int .i64 (j:Int)]:=by rw[←hW3];exact Lies.new w2 _ _
     have hb3:Below w1.heap.size w1 W3:=by rw[←hW3];exact b2.alloc b2.size _
     have hb4:Below w1.heap.size w1 W3.drew:=⟨hb3.os,hb3.tape,hb3.output,hb3.size,hb3.block⟩
     have HS3:=Lib.hid (HD.out W3.drew hb4 _ hl3)
     have HS4:=Lib.hid fun(o:Obj)=>HD.out (W3.drew.alloc o) (hb4.alloc hb4.size o) w2.heap.size (((Turn.refl (fun _=>False) W3.drew).alloc o).lies (show Lies W3.drew _ _ _ from hl3) id)
     have k0:=hl3.cell 0
     have kl:=hl3.lt
     simp at k0
     have mM:=(HM0.out W3.drew hb4).1
     clear HS b2 hb3
     go_wp2_with fail
     go_region_held3 (fun W=>W.cell? ⟨M,1,none⟩=some (.slice (some ⟨b,off,none⟩) En Ec)∧W.cell? ⟨w2.heap.size,1,none⟩=some (.int .i64 (j:Int))∧W.cell? ⟨b,off+j*10,none⟩=some (.string x0)∧W.cell? ⟨b,off+j*10+1,none⟩=some (.int .i64 x1)∧W.cell? ⟨b,off+j*10+2,none⟩=some (.bool false)∧W.cell? ⟨b,off+j*10+3,none⟩=some (.slice y3 m3 z3)∧W.cell? ⟨b,off+j*10+4,none⟩=some (.bool x4)∧W.cell? ⟨b,off+j*10+5,none⟩=some (.int .i64 x5)∧W.cell? ⟨b,off+j*10+6,none⟩=some (.string x6)∧W.cell? ⟨b,off+j*10+7,none⟩=some (.int .i64 x7)∧W.cell? ⟨b,off+j*10+8,none⟩=some (.int .i64 x8)∧W.cell? ⟨b,off+j*10+9,none⟩=some (.slice y9 m9 z9))
      (first|(with_reducible exact HS3.out)|exact HS4.out _)
      (fail)
     all_goals
      obtain⟨W5,hW5⟩:∃ W5,W5=(W3.alloc (.cells #[.string x0,.int .i64 x1,.bool false,.slice y3 m3 z3,.bool x4,.int .i64 x5,.string x6,.int .i64 x7,.int .i64 x8,.slice y9 m9 z9] 56)).drew:=⟨_,rfl⟩
      rw[←hW5]
      have hb5:Below W3.heap.size W3 W5:=by
       have:=(Below.refl W3.heap.size W3).alloc (Nat.le_refl _) (.cells #[.string x0,.int .i64 x1,.bool false,.slice y3 m3 z3,.bool x4,.int .i64 x5,.string x6,.int .i64 x7,.int .i64 x8,.slice y9 m9 z9] 56)
       rw[hW5]
       exact⟨this.os,this.tape,this.output,this.size,this.block⟩
      have hl5:Lies W5 W3.heap.size 56 #[.string x0,.int .i64 x1,.bool false,.slice y3 m3 z3,.bool x4,.int .i64 x5,.string x6,.int .i64 x7,.int .i64 x8,.slice y9 m9 z9]:=by rw[hW5];exact Lies.new W3 _ _
      have hb6:Below w1.heap.size w1 W5:=(show Below w1.heap.size w1 W3 from⟨hb4.os,hb4.tape,hb4.output,hb4.size,hb4.block⟩).trans (hb5.mono hb4.size)
      have l0:=hl5.cell 0
      have l1:=hl5.cell 1
      have l2:=hl5.cell 2
      have hll:=hl5.lt
      simp at l0 l1 l2
      have m5:=(HM0.out W5 hb6).2
      have hb7:Below w1.heap.size w1 W5.drew:=⟨hb6.os,hb6.tape,hb6.output,hb6.size,hb6.block⟩
      have hzz:w1.heap.size≤W3.heap.size:=hb4.size
      have HK:Hid (Calls Tryz.prog 78 #[.pointer (some ⟨bk,0,none⟩),.string x0,.int .i64 x1] W5.drew fun e w'=>∃ q1 q2:Int,e=.returned (.tuple #[.int .i64 q1,.int .i64 q2])∧(w'.cell? ⟨M,0,none⟩=some (.pointer (some ⟨bk,0,none⟩))∧w'.cell? ⟨W3.heap.size,0,none⟩=some (.string x0)∧w'.cell? ⟨W3.heap.size,1,none⟩=some (.int .i64 x1))∧Calls Tryz.prog 162 #[.pointer (some ⟨M,0,none⟩),.int .i64 q1,.int .i64 q2] w' fun x w''=>Mk.Ans E w1 M Y R x w''∧(w''.cell? ⟨M,0,none⟩=some (.pointer (some ⟨bk,0,none⟩))∧w''.cell? ⟨W3.heap.size,0,none⟩=some (.string x0)∧w''.cell? ⟨W3.heap.size,1,none⟩=some (.int .i64 x1))):=(HF2.out W5.drew hb7).mono fun e w' q=>by
       obtain⟨q1,q2,e1,e2,e3,e4⟩:=q
       have hl7:=e2 W3.heap.size _ _ hzz (show Lies W5.drew W3.heap.size _ _ from hl5)
       refine⟨q1,q2,e1,⟨e3,by rw[hl7.cell];rfl,by rw[hl7.cell];rfl⟩,e4.mono fun x w'' ⟨f1,f2,f3⟩=>⟨f1,f3,?_⟩⟩
       have hl8:=f2 W3.heap.size _ _ hzz (show Lies W5.drew W3.heap.size _ _ from hl5)
       exact⟨by rw[hl8.cell];rfl,by rw[hl8.cell];rfl⟩
      have HS:Hid (W5.drew.cell? ⟨M,0,none⟩=some (.pointer (some ⟨bk,0,none⟩))∧W5.drew.cell? ⟨W3.heap.size,0,none⟩=some (.string x0)∧W5.drew.cell? ⟨W3.heap.size,1,none⟩=some (.int .i64 x1)):=⟨m5,l0,l1⟩
      have mM5:=(HM0.out W5 hb6).1
      clear hb5 hl5 hb6 HF2 HD hW5 HM0 HB HS3 HS4 k0 hb4 hl3 m5 hb7 hzz
      go_wp2_with fail
      go_region_held3 (fun W=>W.cell? ⟨M,0,none⟩=some (.pointer (some ⟨bk,0,none⟩))∧W.cell? ⟨W3.heap.size,0,none⟩=some (.string x0)∧W.cell? ⟨W3.heap.size,1,none⟩=some (.int .i64 x1))
       (first|exact HS.out|assumption)
       (first|(go_at_call 78;refine HK.out.mono ?_;rintro e w6 ⟨q1,q2,rfl,hk6,hg⟩)|(go_at_call 162;refine Calls.mono (by assumption) ?_;rintro e w7 ⟨⟨rfl,v⟩,hk7⟩))
      all_goals
       have V:=Lib.hid v
       clear v
       go_wp2
       go_ret
       exact⟨rfl,V.out⟩
theorem Lt.addRun_len (R:List (Int×Int)) (z:Int):R.length≤(Lt.addRun R z).length:=by
 unfold Lt.addRun
 cases h:R.getLast? with
 |none=>
  rw[List.getLast?_eq_none_iff.1 h]
  simp
 |some x=>
  have hne:R≠[]:=fun e=>by rw[e] at h;cases h
  have:=List.length_pos_iff.2 hne
  simp only
  split
  ·simp
   omega
  ·simp
theorem Lt.runs_mono (a b:List Int):(Lt.runs a).length≤(Lt.runs (a++b)).length:=by
 have:∀ n (b:List Int),b.length=n→(Lt.runs a).length≤(Lt.runs (a++b)).length:=by
  intro n
  induction n with
  |zero=>
   intro b hb
   rw[List.length_eq_zero_iff.1 hb,List.append_nil]
   exact Nat.le_refl _
  |succ n ih=>
   intro b hb
   obtain⟨c,z,rfl⟩:∃ c z,b=c++[z]:=⟨b.dropLast,b.getLast (fun e=>by rw[e] at hb;simp at hb),(List.dropLast_concat_getLast _).symm⟩
   rw[←List.append_assoc,Lt.runs_snoc]
   exact Nat.le_trans (ih c (by simpa using hb)) (Lt.addRun_len _ _)
 exact this b.length b rfl
theorem Lt.most_bad {l:List Int} (h:l.all Lt.pt=false):Lt.runsMost l=Lt.runsOf l:=by
 unfold Lt.runsMost Lt.runsOf
 rw[if_neg (by rw[h];decide),if_neg (by rw[h];decide)]
theorem Lt.most_good {l:List Int} (h:l.all Lt.pt=true) (hl:(Lt.runs l).length≤65536):Lt.runsMost l=Lt.runsOf l:=by
 unfold Lt.runsMost Lt.runsOf
 rw[if_pos h,if_pos h,if_pos hl]
theorem Lt.most_long {l:List Int} (h:l.all Lt.pt=true) (hl:65536<(Lt.runs l).length):Lt.runsMost l=(2,[]):=by
 unfold Lt.runsMost
 rw[if_pos h,if_neg (by omega)]
theorem kruns10 (w:World) (A:Option Addr) (n c:Nat) (l:List Int) (h:NumS w A n l) (hn:n≤10000000):
  Calls Tryz.prog 169 #[.slice A n c] w fun e w'=>RunsSaid w (Lt.runsMost l) e w':=by
 obtain⟨Post,hPost⟩:∃ Post:Ending→World→Prop,Post=fun e w'=>RunsSaid w (Lt.runsMost l) e w':=⟨_,rfl⟩
 rw[←hPost]
 have HPo:=Lib.hid hPost
 have HH:=Lib.hid h
 have HC:=Lib.hid (kcontI w A n c l h (by omega))
 clear hPost h
 cases hall:l.all Lt.pt with
 |false=>
  rw[hall] at HC
  have HF:=RunsSaid.bad hall (Below.refl w.heap.size w)
  rw[←Lt.most_bad hall] at HF
  replace HF:=Lib.hid HF
  clear hall HH
  go_enter Tryz.func169,Tryz.ntmps169
  go_wp2_with (go_at_call 201;refine HC.out.mono ?_;rintro e w1 ⟨rfl,hw1⟩;rw[hw1];clear hw1 w1)
  first
   |(rw[HPo.out];exact HF.out)
   |exact bodyPost_ret (by simp[results,Tryz.results169,go_sem]) rfl (by rw[HPo.out];exact HF.out)
 |true=>
  rw[hall] at HC
  have HAll:=Lib.hid hall
  clear hall
  go_enter Tryz.func169,Tryz.ntmps169
  go_wp2_with (go_at_call 201;refine HC.out.mono ?_;rintro e w1 ⟨rfl,hw1⟩;rw[hw1];clear hw1 w1)
  go_loopw [4,11] (fun ov iv wr=>∃ (i m:Nat) (A':Option Addr) (c':Nat) (R:List (Int×Int)),i≤n∧m≤i∧m≤65536∧iv=.int .i64 (i:Nat)∧ov=.slice A' m c'∧Hid (Below w.heap.size w wr∧OwnR wr w.heap.size A' c' R∧R.length=m∧R=Lt.runs (l.take i))) (fun _ iv _=>n-(intOf iv).toNat)
  case atStart=>exact⟨0,0,none,0,[],Nat.zero_le _,Nat.le_refl _,Nat.zero_le _,rfl,rfl,Below.refl _ _,OwnR.nil _ _,rfl,rfl⟩
  case round=>
   obtain⟨i,m,A',c',R,hi,hmi,hmm,rfl,rfl,HI⟩:=hrel
   obtain⟨hI0,hI1,hI2,hI3⟩:=HI.out
   have HB:=Lib.hid hI0
   have HO:=Lib.hid hI1
   have HM:=Lib.hid hI2
   have hbw:w.heap.size≤wr.heap.size:=hI0.size
   by_cases hlt:i<n
   ·obtain⟨b,off,z,rfl,hz,hmem,_,hc⟩:=HH.out.get hlt
    obtain⟨q1,q2⟩:=hc wr hI0
    have hlt':(i:Int)<(n:Int):=by omega
    have h0:(0:Int)≤(i:Int):=by omega
    have hsn:Lt.runs (l.take (i+1))=Lt.addRun (Lt.runs (l.take i)) z:=by rw[take_one hz,Lt.runs_snoc]
    by_cases hi0:i=0
    ·have hR:R=[]:=by rw[hI3,hi0];rfl
     subst hR
     obtain rfl:m=0:=hI2.symm
     have hz0:¬0<i:=by omega
     have HR2:Hid ([]++[(z,(1:Int))]=Lt.runs (l.take (i+1))):=by
      show _=_
      rw[hsn,←hI3]
      rfl
     clear hI0 hI1 hI2 hI3 HI hz hmem hc hsn hi0 HC
     go_wp2_with (at_builtin;refine appendR _ rfl (.tmp 40) (.tmp 43) rfl w.heap.size A' c' [] 0 rfl z 1 _ (by simp) rfl HO.out rfl (by omega) HB.out.size ?_;intro A3 c3 w3 o3 g3;have O3:=Lib.hid o3;have B3:=Lib.hid (HB.out.grown g3 HB.out.size (fun q hq=>(HO.out.lt rfl hq).1));clear o3 g3)
     go_roundw
     case rel=>exact⟨i+1,1,A3,c3,[]++[(z,1)],by omega,by omega,by omega,by go_num,rfl,B3.out,O3.out,rfl,HR2.out⟩
     case measure=>simp[intOf];omega
    ·obtain⟨j,hj⟩:∃ j,i=j+1:=⟨i-1,by omega⟩
     obtain⟨b',off',y,e,hy,_,_,hc'⟩:=HH.out.get (i:=j) (by omega)
     injection e with e
     injection e with e1 e2
     subst e1
     subst e2
     obtain⟨_,q3⟩:=hc' wr hI0
     obtain⟨S,k,hS,hSi,hk1,hk2⟩:=Lt.runs_last hy
     rw[hj,hS] at hI3
     subst hI3
     have hSl:S.length+1=m:=by simpa using hI2
     have hi1:(i:Int)-1=(j:Int):=by omega
     have hi2:0<i:=by omega
     have hji:(j:Int)<(n:Int):=by omega
     have hj0:(0:Int)≤(j:Int):=by omega
     obtain⟨sl,hsl⟩:∃ sl,S.length=sl:=⟨_,rfl⟩
     have HSl:=Lib.hid hsl
     obtain⟨g,hg,hgB,hglt,c0,c1,cf,hcap,hput⟩:=OwnR.last hsl hI1
     subst hg
     have hm1:(m:Int)-1=(sl:Int):=by omega
     have hms:sl+1=m:=by omega
     subst hms
     by_cases hyz:y=z
     ·subst hyz
      have HR2:Hid (S++[(y,k+1)]=Lt.runs (l.take (i+1))):=by
       show _=_
       rw[hsn,hj,hS,Lt.addRun_same]
      have HLp:Hid (∀ k',OwnR (wr.setCell ⟨g,sl*2+1,none⟩ (.int .i64 k')) w.heap.size (some ⟨g,0,none⟩) c' (S++[(y,k')])∧Below w.heap.size w (wr.setCell ⟨g,sl*2+1,none⟩ (.int .i64 k'))):=fun k'=>by
       obtain⟨g',e',hgB',_,_,_,_,_,hp'⟩:=OwnR.last HSl.out HO.out
       injection e' with e'
       injection e' with e' _
       subst e'
       exact⟨(hp' k').1,HB.out.grown (hp' k').2 HB.out.size (fun q hq=>by injection hq with hq;omega)⟩
      have HLen:Hid ((S++[(y,k+1)]).length=sl+1):=by
       show _=_
       rw[←hsl]
       simp
      clear hI0 hI1 hI2 HI hz hmem hc hsn hi0 hy hc' hS hSi hput hj HO HM hSl hsl HB HC
      go_wp2
      go_roundw
      case rel=>exact⟨i+1,sl+1,some ⟨g,0,none⟩,c',S++[(y,k+1)],by omega,by omega,by omega,by go_num,rfl,(HLp.out _).2,(HLp.out _).1,HLen.out,HR2.out⟩
      case measure=>simp[intOf];omega
     ·have hne:(z == y)=false:=beq_eq_false_iff_ne.2 fun e=>hyz e.symm
      have HR2:Hid (S++[(y,k)]++[(z,1)]=Lt.runs (l.take (i+1))):=by
       show _=_
       rw[hsn,hj,hS,Lt.addRun_new S k hyz]
      by_cases h65:sl+1=65536
      ·have hm6:(((sl+1:Nat):Int) == 65536)=true:=beq_iff_eq.2 (by omega)
       have hlong:65536<(Lt.runs l).length:=by
        have h1:=HR2.out
        have h2:=Lt.runs_mono (l.take (i+1)) (l.drop (i+1))
        rw[List.take_append_drop,←h1] at h2
        simp at h2
        omega
       have HF:Hid (RunsSaid w (Lt.runsMost l) (.returned (.tuple #[.slice none 0 0,.int .i64 2])) wr):=by
        show RunsSaid _ _ _ _
        rw[Lt.most_long HAll.out hlong]
        exact⟨⟨none,0,rfl,OwnR.nil _ _⟩,HB.out⟩
       clear hI0 hI1 hI2 HI hz hmem hc hsn hi0 hy hc' hS hSi hput hj HSl hSl hsl c0 c1 cf HC hlong h65 HR2
       go_wp2
       first
        |(rw[HPo.out];exact HF.out)
        |exact bodyPost_ret (by simp[results,Tryz.results169,go_sem]) rfl (by rw[HPo.out];exact HF.out)
      have hm6:(((sl+1:Nat):Int) == 65536)=false:=beq_eq_false_iff_ne.2 (by omega)
      have h66:sl+2≤65536:=by omega
      clear hI0 hI1 hI2 HI hz hmem hc hsn hi0 hy hc' hS hSi hput hj HSl hSl hsl c0 c1 cf HC h65
      go_wp2_with (at_builtin;refine appendR _ rfl (.tmp 40) (.tmp 43) rfl w.heap.size (some ⟨g,0,none⟩) c' (S++[(y,k)]) (sl+1) HM.out z 1 _ (by simp) rfl HO.out rfl (by omega) HB.out.size ?_;intro A3 c3 w3 o3 g3;have O3:=Lib.hid o3;have B3:=Lib.hid (HB.out.grown g3 HB.out.size (fun q hq=>(HO.out.lt HM.out hq).1));clear o3 g3)
      go_roundw
      case rel=>exact⟨i+1,sl+2,A3,c3,S++[(y,k)]++[(z,1)],by omega,by omega,by omega,by go_num,rfl,B3.out,O3.out,by rw[List.length_append,HM.out];rfl,HR2.out⟩
      case measure=>simp[intOf];omega
   ·obtain rfl:i=n:=by omega
    have htk:l.take i=l:=List.take_of_length_le (by rw[HH.out.len];exact Nat.le_refl _)
    rw[htk] at hI3
    have HF:=RunsSaid.good HAll.out hI3 hI2 hI1 hI0
    rw[←Lt.most_good HAll.out (by rw[←hI3,hI2];exact hmm)] at HF
    replace HF:=Lib.hid HF
    clear hI0 hI1 hI2 hI3 HI htk HO HC
    go_wp2
    first
     |(rw[HPo.out];exact HF.out)
     |exact bodyPost_ret (by simp[results,Tryz.results169,go_sem]) rfl (by rw[HPo.out];exact HF.out)
theorem kpoints10 (s:ByteArray) (w:World) (hs:s.size≤10000000) (hG:Gl w):
  Calls Tryz.prog 170 #[.string s] w fun e w'=>PtsSaid w (Lt.pts s.data.toList) e w':=by
 obtain⟨X,HX⟩:∃ X,Hid (Lt.pts s.data.toList=X):=⟨_,rfl⟩
 rw[HX.out]
 obtain⟨Post,hPost⟩:∃ Post:Ending→World→Prop,Post=fun e w'=>PtsSaid w X e w':=⟨_,rfl⟩
 rw[←hPost]
 have HPo:=Lib.hid hPost
 have HGl:=Lib.hid hG
 clear hPost hG
 go_enter Tryz.func170,Tryz.ntmps170
 go_wp2
 go_loopw [0,3] (fun sv ov wr=>∃ (T:ByteArray) (m:Nat) (A:Option Addr) (c:Nat) (l:List Int),T.size+m≤s.size∧sv=.string T∧ov=.slice A m c∧Hid (Below w.heap.size w wr∧OwnN wr w.heap.size A c l∧l.length=m∧X=l++Lt.pts T.data.toList)) (fun sv _ _=>strLen sv)
 case atStart=>exact⟨s,0,none,0,[],Nat.le_refl _,rfl,rfl,Below.refl _ _,OwnN.nil _ _,rfl,HX.out.symm⟩
 case round=>
  obtain⟨T,m,A,c,l,hTm,rfl,rfl,HI⟩:=hrel
  obtain⟨hI0,hI1,hI2,hI3⟩:=HI.out
  have HB:=Lib.hid hI0
  have HO:=Lib.hid hI1
  have HM:=Lib.hid hI2
  by_cases hlt:0<T.size
  ·obtain⟨d,r,hl⟩:∃ d r,T.data.toList=d::r:=⟨_,_,(List.drop_zero (l:=T.data.toList)).symm.trans (Lt.drop_at T hlt)⟩
   have hrl:r.length+1=T.size:=by rw[←Lt.len_bytes,hl];rfl
   have HN:=Lib.hid (kfirst7 T d r hl wr (by omega) (HGl.out.below hI0))
   have hlt':(0:Int)<(T.size:Int):=by omega
   have HV:=Lib.hid hI3
   have HL:=Lib.hid hl
   clear hI0 hI1 hI2 hI3 HI HX hl
   go_wp2_with fail
   refine HN.out.mono ?_
   rintro e w1 ⟨⟨x,k,rfl,hk1,hk2,hone⟩,hb⟩
   have hk3:k≤T.size:=by omega
   have HCut:Hid ((T.extract k T.size).data.toList=(d::r).drop k∧(T.extract k T.size).size=T.size-k):=by
    obtain⟨c1,c2⟩:=Lt.cut_bytes T k T.size (Nat.le_refl _) hk3
    refine⟨?_,c2⟩
    rw[c1,HL.out,List.take_of_length_le (by rw[List.length_drop,List.length_cons];omega)]
   have HV2:Hid (X=(l++[(x:Int)])++Lt.pts (T.extract k T.size).data.toList):=by
    show _=_
    rw[HCut.out.1,HV.out,HL.out,Lt.pts_cons,hone,List.append_assoc]
    rfl
   have hsl:=fun W=>Lt.slice_from7 T k hk3 W
   have HB1:=Lib.hid (HB.out.trans (hb.mono HB.out.size))
   have HO1:=Lib.hid (HO.out.kept hb)
   have hbw:w.heap.size≤w1.heap.size:=HB1.out.size
   have hsz:=HCut.out.2
   clear hone HN HV HL hb HB HO HCut hrl
   go_wp2_with (at_builtin;refine appendN _ rfl (.tmp 14) (.tmp 16) rfl w.heap.size A c l m HM.out (x:Int) rfl HO1.out rfl (by omega) hbw ?_;intro A3 c3 w3 o3 g3;have O3:=Lib.hid o3;have B3:=Lib.hid (HB1.out.grown g3 HB1.out.size (fun q hq=>(HO1.out.lt HM.out hq).1));clear o3 g3)
   go_roundw
   case rel=>exact⟨T.extract k T.size,m+1,A3,c3,l++[(x:Int)],by omega,rfl,rfl,B3.out,O3.out,by rw[List.length_append,HM.out];rfl,HV2.out⟩
   case measure=>
    show(T.extract k T.size).size<T.size
    omega
  ·have hz:T.size=0:=by omega
   have he:T.data.toList=[]:=List.eq_nil_of_length_eq_zero ((Lt.len_bytes T).trans hz)
   rw[he,Lt.pts_nil,List.append_nil] at hI3
   have HE:=Lib.hid (PtsSaid.mk hI2 hI3 hI1 hI0)
   clear hI0 hI1 hI2 hI3 HI HX he
   go_wp2
   rw[HPo.out]
   exact HE.out
end Go.Proofs.YtcgaeknikfaghaaGreatDoor
