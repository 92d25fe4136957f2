/- What the proofs of this claim use, text by text. -/
import Derived.Test.YtcgaeknikfaghaaGreatDoorQD18
set_option linter.unusedSimpArgs false
set_option linter.unusedVariables false
set_option maxRecDepth 100000
set_option maxHeartbeats 25600000
namespace Go.Proofs.YtcgaeknikfaghaaGreatDoor
open Go.RowKit
theorem groups_turn {F:Nat→Prop} {w w':World} {base b n:Nat} {Dm:DataW Unit} (h:w.ownsGroups Tryz.prog 9 base 3 .i64 b n Dm) (ht:Turn F w w') (hF:∀ i,b≤i→i<w.heap.size→¬F i):w'.ownsGroups Tryz.prog 9 base 3 .i64 b n Dm:=by
 obtain⟨es,clock,hb,Ft,hs,rfl,hbb,hlen,hap⟩:=h
 have hbl:b<w.heap.size:=(Array.getElem?_eq_some_iff.1 hb).1
 have hk:∀ x∈es.toList,∀ zs,w.ownsInts base 3 .i64 x.val zs→w'.ownsInts base 3 .i64 x.val zs:=fun x _ zs ho=>⟨ht.own ho.1 fun g hg=>hF g (by have:=(ho.1.lt g hg).1;omega) (ho.1.lt g hg).2,ho.2⟩
 obtain⟨F1,hmap,_⟩:=Ft.stay (R':=rowElem (H:=Unit) w' base 3 .i64) (fun x hx z hz=>by
  obtain⟨zs,ho,rfl⟩:=rowElem_inv hz
  exact rowElem_mk (hk x hx zs ho))
 refine⟨es,clock,(ht.block b hbl (hF b (Nat.le_refl _) hbl)).trans hb,F1,hs,by rw[hmap],hbb,fun x hx zs ho=>?_,hap⟩
 obtain⟨y,hy⟩:=Ft.reads x hx
 unfold WideElems.rd at hy
 obtain⟨kl,_,h2⟩:=Option.bind_eq_some_iff.1 hy
 obtain⟨z,h2,_⟩:=Option.map_eq_some_iff.1 h2
 obtain⟨zs0,ho0,_⟩:=rowElem_inv h2
 rw[ho.unique (hk x hx zs0 ho0)]
 exact hlen x hx zs0 ho0
theorem TellP.zero (D:List Dc):TellP (.map []) D 0:=fun _ _=>rfl
theorem TellP.next {Dm:DataW Unit} {D:List Dc} {k:Nat} {s:ByteArray} (h:TellP Dm D k) (ht:Maps.IsMap Dm) (hs:D[k]?.map (·.name)=some s) {v':Value} {zs:List Int} (hz:zs=Pl D s k) (hv:(rowDatum .i64 v' (zs++[(k:Int)]):DataW Unit)=.slice (Go.ChangeShapes.lits .i64 (zs++[(k:Int)])) []):TellP (Dm.put (slit s) (rowDatum .i64 v' (zs++[(k:Int)]))) D (k+1):=fun t hlt=>by
 rw[Pl.succ]
 by_cases e:t=s
 ·subst e
  rw[if_pos hs,Maps.atKey_put_same ht (by trivial),hv,←hz]
  unfold plD
  rw[if_neg (by simp)]
 ·rw[if_neg (fun e2=>e (by rw[hs] at e2;exact(Option.some.inj e2).symm)),Maps.atKey_put_other (fun e2=>e (slit_inj e2))]
  exact h t hlt
theorem run_makeMapP (W:World):(Instr.makeMap 119 none).run Tryz.prog W=.ok (.map (some W.heap.size)) (W.alloc (.map #[] 0)):=run_makeMap _ W
theorem kplaces (w:World) (A:Option Addr) (n c:Nat) (L:List (DcP×Dc)) {G:Nat→Prop} (h:DcS w G A n c L) (hn:n≤1000) (hs:∀ q∈L,q.2.name.size≤maxLen):
  Calls Tryz.prog 63 #[.slice A n c] w fun e w'=>e=.returned (.map (some w.heap.size))∧(∃ Dm,w'.ownsGroups Tryz.prog 9 (w.heap.size+1) 3 .i64 w.heap.size n Dm∧TellP Dm (L.map (·.2)) n)∧Below w.heap.size w w':=by
 have hmm:=run_makeMapP
 obtain⟨i0,hi,hz0,hz1,hz2⟩:=info_parts infoI64
 have HH:=Lib.hid h
 have HS:=Lib.hid hs
 clear h hs
 go_enter Tryz.func63,Tryz.ntmps63
 go_wp2
 go_loopw [9] (fun iv wr=>∃ i:Nat,i≤n∧iv=.int .i64 (i:Nat)∧Hid (∃ Dm,wr.ownsGroups Tryz.prog 9 (w.heap.size+1) 3 .i64 w.heap.size i Dm∧TellP Dm (L.map (·.2)) i∧Below w.heap.size w wr∧w.heap.size+1≤wr.heap.size)) (fun iv _=>n-(intOf iv).toNat)
 case atStart=>exact⟨0,Nat.zero_le _,rfl,_,World.ownsGroups_made _ _ _ _ _,TellP.zero _,(Below.refl _ _).alloc (Nat.le_refl _) _,by simp⟩
 case round=>
  obtain⟨i,hin,rfl,HI⟩:=hrel
  by_cases hlt:i<n
  ·obtain⟨Dm,ho,hT,hB,hw1⟩:=HI.out
   obtain⟨b,off,P,d,rfl,hbl,hL,hD,_,hc⟩:=HH.out.get hlt
   obtain⟨hbw,hcc⟩:=hc wr (Turn.of_below hB)
   have k0:=hcc 0 _ rfl
   have k1:=hcc 1 _ rfl
   have k2:=hcc 2 _ rfl
   have k3:=hcc 3 _ rfl
   have k4:=hcc 4 _ rfl
   have k5:=hcc 5 _ rfl
   have k6:=hcc 6 _ rfl
   have k7:=hcc 7 _ rfl
   have k8:=hcc 8 _ rfl
   have k9:=hcc 9 _ rfl
   rw[Nat.add_zero] at k0
   have hds:d.name.size≤maxLen:=HS.out _ (List.mem_of_getElem? hL)
   obtain⟨name,hname⟩:∃ name,d.name=name:=⟨_,rfl⟩
   obtain⟨E1,hE1⟩:∃ E1,E1=(wr.alloc (.cells #[.string d.name,.int .i64 d.sort,.bool d.mac,.slice P.A d.par.length P.c,.bool d.body.list,.int .i64 d.body.k,.string d.body.T,.int .i64 d.body.ta,.int .i64 d.body.at_,.slice P.B d.body.L.length P.d] 56)):=⟨_,rfl⟩
   have t1:Turn (fun _=>False) wr E1.drew:=by rw[hE1];exact((Turn.refl _ wr).alloc _).drew
   have ho1:=groups_turn ho t1 (fun _ _ _=>id)
   obtain⟨A1,m1,c1',zs,hat,hoi,hzl,hback,hrun⟩:=groups_at ho1 (by unfold maxLen;omega) name (hname▸hds)
   obtain rfl:m1=zs.length:=by
    obtain⟨A',c',e⟩:=own_form hoi.1
    injection e
   have hzs:=owns_is hoi ((hT name (hname▸hds)).symm.trans hat)
   have hwf:(Lit.int .i64 (i:Int)).wf=true:=wf_nat (by omega)
   have hl0:(Instr.lookup 119 (.map (some w.heap.size)) (.string name) false).run Tryz.prog E1.drew=.ok (.slice A1 zs.length c1') E1.drew:=hrun _ rfl
   have hl1:(Instr.lookup 119 (.map (some w.heap.size)) (.string name) false).run Tryz.prog (E1.alloc (.cells #[.int .i64 (i:Int)] 3)).drew=.ok (.slice A1 zs.length c1') (E1.alloc (.cells #[.int .i64 (i:Int)] 3)).drew:=hrun _ (Below.heap_alloc E1.drew _ _ (by
    obtain⟨es,clock,hb,_⟩:=ho1
    exact(Array.getElem?_eq_some_iff.1 hb).1))
   have HN:Hid (E1.cell? ⟨wr.heap.size,0,none⟩=some (.string name)∧(E1.alloc (.cells #[.int .i64 (i:Int)] 3)).cell? ⟨wr.heap.size,0,none⟩=some (.string name)):=by
    have hb0:E1.cell? ⟨wr.heap.size,0,none⟩=some (.string name):=by rw[hE1,(Lies.new wr _ _).cell,←hname];rfl
    exact⟨hb0,by
     rw[World.cell?_of_block (w:=E1) (Below.heap_alloc E1 _ _ (by rw[hE1];simp))]
     exact hb0⟩
   have HO:Hid ((E1.drew.alloc (.cells #[.int .i64 (i:Int)] 3)).ownsRow (w.heap.size+1) 3 1 (.slice A1 zs.length c1') zs.length (i64s zs)):=hoi.1.alloc _
   have HF:Hid (∀ A2 c2 w2,(E1.drew.alloc (.cells #[.int .i64 (i:Int)] 3)).grownBy w2 (Value.slice A1 zs.length c1').ownBlock→w2.ownsRow (w.heap.size+1) 3 1 (.slice A2 (zs.length+1) c2) (zs.length+1) (i64s zs++[.int .i64 (i:Int)])→((Value.slice A2 (zs.length+1) c2).ownBlock=(Value.slice A1 zs.length c1').ownBlock∨(Value.slice A2 (zs.length+1) c2).ownBlock=some (E1.drew.alloc (.cells #[.int .i64 (i:Int)] 3)).heap.size)→
     w2.cell? ⟨wr.heap.size,0,none⟩=some (.string name)∧∃ w3,(Instr.mapUpdate 119 (.map (some w.heap.size)) (.string name) (.slice A2 (zs.length+1) c2)).run Tryz.prog w2=.ok () w3∧Hid (∃ Dm,w3.ownsGroups Tryz.prog 9 (w.heap.size+1) 3 .i64 w.heap.size (i+1) Dm∧TellP Dm (L.map (·.2)) (i+1)∧Below w.heap.size w w3∧w.heap.size+1≤w3.heap.size)):=fun A2 c2 w2 q1 q2 q3=>by
    have hap:=hoi.appended q2 hwf
    have hg:=(World.grownBy_alloc E1.drew (.cells #[.int .i64 (i:Int)] 3) (Value.slice A1 zs.length c1').ownBlock).trans q1
    obtain⟨w3,hr,ho3,hg3⟩:=hback w2 _ _ hg hap (by simp;omega) (q3.imp id fun e=>⟨_,e,by simp⟩)
    refine⟨?_,w3,hr,_,ho3,hT.next ?_ (by rw[hD,←hname];rfl) hzs (hap.datum_pos (by simp)),?_,?_⟩
    ·have hl:Lies (E1.drew.alloc (.cells #[.int .i64 (i:Int)] 3)) wr.heap.size 56 #[.string d.name,.int .i64 d.sort,.bool d.mac,.slice P.A d.par.length P.c,.bool d.body.list,.int .i64 d.body.k,.string d.body.T,.int .i64 d.body.ta,.int .i64 d.body.at_,.slice P.B d.body.L.length P.d]:=by
      refine(Below.heap_alloc E1.drew _ _ (by rw[hE1];simp)).trans ?_
      rw[hE1]
      exact Lies.new wr _ _
     have hl2:=(Turn.of_grown (F:=fun k=>(Value.slice A1 zs.length c1').ownBlock=some k) q1 fun _ e _=>e).lies hl (own_not_lies (hoi.1.alloc _) hl (by decide))
     rw[hl2.cell,←hname]
     rfl
    ·obtain⟨es,clock,_,_,_,rfl,_⟩:=ho
     exact⟨_,rfl⟩
    ·exact(hB.trans ((Turn.none_ t1 (fun _=>id)).mono hB.size)).groups hoi hg hg3 (Nat.le_trans hB.size t1.size) (Nat.le_succ _) (Nat.le_refl _)
    ·have:=t1.size
     have:=hg.size
     have:=hg3.size
     omega
   have hlt':(i:Int)<(n:Int):=by omega
   have hi0:(0:Int)≤(i:Int):=by omega
   have hiw:IntKind.i64.wrap ((i:Int)+1)=(i:Int)+1:=IntWalk.i64_in _ (by omega)
   have hzm:zs.length+1≤maxLen:=by unfold maxLen;omega
   have hz8:(zs.length+1)*8≤140737488355328:=by omega
   have hbase:w.heap.size+1≤(E1.drew.alloc (.cells #[.int .i64 (i:Int)] 3)).heap.size:=by
    have:=t1.size
    have:E1.drew.heap.size=E1.heap.size:=rfl
    simp
    omega
   obtain⟨zl,hzl2⟩:∃ zl,zs.length=zl:=⟨_,rfl⟩
   obtain⟨L1,hL1⟩:∃ L1,i64s zs=L1:=⟨_,rfl⟩
   rw[hzl2,hL1] at HO HF
   rw[hzl2] at hl0 hl1 hzm hz8
   rw[hname] at k0 hE1
   subst hE1
   clear HI ho hT hB hw1 hc hcc hL hD hds hname t1 ho1 hat hoi hzl hback hrun hzs hwf hzl2 hL1 HS HH
   go_wp2_with fail
   obtain⟨n1,n2⟩:=HN.out
   go_region_law (refine step_append_row rfl (.tmp 20) (.tmp 22) 44 rfl (w.heap.size+1) 3 i0 (.int .i64 0) 8 Tryz.underlying44 hi hz0 hz1 hz2 rfl (.slice A1 zl c1') zl L1 (by simp[Act.eval]) HO.out _ 1 1 [.int .i64 (i:Int)] (by simp[Act.eval]) rfl (cell_one_new _ _ _) (by intro u hu;simp at hu;subst hu;rfl) hzm hz8 hbase ?_;intro A2 c2 w2 o2 g2 a2;obtain⟨n3,w3,hr3,H3⟩:=HF.out A2 c2 w2 g2 o2 a2;clear o2 g2 a2)
   all_goals
    clear HO HF k0 k1 k2 k3 k4 k5 k6 k7 k8 k9 hl0 hl1 n1 n2 n3 HN hr3
    go_wp2
    go_roundw
    case rel=>exact⟨i+1,by omega,by go_num,H3.out⟩
    case measure=>simp[intOf];omega
  ·obtain rfl:i=n:=by omega
   obtain⟨Dm,ho,hT,hB,_⟩:=HI.out
   have HV:=Lib.hid (And.intro ho (And.intro hT hB))
   clear HI ho hT hB HH HS hlt
   go_wp2
   go_ret
   exact⟨rfl,⟨Dm,HV.out.1,HV.out.2.1⟩,HV.out.2.2⟩
theorem Pl.lt {D:List Dc} {s:ByteArray} {k:Nat}:∀ x∈Pl D s k,x<(k:Int):=fun x hx=>by
 obtain⟨i,hi,rfl⟩:=List.mem_map.1 hx
 have:=List.mem_range.1 (List.mem_filter.1 hi).1
 omega
theorem Pl.split (D:List Dc) (s:ByteArray) (n:Nat):∀ {K:Nat},n≤K→∃ r,Pl D s K=Pl D s n++r∧∀ x∈r,(n:Int)≤x:=by
 intro K h
 induction K with
 |zero=>
  obtain rfl:n=0:=by omega
  exact⟨[],by simp,fun _ h=>(List.not_mem_nil h).elim⟩
 |succ K ih=>
  rcases Nat.lt_or_ge K n with e|e
  ·obtain rfl:n=K+1:=by omega
   exact⟨[],by simp,fun _ h=>(List.not_mem_nil h).elim⟩
  ·obtain⟨r,h1,h2⟩:=ih e
   rw[Pl.succ]
   by_cases hd:D[K]?.map (·.name)=some s
   ·rw[if_pos hd,h1]
    refine⟨r++[(K:Int)],by simp,fun x hx=>?_⟩
    rcases List.mem_append.1 hx with hx|hx
    ·exact h2 x hx
    ·rw[List.mem_singleton.1 hx];omega
   ·rw[if_neg hd]
    exact⟨r,h1,h2⟩
theorem Pl.decl (D:List Dc) (s:ByteArray) (n:Nat):(Bd.decl D s n=none∧Pl D s n=[])∨∃ j l,Bd.decl D s n=some j∧Pl D s n=l++[(j:Int)]:=by
 induction n with
 |zero=>exact .inl ⟨rfl,rfl⟩
 |succ k ih=>
  rw[Bd.decl,Pl.succ]
  by_cases hd:D[k]?.map (·.name)=some s
  ·rw[if_pos hd,if_pos hd]
   exact .inr ⟨k,_,rfl,rfl⟩
  ·rw[if_neg hd,if_neg hd]
   exact ih
def Mng.cells:Mng→Int×Int
 | .nothing=>(0,0)
 | .term id=>(1,id)
 | .decl j=>(2,(j:Int))
def Mk.ahead (D:List Dc) (s:ByteArray) (n:Nat):Mng:=match Bd.decl D s n with
 |some j=> .decl j
 |none=> .nothing
abbrev SrP (s:ByteArray) (pb:Nat) (x:Int×Int):Array Value:=#[.string s,.map (some pb),.int .i64 x.1,.int .i64 x.2]
theorem klast (w:World) (S pb:Nat) (D:List Dc) (K n:Nat) (s:ByteArray) (x:Int×Int) (hS:Lies w S 246 (SrP s pb x)) (hP:PlAt w pb D K) (hs:s.size≤maxLen) (hn:n≤K) (hK:K≤1000):
  Calls Tryz.prog 214 #[.pointer (some ⟨S,0,none⟩),.int .i64 (n:Int)] w fun e w'=>e=.returned (.agg #[.int .i64 (Mk.ahead D s n).cells.1,.int .i64 (Mk.ahead D s n).cells.2])∧Below w.heap.size w w':=by
 obtain⟨W0,hW0⟩:∃ W0,w.alloc (.cells #[.int .i64 0,.int .i64 0] 218)=W0:=⟨_,rfl⟩
 have hB0:Below w.heap.size w W0:=by rw[←hW0];exact(Below.refl _ w).alloc (Nat.le_refl _) _
 have hL0:Lies W0 w.heap.size 218 #[.int .i64 0,.int .i64 0]:=by rw[←hW0];exact Lies.new w _ _
 have hP0:=hP.below hB0
 obtain⟨A,m,c,hN,hrun⟩:=hP0.2 s hs
 have hml:m≤1000:=by
  rw[←hN.len]
  exact Nat.le_trans (Pl.len D s K) hK
 have hS0:Lies W0 S 246 (SrP s pb x):=(hB0.block S hS.lt).trans hS
 have s0:W0.cell? ⟨S,0,none⟩=some (.string s):=by rw[hS0.cell];rfl
 have s1:W0.cell? ⟨S,1,none⟩=some (.map (some pb)):=by rw[hS0.cell];rfl
 have sl:=hS0.lt
 have hlk:∀ nq,(Instr.lookup 119 (.map (some pb)) (.string s) false).run Tryz.prog (W0.drewN nq)=.ok (.slice A m c) (W0.drewN nq):=fun nq=>hrun _ rfl
 obtain⟨r,hr1,hr2⟩:=Pl.split D s n hn
 have hkm:(Pl D s n).length≤m:=by rw[←hN.len,hr1];simp
 have HB:Hid (∀ W,Below W0.heap.size W0 W→Calls Tryz.prog 231 #[.slice A m c,.int .i64 (n:Int)] W fun e w'=>(∃ b,e=.returned (.tuple #[.int .i64 ((Pl D s n).length:Nat),.bool b]))∧w'=W):=fun W hW=>
  kbsearch W A m c (Pl D s K) (hN.below hW) (by omega) n (Pl D s n).length hkm (fun i y hi hy=>by
   rw[hr1,List.getElem?_append_left hi] at hy
   exact Pl.lt y (List.mem_of_getElem? hy)) (fun i y hi hy=>by
   rw[hr1,List.getElem?_append_right hi] at hy
   exact hr2 y (List.mem_of_getElem? hy))
 have HB0:=Lib.hid hB0
 have HL0:=Lib.hid hL0
 have HN:=Lib.hid hN
 rcases Pl.decl D s n with⟨hd,hpl⟩|⟨j,l,hd,hpl⟩
 ·have ha:Mk.ahead D s n=.nothing:=by unfold Mk.ahead;rw[hd]
  rw[ha]
  rw[hpl] at HB
  clear hS hP hs hn hP0 hN hrun hS0 hr1 hr2 hkm hd hpl ha hB0 hL0 HN
  go_enter Tryz.func214,Tryz.ntmps214
  go_wp2_with fail
  go_quiet (fail)
  go_wp2_with fail
  refine(HB.out _ (below_drewN (Below.refl _ W0) _)).mono ?_
  rintro e w1 ⟨⟨b,rfl⟩,rfl⟩
  have hb1:=below_drewN (Below.refl W0.heap.size W0) nq
  have hl1:=(hb1.block _ HL0.out.lt).trans HL0.out
  have HE:Hid (Below w.heap.size w (((W0.drewN nq).setCell ⟨w.heap.size,0,none⟩ (.int .i64 0)).setCell ⟨w.heap.size,1,none⟩ (.int .i64 0))):=
   (((Turn.of_below (F:=fun k=>w.heap.size≤k) (HB0.out.trans (hb1.mono HB0.out.size))).put (p:=⟨w.heap.size,0,none⟩) (.inl (Nat.le_refl _)) _).put (p:=⟨w.heap.size,1,none⟩) (.inl (Nat.le_refl _)) _).below (Nat.le_refl _) fun _ h=>h
  have hl2:=(Lies.put hl1 0 (.int .i64 0)).put 1 (.int .i64 0)
  have k0:=Lies.cell hl1 0
  have k1:=Lies.cell hl1 1
  have f0:=Lies.free hl1 0
  have f1:=Lies.free hl1 1
  have ll:=Lies.lt hl1
  have r0:=hl2.cell 0
  have r1:=hl2.cell 1
  simp at k0 k1 r0 r1
  clear HB HB0 HL0 hb1 hl1 hl2 hlk s0 s1
  go_wp2
  exact bodyPost_ret (v:=.agg #[.int .i64 0,.int .i64 0]) (by simp[results,Tryz.results214,go_sem,r0,r1]) rfl ⟨rfl,HE.out⟩
 ·have ha:Mk.ahead D s n=.decl j:=by unfold Mk.ahead;rw[hd]
  rw[ha]
  obtain⟨q,hq⟩:∃ q,l.length=q:=⟨_,rfl⟩
  have hlen:(Pl D s n).length=q+1:=by rw[hpl];simp[hq]
  rw[hlen] at HB hkm
  have hget:(Pl D s K)[q]?=some (j:Int):=by
   rw[hr1,hpl,List.getElem?_append_left (by simp[hq]),List.getElem?_append_right (by omega),hq]
   simp
  obtain⟨b,off,z,rfl,hz,_,_,hc⟩:=hN.get (i:=q) (by omega)
  obtain rfl:z=(j:Int):=by rw[hget] at hz;exact(Option.some.inj hz).symm
  have HC:=Lib.hid hc
  have hqm:(q:Int)<(m:Int):=by omega
  have hq0:(0:Int)≤(q:Int):=by omega
  have hqe:(((q+1:Nat):Int) == 0)=false:=beq_eq_false_iff_ne.2 (by omega)
  have hqs:((q+1:Nat):Int)-1=(q:Int):=by omega
  have hqc:((q+1:Nat):Int)=(q:Int)+1:=by omega
  rw[hqc] at HB hqe hqs
  clear hS hP hs hn hP0 hN hrun hS0 hr1 hr2 hkm hd hpl ha hB0 hL0 HN hlen hget hz hc hq hqc
  go_enter Tryz.func214,Tryz.ntmps214
  go_wp2_with fail
  go_quiet (fail)
  go_wp2_with fail
  refine(HB.out _ (below_drewN (Below.refl _ W0) _)).mono ?_
  rintro e w1 ⟨⟨b2,rfl⟩,rfl⟩
  have hb1:=below_drewN (Below.refl W0.heap.size W0) nq
  have hl1:=(hb1.block _ HL0.out.lt).trans HL0.out
  obtain⟨hbl,cj⟩:=HC.out _ hb1
  have HE:Hid (Below w.heap.size w (((W0.drewN nq).setCell ⟨w.heap.size,0,none⟩ (.int .i64 2)).setCell ⟨w.heap.size,1,none⟩ (.int .i64 (j:Int)))):=
   (((Turn.of_below (F:=fun k=>w.heap.size≤k) (HB0.out.trans (hb1.mono HB0.out.size))).put (p:=⟨w.heap.size,0,none⟩) (.inl (Nat.le_refl _)) _).put (p:=⟨w.heap.size,1,none⟩) (.inl (Nat.le_refl _)) _).below (Nat.le_refl _) fun _ h=>h
  have hl2:=(Lies.put hl1 0 (.int .i64 2)).put 1 (.int .i64 (j:Int))
  have k0:=Lies.cell hl1 0
  have k1:=Lies.cell hl1 1
  have f0:=Lies.free hl1 0
  have f1:=Lies.free hl1 1
  have ll:=Lies.lt hl1
  have r0:=hl2.cell 0
  have r1:=hl2.cell 1
  simp at k0 k1 r0 r1
  clear HB HB0 HL0 hb1 hl1 hl2 hlk s0 s1 HC
  go_wp2
  exact bodyPost_ret (v:=.agg #[.int .i64 2,.int .i64 (j:Int)]) (by simp[results,Tryz.results214,go_sem,r0,r1]) rfl ⟨rfl,HE.out⟩
def Mk.one (D:List Dc) (s:ByteArray) (x:Scp):Option Mng:=match Bd.bound x.terms s with
 |some i=>some (.term i)
 |none=>if x.body=true then some (Mk.ahead D s x.ahead) else none
theorem Mk.find_one (D:List Dc) (s:ByteArray) (x:Scp) (l:List Scp):Mk.find D s (x::l)=match Mk.one D s x with
  |some m=>m
  |none=>Mk.find D s l:=by
 rw[Mk.find]
 unfold Mk.one Mk.ahead
 cases Bd.bound x.terms s with
 |some i=>rfl
 |none=>
  cases x.body with
  |true=>
   cases Bd.decl D s x.ahead <;> rfl
  |false=>rfl
theorem kends (wp w:World) (S pb:Nat) (D:List Dc) (K:Nat) (s:ByteArray) (x:Int×Int) (tv:Value) (y:Scp) (hb:Below wp.heap.size wp w) (hSp:wp.heap.size≤S) (hS:Lies w S 246 (SrP s pb x)) (hP:PlAt wp pb D K) (hs:s.size≤maxLen) (hy:ScAs wp (fun _=>True) tv y) (hn:y.ahead≤K) (hK:K≤1000):
  Calls Tryz.prog 193 #[.pointer (some ⟨S,0,none⟩),.agg #[tv,.bool y.body,.int .i64 (y.ahead:Int)]] w fun e w'=>e=.returned (.bool (Mk.one D s y).isSome)∧Below wp.heap.size wp w'∧Lies w' S 246 (SrP s pb (((Mk.one D s y).map Mng.cells).getD x)):=by
 obtain⟨W0,hW0⟩:∃ W0,w.alloc (.cells #[tv,.bool y.body,.int .i64 (y.ahead:Int)] 127)=W0:=⟨_,rfl⟩
 have hB0:Below w.heap.size w W0:=by rw[←hW0];exact(Below.refl _ w).alloc (Nat.le_refl _) _
 have hL0:Lies W0 w.heap.size 127 #[tv,.bool y.body,.int .i64 (y.ahead:Int)]:=by rw[←hW0];exact Lies.new w _ _
 have hbp:Below wp.heap.size wp W0:=hb.trans (hB0.mono hb.size)
 have hS0:Lies W0 S 246 (SrP s pb x):=(hB0.block S hS.lt).trans hS
 have s0:W0.cell? ⟨S,0,none⟩=some (.string s):=by rw[hS0.cell];rfl
 have sl:=hS0.lt
 have q0:W0.cell? ⟨w.heap.size,0,none⟩=some tv:=by rw[hL0.cell];rfl
 have q1:W0.cell? ⟨w.heap.size,1,none⟩=some (.bool y.body):=by rw[hL0.cell];rfl
 have q2:W0.cell? ⟨w.heap.size,2,none⟩=some (.int .i64 (y.ahead:Int)):=by rw[hL0.cell];rfl
 have HLn:Hid (∀ nq,Lies (W0.drewN nq) S 246 (SrP s pb x)):=fun nq=>hS0
 have HBn:Hid (∀ nq,Below wp.heap.size wp (W0.drewN nq)):=fun nq=>below_drewN hbp nq
 have hlk:∀ nq,(Instr.lookup 98 tv (.string s) true).run Tryz.prog (W0.drewN nq)=.ok (.tuple #[.int .i64 ((Bd.bound y.terms s).getD 0),.bool (Bd.bound y.terms s).isSome]) (W0.drewN nq):=fun nq=>
  (hy.turn (F:=fun _=>False) (G':=fun _=>True) (Turn.of_below (below_drewN hbp nq)) fun _ _ _=>⟨id,trivial⟩).look s hs
 have HSp:=Lib.hid hSp
 have HPut:Hid (∀ nq a b,Below wp.heap.size wp (((W0.drewN nq).setCell ⟨S,2,none⟩ (.int .i64 a)).setCell ⟨S,3,none⟩ (.int .i64 b))∧Lies (((W0.drewN nq).setCell ⟨S,2,none⟩ (.int .i64 a)).setCell ⟨S,3,none⟩ (.int .i64 b)) S 246 (SrP s pb (a,b))):=fun nq a b=>
  ⟨(((Turn.of_below (F:=fun k=>wp.heap.size≤k) (below_drewN hbp nq)).put (p:=⟨S,2,none⟩) (.inl hSp) _).put (p:=⟨S,3,none⟩) (.inl hSp) _).below (Nat.le_refl _) fun _ h=>h,by
   have:=(Lies.put (show Lies (W0.drewN nq) S _ (SrP s pb x) from hS0) 2 (.int .i64 a)).put 3 (.int .i64 b)
   simpa using this⟩
 have hcl:∀ nq,(W0.drewN nq).cell? ⟨S,2,none⟩=some (.int .i64 x.1)∧(W0.drewN nq).cell? ⟨S,3,none⟩=some (.int .i64 x.2)∧(W0.drewN nq).frozen? ⟨S,2,none⟩=false∧(W0.drewN nq).frozen? ⟨S,3,none⟩=false:=fun nq=>by
  have h:Lies (W0.drewN nq) S 246 (SrP s pb x):=hS0
  exact⟨by rw[h.cell];rfl,by rw[h.cell];rfl,h.free 2,h.free 3⟩
 have HCl:=Lib.hid hcl
 obtain⟨p,rfl⟩:=hy.form
 cases hbd:Bd.bound y.terms s with
 |some i=>
  have h1:Mk.one D s y=some (.term i):=by unfold Mk.one;rw[hbd]
  rw[h1]
  rw[hbd] at hlk
  simp only[Option.getD_some,Option.isSome_some] at hlk
  clear hb hSp hS hP hs hy hn hbp hS0 hL0 hB0 hbd h1 hcl HBn HLn
  go_enter Tryz.func193,Tryz.ntmps193
  go_wp2_with fail
  go_quiet (fail)
  obtain⟨e2,e3,f2,f3⟩:=HCl.out nq
  have HE:=Lib.hid (HPut.out nq 1 i)
  go_wp2
  go_ret
  exact⟨rfl,HE.out⟩
 |none=>
  rw[hbd] at hlk
  simp only[Option.getD_none,Option.isSome_none] at hlk
  cases hbody:y.body with
  |true=>
   have h1:Mk.one D s y=some (Mk.ahead D s y.ahead):=by unfold Mk.one;rw[hbd];exact if_pos hbody
   rw[h1]
   have HA:Hid (∀ nq,Calls Tryz.prog 214 #[.pointer (some ⟨S,0,none⟩),.int .i64 (y.ahead:Int)] (W0.drewN nq) fun e w'=>e=.returned (.agg #[.int .i64 (Mk.ahead D s y.ahead).cells.1,.int .i64 (Mk.ahead D s y.ahead).cells.2])∧Below (W0.drewN nq).heap.size (W0.drewN nq) w'):=fun nq=>
    klast (W0.drewN nq) S pb D K y.ahead s x hS0 (hP.below (below_drewN hbp nq)) hs hn hK
   simp only[Option.isSome_some,Option.map_some,Option.getD_some]
   obtain⟨m,hm⟩:∃ m,(Mk.ahead D s y.ahead).cells=m:=⟨_,rfl⟩
   rw[hm] at HA ⊢
   obtain⟨m1,m2⟩:=m
   rw[hbody] at q1
   obtain⟨ah,hah⟩:∃ ah,y.ahead=ah:=⟨_,rfl⟩
   rw[hah] at HA q2 hW0 ⊢
   rw[hbody] at hW0
   clear hb hSp hS hP hs hy hn hbp hS0 hL0 hB0 hbd h1 hcl hm HPut HCl hbody hah
   go_enter Tryz.func193,Tryz.ntmps193
   go_wp2_with fail
   go_quiet (fail)
   go_wp2_with fail
   refine(HA.out _).mono ?_
   rintro e w1 ⟨rfl,b1⟩
   have hl1:=(b1.block S (Lies.lt (HLn.out nq))).trans (HLn.out nq)
   have e2:=Lies.cell hl1 2
   have e3:=Lies.cell hl1 3
   have f2:=Lies.free hl1 2
   have f3:=Lies.free hl1 3
   have ll:=Lies.lt hl1
   simp at e2 e3
   have HE:Hid (Below wp.heap.size wp ((w1.setCell ⟨S,2,none⟩ (.int .i64 m1)).setCell ⟨S,3,none⟩ (.int .i64 m2))∧Lies ((w1.setCell ⟨S,2,none⟩ (.int .i64 m1)).setCell ⟨S,3,none⟩ (.int .i64 m2)) S 246 (SrP s pb (m1,m2))):=
    ⟨(((Turn.of_below (F:=fun k=>wp.heap.size≤k) ((HBn.out nq).trans (b1.mono (HBn.out nq).size))).put (p:=⟨S,2,none⟩) (.inl HSp.out) _).put (p:=⟨S,3,none⟩) (.inl HSp.out) _).below (Nat.le_refl _) fun _ h=>h,by
     have:=(Lies.put hl1 2 (.int .i64 m1)).put 3 (.int .i64 m2)
     simpa using this⟩
   have z1:w1.cell? ⟨w.heap.size,1,none⟩=some (.bool true):=by
    have hlt:w.heap.size<(W0.drewN nq).heap.size:=by rw[←hW0];simp
    exact(b1.cell (p:=⟨w.heap.size,1,none⟩) hlt).trans q1
   have hne:w.heap.size≠S∨True:=.inr trivial
   have z2:((w1.setCell ⟨S,2,none⟩ (.int .i64 m1)).setCell ⟨S,3,none⟩ (.int .i64 m2)).cell? ⟨w.heap.size,1,none⟩=some (.bool true):=by
    have hlt:w.heap.size<(W0.drewN nq).heap.size:=by rw[←hW0];simp
    have hl:Lies (W0.drewN nq) w.heap.size 127 #[.map p,.bool true,.int .i64 (ah:Int)]:=by rw[←hW0];exact Lies.new w _ _
    have hl2:=(b1.block _ hlt).trans hl
    have hne:w.heap.size≠S:=fun e=>by
     have:=Option.some.inj (hl1.symm.trans (e▸hl2))
     injection this with _ h
     exact absurd h (by decide)
    have t:=(((Turn.refl (fun k=>k=S) w1).put (p:=⟨S,2,none⟩) (.inl rfl) (.int .i64 m1)).put (p:=⟨S,3,none⟩) (.inl rfl) (.int .i64 m2)).lies hl2 hne
    rw[Lies.cell t]
    rfl
   clear HA HBn HLn hlk b1 hl1 hne
   go_wp2
   go_ret
   exact⟨rfl,HE.out⟩
  |false=>
   have h1:Mk.one D s y=none:=by unfold Mk.one;rw[hbd];exact if_neg (by rw[hbody];decide)
   rw[h1]
   rw[hbody] at q1 hW0
   clear hb hSp hS hP hs hy hn hbp hS0 hL0 hB0 hbd h1 hcl HPut HCl hbody
   go_enter Tryz.func193,Tryz.ntmps193
   go_wp2_with fail
   go_quiet (fail)
   have HE:=Lib.hid (And.intro (HBn.out nq) (HLn.out nq))
   go_wp2
   go_ret
   exact⟨rfl,HE.out⟩
theorem kfromEnd (wp w:World) (S pb:Nat) (D:List Dc) (K:Nat) (s:ByteArray) (A:Option Addr) (n c:Nat) (SL:List (Value×Scp)) (hb:Below wp.heap.size wp w) (hSp:wp.heap.size≤S) (hS:Lies w S 246 (SrP s pb (0,0))) (hP:PlAt wp pb D K) (hs:s.size≤maxLen) (hK:K≤1000)
  (hrow:wp.ownsRow 0 127 3 (.slice A n c) n (SL.flatMap scells9)) (hsl:SL.length=n) (hy:∀ q∈SL,ScAs wp (fun _=>True) q.1 q.2∧q.2.ahead≤K) (hn:n≤100000):
  Calls Tryz.prog 192 #[.slice A n c,.func (.func 193) #[.pointer (some ⟨S,0,none⟩)] #[]] w fun e w'=>e=.returned (.tuple #[])∧Below wp.heap.size wp w'∧Lies w' S 246 (SrP s pb (Mk.says D (SL.map (·.2)) s).cells):=by
 obtain⟨R,hR⟩:∃ R,Mk.says D (SL.map (·.2)) s=R:=⟨_,rfl⟩
 rw[hR]
 have H0:Hid (Mk.find D s (((SL.take n).map (·.2)).reverse)=R):=by
  show _=_
  rw[←hsl,List.take_length]
  exact hR
 have HE:Hid (∀ k q,SL[k]?=some q→∃ g,A=some ⟨g,0,none⟩∧g<wp.heap.size∧∀ W,Below wp.heap.size wp W→g<W.heap.size∧W.cell? ⟨g,k*3,none⟩=some q.1∧W.cell? ⟨g,k*3+1,none⟩=some (.bool q.2.body)∧W.cell? ⟨g,k*3+2,none⟩=some (.int .i64 (q.2.ahead:Int))):=fun k q hq=>by
  have hk:=(List.getElem?_eq_some_iff.1 hq).1
  rcases hrow.2 with⟨_,e⟩|⟨g,cap,cur,e,_,hg,_⟩
  ·omega
  ·injection e with e1 _ e3
   have hgl:=(Array.getElem?_eq_some_iff.1 hg).1
   have hcell:∀ j u,j<3→(scells9 q)[j]?=some u→wp.cell? ⟨g,k*3+j,none⟩=some u:=fun j u hj hu=>by
    have:=hrow.cells (g:=g) (by rw[e1];rfl) (k*3+j) u (by rw[flat_get (k:=3) (fun _=>rfl) SL k j q hq hj];exact hu)
    rw[addr_add,Nat.zero_add] at this
    exact this
   refine⟨g,e1,hgl,fun W hW=>⟨Nat.lt_of_lt_of_le hgl hW.size,?_,?_,?_⟩⟩
   ·have:=hcell 0 _ (by decide) rfl
    rw[Nat.add_zero] at this
    exact(hW.cell (p:=⟨g,k*3,none⟩) hgl).trans this
   ·exact(hW.cell (p:=⟨g,k*3+1,none⟩) hgl).trans (hcell 1 _ (by decide) rfl)
   ·exact(hW.cell (p:=⟨g,k*3+2,none⟩) hgl).trans (hcell 2 _ (by decide) rfl)
 have HC:Hid (∀ W x q,q∈SL→Below wp.heap.size wp W→Lies W S 246 (SrP s pb x)→Calls Tryz.prog 193 #[.pointer (some ⟨S,0,none⟩),.agg #[q.1,.bool q.2.body,.int .i64 (q.2.ahead:Int)]] W fun e w'=>e=.returned (.bool (Mk.one D s q.2).isSome)∧Below wp.heap.size wp w'∧Lies w' S 246 (SrP s pb (((Mk.one D s q.2).map Mng.cells).getD x))):=fun W x q hq hW hL=>
  kends wp W S pb D K s x q.1 q.2 hW hSp hL hP hs (hy q hq).1 (hy q hq).2 hK
 have HForm:Hid (∀ q∈SL,∃ o,q.1=.map o):=fun q hq=>(hy q hq).1.form
 have HB:=Lib.hid hb
 have HS:=Lib.hid hS
 have HL:=Lib.hid hsl
 clear hb hS hP hs hrow hsl hy hR hSp
 go_enter Tryz.func192,Tryz.ntmps192
 go_wp2
 go_loopw [4] (fun iv wr=>∃ k:Nat,k≤n∧iv=.int .i64 ((k:Int)-1)∧Hid (Below wp.heap.size wp wr∧Lies wr S 246 (SrP s pb (0,0))∧Mk.find D s (((SL.take k).map (·.2)).reverse)=R)) (fun iv _=>(intOf iv+1).toNat)
 case atStart=>exact⟨n,Nat.le_refl _,by go_num,HB.out,HS.out,H0.out⟩
 case round=>
  obtain⟨k,hk,rfl,HI⟩:=hrel
  rcases Nat.eq_zero_or_pos k with rfl|hpos
  ·obtain⟨h1,h2,h3⟩:=HI.out
   have e:R=.nothing:=by rw[←h3];rfl
   subst e
   have HV:=Lib.hid (And.intro h1 h2)
   clear HI h1 h2 h3 HE HC HB HS HL H0 HForm
   go_wp2
   go_end0
   exact⟨rfl,HV.out⟩
  ·obtain⟨j,rfl⟩:∃ j,k=j+1:=⟨k-1,by omega⟩
   have hjc:((j+1:Nat):Int)-1=(j:Int):=by omega
   rw[hjc]
   obtain⟨q,hq⟩:∃ q,SL[j]?=some q:=⟨_,List.getElem?_eq_getElem (by rw[HL.out];omega)⟩
   obtain⟨g,rfl,hg,hc⟩:=HE.out j q hq
   obtain⟨h1,h2,h3⟩:=HI.out
   obtain⟨hgl,c0,c1,c2⟩:=hc wr h1
   have hmem:=List.mem_of_getElem? hq
   have HK:=Lib.hid (HC.out wr (0,0) q hmem h1 h2)
   rw[take_one hq,List.map_append,List.reverse_append] at h3
   have h3:Mk.find D s (q.2::((SL.take j).map (·.2)).reverse)=R:=h3
   rw[Mk.find_one] at h3
   obtain⟨o,ho⟩:=HForm.out q hmem
   obtain⟨qv,y⟩:=q
   simp only at ho
   subst ho
   simp only at c0 c1 c2 HK h3
   have hj0:(0:Int)≤(j:Int):=by omega
   have hjn:(j:Int)<(n:Int):=by omega
   cases hone:Mk.one D s y with
   |some m=>
    rw[hone] at h3 HK
    simp only at h3
    subst h3
    simp only[Option.isSome_some,Option.map_some,Option.getD_some] at HK
    clear hq hc hg h1 h2 HI hmem HE HC HB HS HL H0 HForm hone
    go_wp2_with fail
    refine HK.out.mono ?_
    rintro e w1 ⟨rfl,b1,l1⟩
    have HV:=Lib.hid (And.intro b1 l1)
    clear HK b1 l1 c0 c1 c2
    go_wp2
    first|(go_end0;exact⟨rfl,HV.out⟩)|exact bodyPost_ret (by simp[results,Tryz.results192,go_sem]) rfl ⟨rfl,HV.out⟩
   |none=>
    rw[hone] at h3 HK
    simp only at h3
    simp only[Option.isSome_none,Option.map_none,Option.getD_none] at HK
    have H3:=Lib.hid h3
    have hiw:IntKind.i64.wrap ((j:Int)-1)=(j:Int)-1:=IntWalk.i64_in _ (by omega)
    clear hq hc hg h1 h2 h3 HI hmem HE HC HB HS HL H0 HForm hone
    go_wp2_with fail
    refine HK.out.mono ?_
    rintro e w1 ⟨rfl,b1,l1⟩
    have HV:=Lib.hid (And.intro b1 (And.intro l1 H3.out))
    clear HK b1 l1 c0 c1 c2 H3
    go_wp2
    go_roundw
    case rel=>exact⟨j,by omega,by go_num,HV.out⟩
    case measure=>simp[intOf]
structure Mk.Env.Ok (E:Mk.Env):Prop where
 dc:DcS E.v E.P E.A E.n E.c E.L
 few:E.n≤200
 T:Pow9 E.w0
 K:Ask9 E.w0
 lo:∀ k,E.pb≤k→k<E.v.heap.size→E.P k
 pl:∃ base q Dm,q<maxLen∧E.v.ownsGroups Tryz.prog 9 base 3 .i64 E.pb q Dm∧TellP Dm E.D E.n
theorem Mk.Rep.places {E:Mk.Env} (hE:E.Ok) {w:World} {M:Nat} {Y:Mk.Lay} {s:Ms} (h:Mk.Rep E w M Y s):PlAt w E.pb E.D E.n:=by
 obtain⟨base,q,Dm,h1,h2,h3⟩:=hE.pl
 exact groups_look h2 h1 h3 h.pl fun i hi hl e=>e (hE.lo i hi hl)
theorem ksays (E:Mk.Env) (hE:E.Ok) (w:World) (M:Nat) (Y:Mk.Lay) (s:Ms) (t:ByteArray) (h:Mk.Rep E w M Y s) (ht:t.size≤maxLen) (ha:∀ x∈s.sc,x.ahead≤E.n) (hn:s.sc.length≤5000):
  Calls Tryz.prog 164 #[.pointer (some ⟨M,0,none⟩),.string t] w fun e w'=>e=.returned (.agg #[.int .i64 (Mk.says E.D s.sc t).cells.1,.int .i64 (Mk.says E.D s.sc t).cells.2])∧Below w.heap.size w w':=by
 have c2:w.cell? ⟨M,2,none⟩=some (.map (some E.pb)):=by rw[h.own.cell];rfl
 have c4:w.cell? ⟨M,4,none⟩=some (.slice Y.sA s.sc.length Y.sc):=by rw[h.own.cell];rfl
 have hMl:=h.own.lt
 obtain⟨W0,hW0⟩:∃ W0,W0=(w.alloc (.cells #[.int .i64 0,.int .i64 0] 218)).alloc (.cells (SrP t E.pb (0,0)) 246):=⟨_,rfl⟩
 have hB0:Below w.heap.size w W0:=by rw[hW0];exact((Below.refl _ w).alloc (Nat.le_refl _) _).alloc (by simp) _
 have hL0:Lies W0 w.heap.size 218 #[.int .i64 0,.int .i64 0]:=by rw[hW0];exact(Below.heap_alloc _ _ _ (by simp)).trans (Lies.new w _ _)
 have hS0:Lies W0 (w.heap.size+1) 246 (SrP t E.pb (0,0)):=by
  have:=Lies.new (w.alloc (.cells #[.int .i64 0,.int .i64 0] 218)) 246 (SrP t E.pb (0,0))
  rw[World.size_alloc] at this
  rw[hW0]
  exact this
 have hSl:Y.SL.length=s.sc.length:=by rw[←h.sl,List.length_map]
 obtain⟨W1,hW1⟩:∃ W1,W1=w.alloc (.cells #[.int .i64 0,.int .i64 0] 218):=⟨_,rfl⟩
 have h1:Mk.Rep E W1 M Y s:=by rw[hW1];exact h.alloc _
 have hB1:Below W1.heap.size W1 W0:=by rw[hW0,hW1];exact(Below.refl _ _).alloc (Nat.le_refl _) _
 have HF:Hid (Calls Tryz.prog 192 #[.slice Y.sA s.sc.length Y.sc,.func (.func 193) #[.pointer (some ⟨w.heap.size+1,0,none⟩)] #[]] W0 fun e w'=>e=.returned (.tuple #[])∧Below W1.heap.size W1 w'∧Lies w' (w.heap.size+1) 246 (SrP t E.pb (Mk.says E.D s.sc t).cells)):=by
  have:=kfromEnd W1 W0 (w.heap.size+1) E.pb E.D E.n t Y.sA s.sc.length Y.sc Y.SL hB1 (by rw[hW1];simp) hS0 (h1.places hE) ht (by have:=hE.few;omega) h1.srow hSl (fun q hq=>⟨(h1.sas q hq).turn (F:=fun _=>False) (Turn.refl _ _) fun _ _ _=>⟨id,trivial⟩,ha q.2 (by rw[←h.sl];exact List.mem_map_of_mem hq)⟩) (by omega)
  rw[h.sl] at this
  exact this
 have HL1:Hid (Lies W1 w.heap.size 218 #[.int .i64 0,.int .i64 0]∧Below w.heap.size w W1):=by rw[hW1];exact⟨Lies.new w _ _,(Below.refl _ w).alloc (Nat.le_refl _) _⟩
 obtain⟨m,hm⟩:∃ m,(Mk.says E.D s.sc t).cells=m:=⟨_,rfl⟩
 rw[hm] at HF ⊢
 obtain⟨m1,m2⟩:=m
 obtain⟨sA,hsA⟩:∃ sA,Y.sA=sA:=⟨_,rfl⟩
 obtain⟨sc,hsc⟩:∃ sc,Y.sc=sc:=⟨_,rfl⟩
 obtain⟨n,hnn⟩:∃ n,s.sc.length=n:=⟨_,rfl⟩
 rw[hsA,hsc,hnn] at HF c4
 have hmf:∀ (fn:Fn) (first cap:Array Value) (w:World),(Instr.makeFunc fn first cap).run Tryz.prog w=.ok (.func fn first cap) w:=fun _ _ _ _=>rfl
 subst hW0
 subst hW1
 clear h ht ha hn hB0 hL0 hS0 hSl h1 hB1 hm hsA hsc hnn
 go_enter Tryz.func164,Tryz.ntmps164
 go_wp2_with fail
 refine HF.out.mono ?_
 rintro e w1 ⟨rfl,b1,l1⟩
 have hr1:=(b1.block _ (Lies.lt HL1.out.1)).trans HL1.out.1
 have e2:=Lies.cell l1 2
 have e3:=Lies.cell l1 3
 have k0:=Lies.cell hr1 0
 have k1:=Lies.cell hr1 1
 have f0:=Lies.free hr1 0
 have f1:=Lies.free hr1 1
 have ll:=Lies.lt hr1
 have hl2:=(Lies.put hr1 0 (.int .i64 m1)).put 1 (.int .i64 m2)
 have r0:=hl2.cell 0
 have r1:=hl2.cell 1
 simp at e2 e3 k0 k1 r0 r1
 have HE:Hid (Below w.heap.size w ((w1.setCell ⟨w.heap.size,0,none⟩ (.int .i64 m1)).setCell ⟨w.heap.size,1,none⟩ (.int .i64 m2))):=
  (((Turn.of_below (F:=fun k=>w.heap.size≤k) (HL1.out.2.trans (b1.mono HL1.out.2.size))).put (p:=⟨w.heap.size,0,none⟩) (.inl (Nat.le_refl _)) _).put (p:=⟨w.heap.size,1,none⟩) (.inl (Nat.le_refl _)) _).below (Nat.le_refl _) fun _ h=>h
 clear HF HL1 b1 l1 hr1 hl2 c2 c4
 go_wp2
 exact bodyPost_ret (v:=.agg #[.int .i64 m1,.int .i64 m2]) (by simp[results,Tryz.results164,go_sem,r0,r1]) rfl ⟨rfl,HE.out⟩
theorem appendSp {W0 wr:World} {A:Option Addr} {N c:Nat} {xs:List UInt8} (h:SpK W0 A N c xs wr) (z:Int) (hz:(Lit.int .i64 z).wf=true) (hl:N≤10000000) (hT:Pow9 W0):
  Calls Tryz.prog 207 #[.slice A N c,.int .i64 z,.int .i64 10] wr fun e w'=>∃ A' N' c',e=.returned (.slice A' N' c')∧SpK W0 A' N' c' (xs++Lib.itoa z) w':=by
 obtain⟨h0,h1⟩:=bounds_i64 hz
 have hN:=h.1
 refine(Tryz.strconv_AppendInt_10 W0.heap.size N z h0 h1 (.slice A N c) _ wr h.2.1 h.2.2.size (by omega) (hT.base (Nat.le_refl _) h.2.2)).mono ?_
 rintro e w1 ⟨v1,rfl,hown1,hb1,_⟩
 obtain⟨A1,c1,rfl⟩:=own_form hown1
 rw[←bc_app] at hown1
 exact⟨A1,_,c1,rfl,by rw[List.length_append,hN],hown1,h.2.2.trans hb1⟩
theorem kspell10 (w:World) (j:Nat) (A:Option Addr) (n c:Nat) (l:List Int) (h:NumS w A n l) (hw:∀ z∈l,(Lit.int .i64 z).wf=true) (hn:n≤1000) (hj:j≤1000) (hT:Pow9 w):
  Calls Tryz.prog 194 #[.int .i64 (j:Int),.slice A n c] w fun e w'=>e=.returned (.string (Mk.key j l))∧Below w.heap.size w w':=by
 have hj0:(Lit.int .i64 (j:Int)).wf=true:=wf_nat (by omega)
 have HA:=Lib.hid (appendSp (SpK.zero w) (j:Int) hj0 (by omega) hT)
 have HAp:Hid (∀ wr A' N' c' xs z,z∈l→SpK w A' N' c' xs wr→N'≤10000000→Calls Tryz.prog 207 #[.slice A' N' c',.int .i64 z,.int .i64 10] wr fun e w'=>∃ A' N' c',e=.returned (.slice A' N' c')∧SpK w A' N' c' (xs++Lib.itoa z) w'):=fun wr A' N' c' xs z hz hs hl=>appendSp hs z (hw z hz) hl hT
 obtain⟨i0,hi,hz0,hz1,hz2⟩:=info_parts infoB8
 have HH:=Lib.hid h
 have HLen:Hid (∀ i,(Mk.spell j (l.take i)).length≤30000):=fun i=>by
  have:=Mk.size_key (j:=j) (A:=l.take i) hj (fun z hz=>hw z (List.mem_of_mem_take hz)) (by rw[List.length_take];have:=h.len;omega)
  have e:(Mk.key j (l.take i)).size=(Mk.spell j (l.take i)).length:=by show(Mk.spell j (l.take i)).toArray.size=_;rw[List.size_toArray]
  omega
 have H0:Hid ([]++Lib.itoa (j:Int)=Mk.spell j (l.take 0)):=by show _=_;unfold Mk.spell;simp
 have HNx:Hid (∀ i z,l[i]?=some z→Mk.spell j (l.take (i+1))=Mk.spell j (l.take i)++[32]++Lib.itoa z):=fun i z hz=>by
  unfold Mk.spell
  rw[take_one hz,List.flatMap_append]
  simp
 have HE:Hid (l.take n=l):=List.take_of_length_le (by rw[h.len];exact Nat.le_refl _)
 clear h hw hT hj0
 go_enter Tryz.func194,Tryz.ntmps194
 go_wp2_with fail
 refine HA.out.mono ?_
 rintro e w1 ⟨A1,N1,c1,rfl,s1⟩
 have S1:Hid (SpK w A1 N1 c1 (Mk.spell j (l.take 0)) w1):=by rw[←H0.out];exact s1
 clear HA s1 H0
 go_wp2
 go_loopw [5,12] (fun kv iv wr=>∃ (i N:Nat) (B:Option Addr) (d:Nat),i≤n∧kv=.slice B N d∧iv=.int .i64 (i:Nat)∧Hid (SpK w B N d (Mk.spell j (l.take i)) wr)) (fun _ iv _=>n-(intOf iv).toNat)
 case atStart=>exact⟨0,N1,A1,c1,Nat.zero_le _,rfl,rfl,S1.out⟩
 case round=>
  obtain⟨i,N,B,d,hin,rfl,rfl,HI⟩:=hrel
  by_cases hlt:i<n
  ·obtain⟨b,off,z,rfl,hz,hzm,_,hc⟩:=HH.out.get hlt
   obtain⟨hbl,cz⟩:=hc wr HI.out.2.2
   have hlt':(i:Int)<(n:Int):=by omega
   have hi0:(0:Int)≤(i:Int):=by omega
   have hiw:IntKind.i64.wrap ((i:Int)+1)=(i:Int)+1:=IntWalk.i64_in _ (by omega)
   have hN:N≤30000:=by rw[HI.out.1];exact HLen.out i
   have hm1:N+1≤maxLen:=by unfold maxLen;omega
   have HO:Hid ((wr.alloc (.cells #[.int .u8 32] 5)).ownsRow w.heap.size 5 1 (.slice B N d) N (Lib.byteCells (Mk.spell j (l.take i)))):=HI.out.2.1.alloc _
   have hbase:w.heap.size≤wr.heap.size+1:=Nat.le_succ_of_le HI.out.2.2.size
   have HZ:=Lib.hid hz
   have HZm:=Lib.hid hzm
   have HS:Hid (∀ A2 c2 w2,(wr.alloc (.cells #[.int .u8 32] 5)).grownBy w2 (Value.slice B N d).ownBlock→w2.ownsRow w.heap.size 5 1 (.slice A2 (N+1) c2) (N+1) (Lib.byteCells (Mk.spell j (l.take i))++[.int .u8 32])→SpK w A2 (N+1) c2 (Mk.spell j (l.take i)++[32]) w2):=fun A2 c2 w2 q1 q2=>by
    refine⟨by rw[List.length_append,HI.out.1];rfl,by rw[bc_app];exact q2,(HI.out.2.2.alloc HI.out.2.2.size _).grown q1 (Nat.le_trans HI.out.2.2.size (by simp)) (fun k hk=>(HI.out.2.1.lt k hk).1)⟩
   clear hz hzm hc S1 HI HH
   go_wp2_with (at_builtin;refine append_row _ rfl (.tmp 16) (.tmp 17) 109 rfl w.heap.size 5 i0 (.int .u8 0) 1 Tryz.underlying109 hi hz0 hz1 hz2 rfl (.slice B N d) N _ (by simp[Act.eval]) HO.out ⟨wr.heap.size,0,none⟩ 1 1 [.int .u8 32] (by simp[Act.eval]) rfl (cell_one_new _ _ _) (by intro u hu;simp at hu;subst hu;rfl) hm1 (by omega) (by simp;omega) ?_;intro A2 c2 w2 o2 g2 a2;have S2:=Lib.hid (HS.out A2 c2 w2 g2 o2);clear o2 g2 a2)
   refine(HAp.out _ _ _ _ _ z HZm.out S2.out (by omega)).mono ?_
   rintro e w3 ⟨A3,N3,c3,rfl,s3⟩
   have S3:Hid (SpK w A3 N3 c3 (Mk.spell j (l.take (i+1))) w3):=by rw[HNx.out i z HZ.out];exact s3
   clear s3 S2 HS HO HAp HNx HLen HE HZ HZm cz
   go_wp2
   go_roundw
   case rel=>exact⟨i+1,N3,A3,c3,by omega,by go_num,by go_num,S3.out⟩
   case measure=>simp[intOf];omega
  ·obtain rfl:i=n:=by omega
   have hI:=HI.out
   rw[HE.out] at hI
   have hcv:=convK hI.1 hI.2.1
   have HB:=Lib.hid hI.2.2
   clear hI HI HH HAp HLen HNx HE S1 hlt
   go_wp2
   go_ret
   exact⟨rfl,HB.out⟩
theorem kbound (w:World) (nA:Option Addr) (n nc:Nat) (iA:Option Addr) (ic:Nat) (names:List ByteArray) (ids:List Int) {G:Nat→Prop} (hn:Rd w G nA n nc (names.map .string)) (hi:NumS w iA n ids) (hw:∀ z∈ids,(Lit.int .i64 z).wf=true) (hs:∀ s∈names,s.size≤maxLen) (h3:n≤100000):
  Calls Tryz.prog 47 #[.slice nA n nc,.slice iA n ic] w fun e w'=>e=.returned (.map (some w.heap.size))∧Below w.heap.size w w'∧∃ q D,w'.ownsMap Tryz.prog 9 (plainElem (H:=Unit) Tryz.prog 3) w.heap.size q D∧TellS D (Bd.bound (List.zip names ids)):=by
 have hmm:∀ W:World,(Instr.makeMap 98 none).run Tryz.prog W=.ok (.map (some W.heap.size)) (W.alloc (.map #[] 0)):=fun W=>run_makeMap _ W
 have hnl:names.length=n:=by have:=hn.len;rwa [List.length_map] at this
 have HN:=Lib.hid hn
 have HI:=Lib.hid hi
 have HW:=Lib.hid hw
 have HS:=Lib.hid hs
 have HL:=Lib.hid hnl
 have HZ:Hid (List.zip (names.take n) (ids.take n)=List.zip names ids):=by
  show _=_
  rw[List.take_of_length_le (by rw[hnl];exact Nat.le_refl _),List.take_of_length_le (by rw[hi.len];exact Nat.le_refl _)]
 clear hn hi hw hs hnl
 go_enter Tryz.func47,Tryz.ntmps47
 go_wp2
 go_loopw [11] (fun iv wr=>∃ i:Nat,i≤n∧iv=.int .i64 (i:Nat)∧Hid (Below w.heap.size w wr∧∃ D,wr.ownsMap Tryz.prog 9 (plainElem (H:=Unit) Tryz.prog 3) w.heap.size i D∧TellS D (Bd.bound (List.zip (names.take i) (ids.take i))))) (fun iv _=>n-(intOf iv).toNat)
 case atStart=>exact⟨0,Nat.zero_le _,rfl,(Below.refl _ _).alloc (Nat.le_refl _) _,_,World.ownsMap_made _ _ _ _,TellS.none_⟩
 case round=>
  obtain⟨i,hin,rfl,HR⟩:=hrel
  obtain⟨hB,D,ho,hT⟩:=HR.out
  by_cases hlt:i<n
  ·obtain⟨bn,on,rfl,_,hbn,hcn⟩:=HN.out.at_ (by omega)
   obtain⟨s,hsn⟩:∃ s,names[i]?=some s:=⟨_,List.getElem?_eq_getElem (by rw[HL.out];exact hlt)⟩
   have cs0:=hcn i (.string s) (by rw[List.getElem?_map,hsn];rfl)
   have cs:=(hB.cell (p:=⟨bn,on+i,none⟩) hbn).trans cs0
   have hbnl:bn<wr.heap.size:=Nat.lt_of_lt_of_le hbn hB.size
   obtain⟨b,off,z,rfl,hz,hzm,_,hc⟩:=HI.out.get hlt
   obtain⟨hbl,cz⟩:=hc wr hB
   have hlt':(i:Int)<(n:Int):=by omega
   have hi0:(0:Int)≤(i:Int):=by omega
   have hiw:IntKind.i64.wrap ((i:Int)+1)=(i:Int)+1:=IntWalk.i64_in _ (by omega)
   have hkey:=WideMaps.keyOf_string_mk (P:=Tryz.prog) Tryz.underlying9 (HS.out s (List.mem_of_getElem? hsn))
   have hwf:=HW.out z hzm
   have HO:=Lib.hid ho
   have HK:Hid (∀ w',w'.ownsMap Tryz.prog 9 (plainElem (H:=Unit) Tryz.prog 3) w.heap.size (i+1) (D.put (slit s) (.lit (.int .i64 z)))→wr.grownBy w' (some w.heap.size)→Below w.heap.size w w'∧∃ D,w'.ownsMap Tryz.prog 9 (plainElem (H:=Unit) Tryz.prog 3) w.heap.size (i+1) D∧TellS D (Bd.bound (List.zip (names.take (i+1)) (ids.take (i+1))))):=fun w' q1 q2=>by
    refine⟨hB.grown q2 hB.size (fun k hk=>by have:=Option.some.inj hk;omega),_,q1,(hT.put (ho.tidy lawS) s z).congr fun t=>?_⟩
    rw[take_one hsn,take_one hz,List.zip_append (by rw[List.length_take,List.length_take,HL.out,HI.out.len]),Bd.bound_app]
    show _=match Bd.bound [(s,z)] t with
     |some i=>some i
     |none=>_
    rw[Bd.bound,Bd.bound]
    by_cases e:t=s
    ·subst e;simp
    ·simp[e,Ne.symm e]
   have hnm:i<maxLen:=by unfold maxLen;omega
   clear HR hB ho hT hcn hsn cs0 hz hzm hc HN HI HW HS HL HZ hbn
   go_wp2_with (at_mapUpdate;refine wpList_mapUpdate_own _ rfl _ _ _ 98 rfl 9 3 lawS Tryz.underlying98 _ w.heap.size i _ rfl HO.out hnm _ _ _ rfl rfl hkey _ [] (plainElem_int Tryz.underlying3 hwf) ?_;intro w1 hown1 hgrow1;have V1:=Lib.hid (HK.out w1 hown1 hgrow1);clear hown1 hgrow1)
   clear HO HK cs cz
   go_wp2
   go_roundw
   case rel=>exact⟨i+1,by omega,by go_num,V1.out⟩
   case measure=>simp[intOf];omega
  ·obtain rfl:i=n:=by omega
   rw[HZ.out] at hT
   have HV:=Lib.hid (And.intro hB (And.intro ho hT))
   clear HR hB ho hT HN HI HW HS HL HZ hlt
   go_wp2
   go_ret
   exact⟨rfl,HV.out.1,_,_,HV.out.2.1,HV.out.2.2⟩
end Go.Proofs.YtcgaeknikfaghaaGreatDoor
