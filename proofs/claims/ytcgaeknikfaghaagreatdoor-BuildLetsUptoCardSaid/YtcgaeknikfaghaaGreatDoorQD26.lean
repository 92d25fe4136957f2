/- What the proofs of this claim use, text by text. -/
import Derived.Test.YtcgaeknikfaghaaGreatDoorQD25
set_option linter.unusedSimpArgs false
set_option linter.unusedVariables false
set_option maxRecDepth 100000
set_option maxHeartbeats 25600000
namespace Go.Proofs.YtcgaeknikfaghaaGreatDoor
open Go.RowKit
def Mk.bnd (r:List Sx):Int×List (ByteArray×Sx):=match r with
 |[b,_]=>if b.list=false then(1,[]) else match Bd.binds b.L with
  |none=>(1,[])
  |some m=>if anyRes (m.map (·.1))=true then(101,[]) else if Bd.twice (m.map (·.1))=true then(4,[]) else(0,m)
 |_=>(1,[])
theorem Mk.bnd_two {r:List Sx} (h:r.length≠2):Mk.bnd r=(1,[]):=by
 unfold Mk.bnd
 split
 ·simp at h
 ·rfl
theorem Bd.binds_none {x:Sx} (hx:Bd.bind1 x=none):∀ {l:List Sx},x∈l→Bd.binds l=none
 |[],h=>by cases h
 |y::l,h=>by
  rw[Bd.binds]
  rcases List.mem_cons.1 h with rfl|h
  ·rw[hx]
  ·rw[Bd.binds_none hx h]
   cases Bd.bind1 y <;> rfl
theorem Bd.binds_snoc {x:Sx} {b:ByteArray×Sx} (hx:Bd.bind1 x=some b):∀ {l:List Sx} {m:List (ByteArray×Sx)},Bd.binds l=some m→Bd.binds (l++[x])=some (m++[b])
 |[],m,h=>by
  cases h
  rw[List.nil_append,Bd.binds,hx]
  rfl
 |y::l,m,h=>by
  rw[Bd.binds] at h
  rw[List.cons_append,Bd.binds]
  cases h1:Bd.bind1 y with
  |none=>rw[h1] at h;cases h
  |some q=>
   rw[h1] at h
   cases h2:Bd.binds l with
   |none=>rw[h2] at h;cases h
   |some k=>
    rw[h2] at h
    cases h
    rw[Bd.binds_snoc hx h2]
    rfl
abbrev PSx:=(Option Addr×Nat)×Sx
abbrev pcells (q:PSx):List Value:=scells q.2 q.1.1 q.1.2
theorem TreeL.of_row {w:World} {G:Nat→Nat→Prop} {g:Nat} (hg:g<w.heap.size) (hG:∀ o,G g o):∀ (Q:List PSx) (off:Nat),(∀ j u,(Q.flatMap pcells)[j]?=some u→w.cell? ⟨g,off+j,none⟩=some u)→(∀ q∈Q,(q.2.L.length≤q.1.2∧q.1.2≤maxLen)∧TreeL w G q.1.1 q.2.L)→TreeL w G (some ⟨g,off,none⟩) (Q.map (·.2))
 |[],_,_,_=> .nil _
 |q::Q,off,hc,hQ=>by
  obtain⟨h1,h2⟩:=hQ q (by simp)
  have hf:∀ j u,j<6→(pcells q)[j]?=some u→w.cell? ⟨g,off+j,none⟩=some u:=fun j u hj hu=>hc j u (by rw[List.flatMap_cons,List.getElem?_append_left (by exact hj)];exact hu)
  refine .cons g off q.2 _ q.1.1 q.1.2 ⟨hg,by have:=hf 0 _ (by decide) rfl;rwa [Nat.add_zero] at this,hf 1 _ (by decide) rfl,hf 2 _ (by decide) rfl,hf 3 _ (by decide) rfl,hf 4 _ (by decide) rfl,hf 5 _ (by decide) rfl⟩ (hG off) h1 h2 (TreeL.of_row hg hG Q (off+6) (fun j u hu=>?_) fun q' hq'=>hQ q' (by simp[hq']))
  have:=hc (6+j) u (by rw[List.flatMap_cons,List.getElem?_append_right (by show 6≤6+j;omega)];rw[show 6+j-(pcells q).length=j by show 6+j-6=j;omega];exact hu)
  rwa [←Nat.add_assoc] at this
theorem TreeL.of_own {w:World} {B n c:Nat} {A:Option Addr} {G:Nat→Nat→Prop} {Q:List PSx} (h:w.ownsRow B 27 6 (.slice A n c) n (Q.flatMap pcells)) (hn:Q.length=n) (hG:∀ b o,B≤b→G b o) (hQ:∀ q∈Q,(q.2.L.length≤q.1.2∧q.1.2≤maxLen)∧TreeL w G q.1.1 q.2.L):(n≤c∧c≤maxLen)∧TreeL w G A (Q.map (·.2)):=by
 rcases h.2 with⟨e,h0⟩|⟨g,cap,cur,e,hBg,hg,h4,h5,_⟩
 ·injection e with e1 _ e3
  subst e1
  subst e3
  subst h0
  rw[List.length_eq_zero_iff.1 hn]
  exact⟨⟨Nat.le_refl _,Nat.zero_le _⟩,.nil _⟩
 ·injection e with e1 _ e3
  subst e1
  subst e3
  refine⟨⟨h4,h5⟩,TreeL.of_row (Array.getElem?_eq_some_iff.1 hg).1 (fun o=>hG g o hBg) Q 0 (fun j u hu=>?_) hQ⟩
  have:=h.cells (g:=g) rfl j u hu
  rwa [addr_add] at this
theorem mid_alloc {w W:World} {z:Nat} {t:TypeId} {cs:Array Value} (h:Below w.heap.size w W∧Lies W z t cs) (o:Obj):Below w.heap.size w (W.alloc o)∧Lies (W.alloc o) z t cs:=⟨h.1.alloc h.1.size o,((Turn.refl (fun _=>False) W).alloc o).lies h.2 id⟩
theorem mid_grown {w W W':World} {z:Nat} {t:TypeId} {cs:Array Value} {row:Option Nat} (h:Below w.heap.size w W∧Lies W z t cs) (hg:W.grownBy W' row) (hr:∀ k,row=some k→w.heap.size≤k∧k<z):Below w.heap.size w W'∧Lies W' z t cs:=
 ⟨h.1.grown hg h.1.size fun k hk=>(hr k hk).1,(Turn.of_grown (F:=fun k=>row=some k) hg fun _ e _=>e).lies h.2 fun e=>by have:=(hr _ e).2;omega⟩
theorem arm_own {W W':World} {B size n:Nat} {e:TypeId} {v:Value} {xs:List Value} (h:W.ownsRow B e size v n xs) (hg:W.grownBy W' v.ownBlock) {e':TypeId} {size' n':Nat} {v':Value} {xs':List Value} (hne:e≠e') (ho:W.ownsRow B e' size' v' n' xs'):W'.ownsRow B e' size' v' n' xs':=
 (Turn.of_grown (F:=fun k=>v.ownBlock=some k) hg fun _ e _=>e).own ho fun g hv=>fun e2=>own_apart h ho hne g e2 hv
theorem arm_lies {W W':World} {B size n:Nat} {e:TypeId} {v:Value} {xs:List Value} (h:W.ownsRow B e size v n xs) (hg:W.grownBy W' v.ownBlock) {e':TypeId} (hne:e≠e') {b:Nat} {cs:Array Value} (hl:Lies W b e' cs):Lies W' b e' cs:=
 (Turn.of_grown (F:=fun k=>v.ownBlock=some k) hg fun _ e _=>e).lies hl fun e2=>own_not_lies h hl hne e2
theorem lies_news {W:World} {b:Nat} {t:TypeId} {cs:Array Value} {l:List Value} (h:Lies W b t cs) (hl:cs.toList=l) (j:Nat) (u:Value) (hu:l[j]?=some u):W.cell? ((⟨b,0,none⟩:Addr).add j)=some u:=by
 subst hl
 rw[addr_add,Nat.zero_add,h.cell]
 simpa using hu
theorem lies_under (D:World) (t:TypeId) (cs:Array Value) (o:Obj):Lies ((D.alloc (.cells cs t)).alloc o) D.heap.size t cs:=(Below.heap_alloc _ _ _ (by simp)).trans (Lies.new D t cs)
theorem infoX9:(Tryz.prog.info? 27).map (fun i=>(i.zero,i.size,i.bytes))=some (some (.agg #[.bool false,.int .i64 0,.string ByteArray.empty,.int .i64 0,.int .i64 0,.slice none 0 0]),6,72):=by kernel_rfl
def Mk.BndAns (w:World) (G:Nat→Prop) (X:Int×List (ByteArray×Sx)) (e:Ending) (w':World):Prop:=
 (∃ nA nc tA tc,e=.returned (.tuple #[.slice nA X.2.length nc,.slice tA X.2.length tc,.int .i64 X.1])∧Rd w' (fun k=>w.heap.size≤k) nA X.2.length nc ((X.2.map (·.1)).map .string)∧(X.2.length≤tc∧tc≤maxLen)∧TreeL w' (fun b _=>w.heap.size≤b∨G b) tA (X.2.map (·.2)))∧Below w.heap.size w w'
theorem kbindings (w:World) (G:Nat→Prop) (A:Option Addr) (c:Nat) (r:List Sx) (h:TreeL w (fun b _=>G b) A r) (hle:r.length≤c∧c≤maxLen) (hL:∀ b t,r=[b,t]→b.L.length≤1000∧∀ m,Bd.binds b.L=some m→∀ q∈m,q.1.size≤maxLen):
  Calls Tryz.prog 185 #[.slice A r.length c] w fun e w'=>Mk.BndAns w G (Mk.bnd r) e w':=by
 have HErr:Hid (∀ (z:Int) (w':World),Below w.heap.size w w'→Mk.bnd r=(z,[])→Mk.BndAns w G (Mk.bnd r) (.returned (.tuple #[.slice none 0 0,.slice none 0 0,.int .i64 z])) w'):=fun z w' hw e=>by
  rw[e]
  exact⟨⟨none,0,none,0,rfl,Rd.nil_ _ _,⟨Nat.le_refl _,Nat.zero_le _⟩,.nil _⟩,hw⟩
 obtain⟨X,HX⟩:∃ X,Hid (Mk.bnd r=X):=⟨_,rfl⟩
 rw[HX.out] at HErr ⊢
 by_cases h2:r.length=2
 ·obtain⟨b,t,rfl⟩:∃ b t,r=[b,t]:=by
   match r,h2 with
   |[b,t],_=>exact⟨b,t,rfl⟩
  obtain⟨hn,hm⟩:=hL b t rfl
  cases h with
  |cons bb off _ _ A' c' h1 hGb h3 h4 h5=>
  obtain⟨ht1,k0,k1,k2,k3,k4,k5⟩:=h1
  cases hbl:b.list with
  |false=>
   have hX:X=(1,[]):=by rw[←HX.out];show(if b.list=false then _ else _)=_;rw[if_pos hbl]
   subst hX
   have HE:=Lib.hid (HErr.out 1 w (Below.refl _ w) rfl)
   rw[hbl] at k0
   clear HErr HX h2 hn hm h3 h4 h5 k1 k2 k3 k4 k5 hL hle hbl
   go_enter Tryz.func185,Tryz.ntmps185
   go_wp2
   try simp only[Exit.inBlock,Exit.then]
   exact bodyPost_ret (v:=.tuple #[.slice none 0 0,.slice none 0 0,.int .i64 1]) (by simp[results,Tryz.results185,go_sem]) rfl HE.out
  |true=>
   rw[hbl] at k0
   obtain⟨L,hLL⟩:∃ L,b.L=L:=⟨_,rfl⟩
   rw[hLL] at hn hm h4 k5 h3
   obtain⟨n,hnL⟩:∃ n,L.length=n:=⟨_,rfl⟩
   rw[hnL] at k5 hn h3
   have HXb:Hid (X=match Bd.binds L with
     |none=>(1,[])
     |some m=>if anyRes (m.map (·.1))=true then(101,[]) else if Bd.twice (m.map (·.1))=true then(4,[]) else(0,m)):=by
    show _=_
    rw[←HX.out]
    show(if b.list=false then _ else _)=_
    rw[if_neg (by rw[hbl];decide),hLL]
   have HTree:=Lib.hid h4
   have HM:=Lib.hid hm
   have HLn:=Lib.hid hnL
   have hnn:n≤1000:=hn
   clear h2 hn hm h3 h4 h5 k1 k2 k3 k4 hL hle hbl hLL hnL HX
   go_enter Tryz.func185,Tryz.ntmps185
   go_wp2_with fail
   go_loopw [5,6,26] (fun nv tv iv wr=>∃ (i:Nat) (nA:Option Addr) (nc:Nat) (tA:Option Addr) (tc:Nat),i≤n∧iv=.int .i64 (i:Nat)∧nv=.slice nA i nc∧tv=.slice tA i tc∧Hid (Below w.heap.size w wr∧∃ (m:List (ByteArray×Sx)) (Q:List PSx),Bd.binds (L.take i)=some m∧Q.map (·.2)=m.map (·.2)∧(∀ q∈Q,(q.2.L.length≤q.1.2∧q.1.2≤maxLen)∧TreeL w (fun b _=>G b) q.1.1 q.2.L)∧wr.ownsRow w.heap.size 9 1 (.slice nA i nc) i ((m.map (·.1)).map .string)∧wr.ownsRow w.heap.size 27 6 (.slice tA i tc) i (Q.flatMap pcells))) (fun _ _ iv _=>n-(intOf iv).toNat)
   case atStart=>exact⟨0,none,0,none,0,Nat.zero_le _,rfl,rfl,rfl,Below.refl _ _,[],[],rfl,rfl,(fun q hq=>by cases hq),World.ownsRow_nil _ _ _ _,World.ownsRow_nil _ _ _ _⟩
   case round=>
    obtain⟨i,nA,nc,tA,tc,hin,rfl,rfl,rfl,HI⟩:=hrel
    by_cases hlt:i<n
    ·skip
     obtain⟨b2,off2,x,A2,c2,rfl,hx,s1,_,hle2,ht2⟩:=HTree.out.get (i:=i) (by rw[HLn.out];exact hlt)
     obtain⟨hB,m,Q,hbm,hQm,hQ,hNr,hTr⟩:=HI.out
     have hlt':(i:Int)<(n:Int):=by omega
     have hi0:(0:Int)≤(i:Int):=by omega
     have hiw:IntKind.i64.wrap ((i:Int)+1)=(i:Int)+1:=IntWalk.i64_in _ (by omega)
     have hXn:Hid (Bd.bind1 x=none→X=(1,[])):=fun hb=>by rw[HXb.out,Bd.binds_none hb (List.mem_of_getElem? hx)]
     have hXs:Hid (∀ p,Bd.bind1 x=some p→Bd.binds (L.take (i+1))=some (m++[p])):=fun p hp=>by rw[take_one hx];exact Bd.binds_snoc hp hbm
     obtain⟨xl,xk,xT,xta,xa,xL⟩:=x
     obtain⟨hb2,y0,y1,y2,y3,y4,y5⟩:=s1
     have z0:=(hB.cell (p:=⟨b2,off2+i*6,none⟩) hb2).trans y0
     have z1:=(hB.cell (p:=⟨b2,off2+i*6+1,none⟩) hb2).trans y1
     have z2:=(hB.cell (p:=⟨b2,off2+i*6+2,none⟩) hb2).trans y2
     have z3:=(hB.cell (p:=⟨b2,off2+i*6+3,none⟩) hb2).trans y3
     have z4:=(hB.cell (p:=⟨b2,off2+i*6+4,none⟩) hb2).trans y4
     have z5:=(hB.cell (p:=⟨b2,off2+i*6+5,none⟩) hb2).trans y5
     simp only at z0 z1 z2 z3 z4 z5 hle2 ht2
     obtain⟨xn,hxn⟩:∃ xn,xL.length=xn:=⟨_,rfl⟩
     rw[hxn] at z5
     obtain⟨zr,hzr⟩:∃ zr,wr.heap.size=zr:=⟨_,rfl⟩
     obtain⟨E1,hE1⟩:∃ E1,wr.alloc (.cells #[.bool xl,.int .i64 xk,.string xT,.int .i64 xta,.int .i64 xa,.slice A2 xn c2] 27)=E1:=⟨_,rfl⟩
     have hBE:Below wr.heap.size wr E1:=by rw[←hE1];exact(Below.refl _ wr).alloc (Nat.le_refl _) _
     have hBw:Below w.heap.size w E1:=hB.trans (hBE.mono hB.size)
     have hLE:Lies E1 zr 27 #[.bool xl,.int .i64 xk,.string xT,.int .i64 xta,.int .i64 xa,.slice A2 xn c2]:=by rw[←hE1,←hzr];exact Lies.new wr _ _
     have e0:=hLE.cell 0
     have e5:=hLE.cell 5
     simp at e0 e5
     clear y0 y1 y2 y3 y4 y5
     cases xl with
     |false=>
      obtain rfl:=hXn.out (by unfold Bd.bind1;simp only;split <;> simp)
      have HE:=Lib.hid (HErr.out 1 E1 hBw rfl)
      clear HErr HXb HI HTree HM HLn hXn hXs hbm hQm hQ hNr hTr hB hx hle2 ht2 hxn hBE hBw hLE e5 hb2
      go_wp2
      try simp only[Exit.inBlock,Exit.then]
      exact bodyPost_ret (v:=.tuple #[.slice none 0 0,.slice none 0 0,.int .i64 1]) (by simp[results,Tryz.results185,go_sem]) rfl HE.out
     |true=>
      by_cases h2:xn=2
      ·subst h2
       obtain⟨h,u,rfl⟩:∃ h u,xL=[h,u]:=by
        match xL,hxn with
        |[h,u],_=>exact⟨h,u,rfl⟩
       cases ht2 with
       |cons b3 o3 _ _ A3 c3 s3 _ hle3 ht3 htl=>
       cases htl with
       |cons _ _ _ _ A4 c4 s4 _ hle4 ht4 _=>
       obtain⟨hl3,d0,d1,d2,d3,d4,d5⟩:=s3
       have f:=fun(j:Nat)=>hBw.cell (p:=⟨b3,j,none⟩) hl3
       have d0:=(f _).trans d0
       have d1:=(f _).trans d1
       have d2:=(f _).trans d2
       have d3:=(f _).trans d3
       have d4:=(f _).trans d4
       have d5:=(f _).trans d5
       have hNm:=knameOf E1 h A3 c3
       have hb1:Bd.bind1 ⟨true,xk,xT,xta,xa,[h,u]⟩=if h.list=false∧h.k=3 then some (h.T,u) else none:=by unfold Bd.bind1;simp
       rw[hb1] at hXn hXs
       unfold sval at hNm
       by_cases hs:h.list=false∧h.k=3
       ·rw[if_pos hs] at hXs
        rw[if_pos hs,decide_eq_true hs] at hNm
        have HNm:=Lib.hid hNm
        obtain⟨ul,uk,uT,uta,ua,uL⟩:=u
        obtain⟨hl4,v0,v1,v2,v3,v4,v5⟩:=s4
        simp only at v0 v1 v2 v3 v4 v5 hle4 ht4
        obtain⟨un,hun⟩:∃ un,uL.length=un:=⟨_,rfl⟩
        rw[hun] at v5 hle4
        obtain⟨nm,hnm⟩:∃ nm,h.T=nm:=⟨_,rfl⟩
        obtain⟨NL,hNL⟩:∃ NL:List Value,(m.map (·.1)).map .string=NL:=⟨_,rfl⟩
        obtain⟨TL,hTL⟩:∃ TL,Q.flatMap pcells=TL:=⟨_,rfl⟩
        rw[hNL] at hNr
        rw[hTL] at hTr
        rw[hnm] at HNm d2 hXs
        obtain⟨iS,hs0',hs0,hs1,hs2⟩:=info_parts infoStr
        obtain⟨iX,hx0',hx0,hx1,hx2⟩:=info_parts infoX9
        have HNb:Hid (∀ k,(Value.slice nA i nc).ownBlock=some k→w.heap.size≤k∧k<zr):=fun k hk=>by rw[←hzr];exact hNr.lt k hk
        have HTb:Hid (∀ k,(Value.slice tA i tc).ownBlock=some k→w.heap.size≤k∧k<zr):=fun k hk=>by rw[←hzr];exact hTr.lt k hk
        have HMS:Hid (∀ W,(Below w.heap.size w W∧Lies W zr 27 #[.bool true,.int .i64 xk,.string xT,.int .i64 xta,.int .i64 xa,.slice (some ⟨b3,o3,none⟩) 2 c2])→(W.cell? ⟨zr,5,none⟩=some (.slice (some ⟨b3,o3,none⟩) 2 c2)∧W.cell? ⟨b3,o3+6,none⟩=some (.bool ul)∧W.cell? ⟨b3,o3+6+1,none⟩=some (.int .i64 uk)∧W.cell? ⟨b3,o3+6+2,none⟩=some (.string uT)∧W.cell? ⟨b3,o3+6+3,none⟩=some (.int .i64 uta)∧W.cell? ⟨b3,o3+6+4,none⟩=some (.int .i64 ua)∧W.cell? ⟨b3,o3+6+5,none⟩=some (.slice A4 un c4))):=fun W hW=>by
         have g:=fun(j:Nat)=>hW.1.cell (p:=⟨b3,j,none⟩) hl3
         exact⟨by rw[hW.2.cell];rfl,(g _).trans v0,(g _).trans v1,(g _).trans v2,(g _).trans v3,(g _).trans v4,(g _).trans v5⟩
        have HN1:Hid (∀ w1,Below E1.heap.size E1 w1→w1.drew.ownsRow w.heap.size 9 1 (.slice nA i nc) i NL∧w1.drew.ownsRow w.heap.size 27 6 (.slice tA i tc) i TL∧(Below w.heap.size w w1.drew∧Lies w1.drew zr 27 #[.bool true,.int .i64 xk,.string xT,.int .i64 xta,.int .i64 xa,.slice (some ⟨b3,o3,none⟩) 2 c2])):=fun w1 h1=>by
         have hb1:Below E1.heap.size E1 w1.drew:=⟨h1.os,h1.tape,h1.output,h1.size,h1.block⟩
         have hr1:Below wr.heap.size wr w1.drew:=hBE.trans (hb1.mono hBE.size)
         have ht1:Turn (fun _=>False) wr w1.drew:=Turn.of_below hr1
         exact⟨ht1.own hNr fun _ _=>id,ht1.own hTr fun _ _=>id,hB.trans (hr1.mono hB.size),(Turn.of_below (F:=fun _=>False) hb1).lies hLE id⟩
        have HFin:Hid (∀ W nA2 nc2 tA2 tc2,Below w.heap.size w W→W.ownsRow w.heap.size 9 1 (.slice nA2 (i+1) nc2) (i+1) (NL++[.string nm])→W.ownsRow w.heap.size 27 6 (.slice tA2 (i+1) tc2) (i+1) (TL++[.bool ul,.int .i64 uk,.string uT,.int .i64 uta,.int .i64 ua,.slice A4 un c4])→(Below w.heap.size w W∧∃ (m:List (ByteArray×Sx)) (Q:List PSx),Bd.binds (L.take (i+1))=some m∧Q.map (·.2)=m.map (·.2)∧(∀ q∈Q,(q.2.L.length≤q.1.2∧q.1.2≤maxLen)∧TreeL w (fun b _=>G b) q.1.1 q.2.L)∧W.ownsRow w.heap.size 9 1 (.slice nA2 (i+1) nc2) (i+1) ((m.map (·.1)).map .string)∧W.ownsRow w.heap.size 27 6 (.slice tA2 (i+1) tc2) (i+1) (Q.flatMap pcells))):=fun W nA2 nc2 tA2 tc2 q1 q2 q3=>by
         refine⟨q1,m++[(nm,⟨ul,uk,uT,uta,ua,uL⟩)],Q++[((A4,c4),⟨ul,uk,uT,uta,ua,uL⟩)],hXs.out _ rfl,by rw[List.map_append,List.map_append,hQm];rfl,fun q hq=>?_,?_,?_⟩
         ·rcases List.mem_append.1 hq with hq|hq
          ·exact hQ q hq
          ·rw[List.mem_singleton.1 hq]
           exact⟨by show uL.length≤c4∧_;rw[hun];exact hle4,ht4⟩
         ·rw[List.map_append,List.map_append,hNL]
          exact q2
         ·rw[List.flatMap_append,hTL]
          show World.ownsRow _ _ _ _ _ _ (TL++[.bool ul,.int .i64 uk,.string uT,.int .i64 uta,.int .i64 ua,.slice A4 uL.length c4])
          rw[hun]
          exact q3
        have hone:∀ u∈([.bool ul,.int .i64 uk,.string uT,.int .i64 uta,.int .i64 ua,.slice A4 un c4]:List Value),u.oneCell'=true:=by
         intro u hu
         simp at hu
         rcases hu with rfl|rfl|rfl|rfl|rfl|rfl <;> rfl
        have hi1:i+1≤maxLen:=by unfold maxLen;omega
        have hi16:(i+1)*16≤140737488355328:=by omega
        have hi72:(i+1)*72≤140737488355328:=by omega
        obtain⟨hn9,hhn⟩:∃ hn9,h.L.length=hn9:=⟨_,rfl⟩
        rw[hhn] at d5 HNm
        clear HErr HXb HI HTree HM HLn hXn hXs hbm hQm hQ hNr hTr hB hx hle2 hxn hBE hBw hLE hb2 hNm hs f hle3 ht3 hle4 ht4 hb1 hhn hun hnm hNL hTL hl3 hl4 v0 v1 v2 v3 v4 v5
        go_wp2_with fail
        refine HNm.out.mono ?_
        rintro e w1 ⟨rfl,b1⟩
        obtain⟨n0,t0,m0⟩:=HN1.out w1 b1
        have N0:=Lib.hid n0
        have T0:=Lib.hid t0
        have M0:=Lib.hid m0
        clear HNm HN1 b1 n0 t0 m0 d0 d1 d2 d3 d4 d5 e0 e5
        go_wp2_with fail
        go_region_held3 (fun W=>W.cell? ⟨zr,5,none⟩=some (.slice (some ⟨b3,o3,none⟩) 2 c2)∧W.cell? ⟨b3,o3+6,none⟩=some (.bool ul)∧W.cell? ⟨b3,o3+6+1,none⟩=some (.int .i64 uk)∧W.cell? ⟨b3,o3+6+2,none⟩=some (.string uT)∧W.cell? ⟨b3,o3+6+3,none⟩=some (.int .i64 uta)∧W.cell? ⟨b3,o3+6+4,none⟩=some (.int .i64 ua)∧W.cell? ⟨b3,o3+6+5,none⟩=some (.slice A4 un c4))
         (first|(with_reducible exact HMS.out _ M0.out)|(with_reducible exact HMS.out _ M2.out)|(with_reducible exact HMS.out _ M3.out)|exact HMS.out _ (mid_alloc M0.out _)|exact HMS.out _ (mid_alloc (mid_alloc M0.out _) _)|exact HMS.out _ (mid_alloc M2.out _)|exact HMS.out _ (mid_alloc M3.out _))
         (first
            |(refine step_append_row rfl (.tmp 49) (.tmp 51) 88 rfl w.heap.size 9 iS (.string ByteArray.empty) 16 Tryz.underlying88 hs0' hs0 hs1 hs2 rfl (.slice nA i nc) i NL (by simp[Act.eval,Act.put]) (N0.out.alloc _) _ 1 1 [.string nm] (by simp[Act.eval,Act.put]) rfl (lies_news (Lies.new _ _ _) rfl) (by intro u hu;simp at hu;subst hu;rfl) hi1 hi16 (mid_alloc M0.out _).1.size ?_;intro A5 c5 w5 o5 g5 _;have M2:=Lib.hid (mid_grown (mid_alloc M0.out _) g5 HNb.out);have T2:=Lib.hid (arm_own (N0.out.alloc _) g5 (by decide) (T0.out.alloc _));have B2:=Lib.hid (fun b cs (hl:Lies _ b 27 cs)=>arm_lies (N0.out.alloc _) g5 (by decide) hl);have O2:=Lib.hid o5;clear o5 g5)
            |(refine step_append_row rfl (.tmp 49) (.tmp 51) 88 rfl w.heap.size 9 iS (.string ByteArray.empty) 16 Tryz.underlying88 hs0' hs0 hs1 hs2 rfl (.slice nA i nc) i NL (by simp[Act.eval,Act.put]) ((N0.out.alloc _).alloc _) _ 1 1 [.string nm] (by simp[Act.eval,Act.put]) rfl (lies_news (Lies.new _ _ _) rfl) (by intro u hu;simp at hu;subst hu;rfl) hi1 hi16 (mid_alloc (mid_alloc M0.out _) _).1.size ?_;intro A5 c5 w5 o5 g5 _;have M2:=Lib.hid (mid_grown (mid_alloc (mid_alloc M0.out _) _) g5 HNb.out);have T2:=Lib.hid (arm_own ((N0.out.alloc _).alloc _) g5 (by decide) ((T0.out.alloc _).alloc _));have B2:=Lib.hid (fun b cs (hl:Lies _ b 27 cs)=>arm_lies ((N0.out.alloc _).alloc _) g5 (by decide) hl);have O2:=Lib.hid o5;clear o5 g5)
            |(refine step_append_row rfl (.tmp 49) (.tmp 51) 88 rfl w.heap.size 9 iS (.string ByteArray.empty) 16 Tryz.underlying88 hs0' hs0 hs1 hs2 rfl (.slice nA i nc) i NL (by simp[Act.eval,Act.put]) ((N0.out.alloc _).alloc _) _ 1 1 [.string nm] (by simp[Act.eval,Act.put]) rfl (lies_news (lies_under _ _ _ _) rfl) (by intro u hu;simp at hu;subst hu;rfl) hi1 hi16 (mid_alloc (mid_alloc M0.out _) _).1.size ?_;intro A5 c5 w5 o5 g5 _;have M2:=Lib.hid (mid_grown (mid_alloc (mid_alloc M0.out _) _) g5 HNb.out);have T2:=Lib.hid (arm_own ((N0.out.alloc _).alloc _) g5 (by decide) ((T0.out.alloc _).alloc _));have B2:=Lib.hid (fun b cs (hl:Lies _ b 27 cs)=>arm_lies ((N0.out.alloc _).alloc _) g5 (by decide) hl);have O2:=Lib.hid o5;clear o5 g5)
            |(refine step_append_row rfl (.tmp 49) (.tmp 51) 88 rfl w.heap.size 9 iS (.string ByteArray.empty) 16 Tryz.underlying88 hs0' hs0 hs1 hs2 rfl (.slice nA i nc) i NL (by simp[Act.eval,Act.put]) N3.out _ 1 1 [.string nm] (by simp[Act.eval,Act.put]) rfl (lies_news (B3.out _ _ (lies_under _ _ _ _)) rfl) (by intro u hu;simp at hu;subst hu;rfl) hi1 hi16 M3.out.1.size ?_;intro A5 c5 w5 o5 g5 _;have M2:=Lib.hid (mid_grown M3.out g5 HNb.out);have T2:=Lib.hid (arm_own N3.out g5 (by decide) O3.out);have B2:=Lib.hid (fun b cs (hl:Lies _ b 27 cs)=>arm_lies N3.out g5 (by decide) hl);have O2:=Lib.hid o5;clear o5 g5)
            |(refine step_append_row rfl (.tmp 49) (.tmp 51) 88 rfl w.heap.size 9 iS (.string ByteArray.empty) 16 Tryz.underlying88 hs0' hs0 hs1 hs2 rfl (.slice nA i nc) i NL (by simp[Act.eval,Act.put]) N3.out _ 1 1 [.string nm] (by simp[Act.eval,Act.put]) rfl (lies_news (B3.out _ _ (Lies.new _ _ _)) rfl) (by intro u hu;simp at hu;subst hu;rfl) hi1 hi16 M3.out.1.size ?_;intro A5 c5 w5 o5 g5 _;have M2:=Lib.hid (mid_grown M3.out g5 HNb.out);have T2:=Lib.hid (arm_own N3.out g5 (by decide) O3.out);have B2:=Lib.hid (fun b cs (hl:Lies _ b 27 cs)=>arm_lies N3.out g5 (by decide) hl);have O2:=Lib.hid o5;clear o5 g5)
            |(refine step_append_row rfl (.tmp 49) (.tmp 51) 88 rfl w.heap.size 9 iS (.string ByteArray.empty) 16 Tryz.underlying88 hs0' hs0 hs1 hs2 rfl (.slice nA i nc) i NL (by simp[Act.eval,Act.put]) (N3.out.alloc _) _ 1 1 [.string nm] (by simp[Act.eval,Act.put]) rfl (lies_news (Lies.new _ _ _) rfl) (by intro u hu;simp at hu;subst hu;rfl) hi1 hi16 (mid_alloc M3.out _).1.size ?_;intro A5 c5 w5 o5 g5 _;have M2:=Lib.hid (mid_grown (mid_alloc M3.out _) g5 HNb.out);have T2:=Lib.hid (arm_own (N3.out.alloc _) g5 (by decide) (O3.out.alloc _));have B2:=Lib.hid (fun b cs (hl:Lies _ b 27 cs)=>arm_lies (N3.out.alloc _) g5 (by decide) hl);have O2:=Lib.hid o5;clear o5 g5)
            |(refine step_append_wide rfl (.tmp 53) (.tmp 58) 25 rfl w.heap.size 27 iX (.agg #[.bool false,.int .i64 0,.string ByteArray.empty,.int .i64 0,.int .i64 0,.slice none 0 0]) 6 72 Tryz.underlying25 hx0' hx0 hx1 hx2 rfl (by decide) (.slice tA i tc) i TL (by simp[Act.eval,Act.put]) (T0.out.alloc _) _ 1 1 [.bool ul,.int .i64 uk,.string uT,.int .i64 uta,.int .i64 ua,.slice A4 un c4] (by simp[Act.eval,Act.put]) rfl (lies_news (Lies.new _ _ _) rfl) hone hi1 hi72 (mid_alloc M0.out _).1.size ?_;intro A6 c6 w6 o6 g6 _;have M3:=Lib.hid (mid_grown (mid_alloc M0.out _) g6 HTb.out);have N3:=Lib.hid (arm_own (T0.out.alloc _) g6 (by decide) (N0.out.alloc _));have B3:=Lib.hid (fun b cs (hl:Lies _ b 9 cs)=>arm_lies (T0.out.alloc _) g6 (by decide) hl);have O3:=Lib.hid o6;clear o6 g6)
            |(refine step_append_wide rfl (.tmp 53) (.tmp 58) 25 rfl w.heap.size 27 iX (.agg #[.bool false,.int .i64 0,.string ByteArray.empty,.int .i64 0,.int .i64 0,.slice none 0 0]) 6 72 Tryz.underlying25 hx0' hx0 hx1 hx2 rfl (by decide) (.slice tA i tc) i TL (by simp[Act.eval,Act.put]) ((T0.out.alloc _).alloc _) _ 1 1 [.bool ul,.int .i64 uk,.string uT,.int .i64 uta,.int .i64 ua,.slice A4 un c4] (by simp[Act.eval,Act.put]) rfl (lies_news (Lies.new _ _ _) rfl) hone hi1 hi72 (mid_alloc (mid_alloc M0.out _) _).1.size ?_;intro A6 c6 w6 o6 g6 _;have M3:=Lib.hid (mid_grown (mid_alloc (mid_alloc M0.out _) _) g6 HTb.out);have N3:=Lib.hid (arm_own ((T0.out.alloc _).alloc _) g6 (by decide) ((N0.out.alloc _).alloc _));have B3:=Lib.hid (fun b cs (hl:Lies _ b 9 cs)=>arm_lies ((T0.out.alloc _).alloc _) g6 (by decide) hl);have O3:=Lib.hid o6;clear o6 g6)
            |(refine step_append_wide rfl (.tmp 53) (.tmp 58) 25 rfl w.heap.size 27 iX (.agg #[.bool false,.int .i64 0,.string ByteArray.empty,.int .i64 0,.int .i64 0,.slice none 0 0]) 6 72 Tryz.underlying25 hx0' hx0 hx1 hx2 rfl (by decide) (.slice tA i tc) i TL (by simp[Act.eval,Act.put]) ((T0.out.alloc _).alloc _) _ 1 1 [.bool ul,.int .i64 uk,.string uT,.int .i64 uta,.int .i64 ua,.slice A4 un c4] (by simp[Act.eval,Act.put]) rfl (lies_news (lies_under _ _ _ _) rfl) hone hi1 hi72 (mid_alloc (mid_alloc M0.out _) _).1.size ?_;intro A6 c6 w6 o6 g6 _;have M3:=Lib.hid (mid_grown (mid_alloc (mid_alloc M0.out _) _) g6 HTb.out);have N3:=Lib.hid (arm_own ((T0.out.alloc _).alloc _) g6 (by decide) ((N0.out.alloc _).alloc _));have B3:=Lib.hid (fun b cs (hl:Lies _ b 9 cs)=>arm_lies ((T0.out.alloc _).alloc _) g6 (by decide) hl);have O3:=Lib.hid o6;clear o6 g6)
            |(refine step_append_wide rfl (.tmp 53) (.tmp 58) 25 rfl w.heap.size 27 iX (.agg #[.bool false,.int .i64 0,.string ByteArray.empty,.int .i64 0,.int .i64 0,.slice none 0 0]) 6 72 Tryz.underlying25 hx0' hx0 hx1 hx2 rfl (by decide) (.slice tA i tc) i TL (by simp[Act.eval,Act.put]) T2.out _ 1 1 [.bool ul,.int .i64 uk,.string uT,.int .i64 uta,.int .i64 ua,.slice A4 un c4] (by simp[Act.eval,Act.put]) rfl (lies_news (B2.out _ _ (Lies.new _ _ _)) rfl) hone hi1 hi72 M2.out.1.size ?_;intro A6 c6 w6 o6 g6 _;have M3:=Lib.hid (mid_grown M2.out g6 HTb.out);have N3:=Lib.hid (arm_own T2.out g6 (by decide) O2.out);have B3:=Lib.hid (fun b cs (hl:Lies _ b 9 cs)=>arm_lies T2.out g6 (by decide) hl);have O3:=Lib.hid o6;clear o6 g6)
            |(refine step_append_wide rfl (.tmp 53) (.tmp 58) 25 rfl w.heap.size 27 iX (.agg #[.bool false,.int .i64 0,.string ByteArray.empty,.int .i64 0,.int .i64 0,.slice none 0 0]) 6 72 Tryz.underlying25 hx0' hx0 hx1 hx2 rfl (by decide) (.slice tA i tc) i TL (by simp[Act.eval,Act.put]) T2.out _ 1 1 [.bool ul,.int .i64 uk,.string uT,.int .i64 uta,.int .i64 ua,.slice A4 un c4] (by simp[Act.eval,Act.put]) rfl (lies_news (B2.out _ _ (lies_under _ _ _ _)) rfl) hone hi1 hi72 M2.out.1.size ?_;intro A6 c6 w6 o6 g6 _;have M3:=Lib.hid (mid_grown M2.out g6 HTb.out);have N3:=Lib.hid (arm_own T2.out g6 (by decide) O2.out);have B3:=Lib.hid (fun b cs (hl:Lies _ b 9 cs)=>arm_lies T2.out g6 (by decide) hl);have O3:=Lib.hid o6;clear o6 g6)
            |(refine step_append_wide rfl (.tmp 53) (.tmp 58) 25 rfl w.heap.size 27 iX (.agg #[.bool false,.int .i64 0,.string ByteArray.empty,.int .i64 0,.int .i64 0,.slice none 0 0]) 6 72 Tryz.underlying25 hx0' hx0 hx1 hx2 rfl (by decide) (.slice tA i tc) i TL (by simp[Act.eval,Act.put]) (T2.out.alloc _) _ 1 1 [.bool ul,.int .i64 uk,.string uT,.int .i64 uta,.int .i64 ua,.slice A4 un c4] (by simp[Act.eval,Act.put]) rfl (lies_news (Lies.new _ _ _) rfl) hone hi1 hi72 (mid_alloc M2.out _).1.size ?_;intro A6 c6 w6 o6 g6 _;have M3:=Lib.hid (mid_grown (mid_alloc M2.out _) g6 HTb.out);have N3:=Lib.hid (arm_own (T2.out.alloc _) g6 (by decide) (O2.out.alloc _));have B3:=Lib.hid (fun b cs (hl:Lies _ b 9 cs)=>arm_lies (T2.out.alloc _) g6 (by decide) hl);have O3:=Lib.hid o6;clear o6 g6))
        all_goals
         have HV:=Lib.hid (HFin.out w6 _ _ _ _ M3.out.1 N3.out O3.out)
         clear HFin HMS HNb HTb M0 N0 T0 M2 T2 B2 O2 M3 N3 B3 O3 hone hi1 hi16 hi72 hs0' hs0 hs1 hs2 hx0' hx0 hx1 hx2
         go_wp2
         go_roundw
         case rel=>exact⟨i+1,_,_,_,_,by omega,by go_num,rfl,rfl,HV.out⟩
         case measure=>simp[intOf];omega
       ·rw[if_neg hs] at hXn
        rw[if_neg hs,decide_eq_false hs] at hNm
        obtain rfl:=hXn.out rfl
        have HNm:=Lib.hid hNm
        have HE:Hid (∀ W,Below E1.heap.size E1 W→_):=fun W hW=>HErr.out 1 W (hBw.trans (hW.mono hBw.size)) rfl
        obtain⟨hn9,hhn⟩:∃ hn9,h.L.length=hn9:=⟨_,rfl⟩
        rw[hhn] at d5 HNm
        clear HErr HXb HI HTree HM HLn hXn hXs hbm hQm hQ hNr hTr hB hx hle2 hxn hBE hBw hLE hb2 hNm hs f hle3 ht3 hle4 ht4 s4 hb1 hhn
        go_wp2_with fail
        refine HNm.out.mono ?_
        rintro e w1 ⟨rfl,b1⟩
        have HE1:=Lib.hid (HE.out w1 b1)
        clear HNm b1 d0 d1 d2 d3 d4 d5 e0 e5 HE
        go_wp2
        try simp only[Exit.inBlock,Exit.then]
        exact bodyPost_ret (v:=.tuple #[.slice none 0 0,.slice none 0 0,.int .i64 1]) (by simp[results,Tryz.results185,go_sem]) rfl HE1.out
      ·obtain rfl:=hXn.out (by
        unfold Bd.bind1
        simp only
        split
        ·simp at hxn;omega
        ·rfl)
       have HE:=Lib.hid (HErr.out 1 E1 hBw rfl)
       have hne:((xn:Int) != 2)=true:=by simp;omega
       clear HErr HXb HI HTree HM HLn hXn hXs hbm hQm hQ hNr hTr hB hx hle2 ht2 hxn hBE hBw hLE hb2 h2
       go_wp2
       try simp only[Exit.inBlock,Exit.then]
       exact bodyPost_ret (v:=.tuple #[.slice none 0 0,.slice none 0 0,.int .i64 1]) (by simp[results,Tryz.results185,go_sem]) rfl HE.out
    ·skip
     obtain rfl:i=n:=by omega
     obtain⟨hB,m,Q,hbm,hQm,hQ,hNr,hTr⟩:=HI.out
     rw[List.take_of_length_le (by rw[HLn.out];exact Nat.le_refl _)] at hbm
     have hXf:=HXb.out
     rw[hbm] at hXf
     simp only at hXf
     have hml:m.length=i:=by have:=hNr.1;rw[List.length_map,List.length_map] at this;omega
     have hQl:Q.length=i:=by rw[←hml,←List.length_map (f:=fun q:PSx=>q.2),hQm,List.length_map]
     have hRd:=Rd.of_own hNr
     obtain⟨hTc,hTt⟩:=TreeL.of_own (G:=fun b _=>w.heap.size≤b∨G b) hTr hQl (fun _ _=> .inl) fun q hq=>⟨(hQ q hq).1,((hQ q hq).2.kept (hB.mono (Nat.le_refl _))).mono fun _ _ _=> .inr⟩
     rw[hQm] at hTt
     have HC:=Lib.hid (kcontS wr nA i nc (m.map (·.1)) hRd (by omega))
     have HT2:=Lib.hid (ktwice10 wr nA i nc (m.map (·.1)) hRd (by omega) (fun s hs=>by
      obtain⟨q,hq,rfl⟩:=List.mem_map.1 hs
      exact HM.out m hbm q hq))
     have HOk:Hid (X=(0,m)→∀ w',Below wr.heap.size wr w'→Mk.BndAns w G X (.returned (.tuple #[.slice nA i nc,.slice tA i tc,.int .i64 0])) w'):=fun e w' hw=>by
      rw[e]
      refine⟨⟨nA,nc,tA,tc,?_,?_,?_,hTt.kept hw⟩,hB.trans (hw.mono hB.size)⟩
      ·show _=Ending.returned (.tuple #[.slice nA m.length nc,.slice tA m.length tc,.int .i64 0])
       rw[hml]
      ·show Rd w' _ nA m.length nc _
       rw[hml]
       exact hRd.below hw
      ·show m.length≤tc∧_
       rw[hml]
       exact hTc
     have HB:=Lib.hid hB
     cases hr:anyRes (m.map (·.1)) with
     |true=>
      rw[hr] at HC
      rw[hr,if_pos rfl] at hXf
      have HE:=Lib.hid (HErr.out 101 wr hB hXf)
      clear HErr HXb HI HTree HM HLn hbm hXf hml hQl hRd hTc hTt hQ hQm hNr hTr hB HT2 HOk hr
      go_wp2_with fail
      refine HC.out.mono ?_
      rintro e w1 ⟨rfl,rfl⟩
      clear HC
      go_wp2
      try simp only[Exit.inBlock,Exit.then]
      exact bodyPost_ret (v:=.tuple #[.slice none 0 0,.slice none 0 0,.int .i64 101]) (by simp[results,Tryz.results185,go_sem]) rfl HE.out
     |false=>
      rw[hr] at HC
      rw[hr,if_neg (by decide)] at hXf
      cases ht:Bd.twice (m.map (·.1)) with
      |true=>
       rw[ht] at HT2
       rw[ht,if_pos rfl] at hXf
       have HE:Hid (∀ W,Below wr.heap.size wr W→_):=fun W hW=>HErr.out 4 W (HB.out.trans (hW.mono HB.out.size)) hXf
       clear HErr HXb HI HTree HM HLn hbm hXf hml hQl hRd hTc hTt hQ hQm hNr hTr hB HOk hr ht
       go_wp2_with fail
       refine HC.out.mono ?_
       rintro e w1 ⟨rfl,rfl⟩
       clear HC
       go_wp2_with fail
       refine HT2.out.mono ?_
       rintro e w2 ⟨rfl,b2⟩
       have HE2:=Lib.hid (HE.out w2 b2)
       clear HT2 b2 HE
       go_wp2
       try simp only[Exit.inBlock,Exit.then]
       exact bodyPost_ret (v:=.tuple #[.slice none 0 0,.slice none 0 0,.int .i64 4]) (by simp[results,Tryz.results185,go_sem]) rfl HE2.out
      |false=>
       rw[ht] at HT2
       rw[ht,if_neg (by decide)] at hXf
       have HE:=Lib.hid (HOk.out hXf)
       clear HErr HXb HI HTree HM HLn hbm hXf hml hQl hRd hTc hTt hQ hQm hNr hTr hB HOk hr ht
       go_wp2_with fail
       refine HC.out.mono ?_
       rintro e w1 ⟨rfl,rfl⟩
       clear HC
       go_wp2_with fail
       refine HT2.out.mono ?_
       rintro e w2 ⟨rfl,b2⟩
       have HE2:=Lib.hid (HE.out w2 b2)
       clear HT2 b2 HE
       go_wp2
       try simp only[Exit.inBlock,Exit.then]
       exact bodyPost_ret (v:=.tuple #[.slice nA i nc,.slice tA i tc,.int .i64 0]) (by simp[results,Tryz.results185,go_sem]) rfl HE2.out
 ·have hX:X=(1,[]):=by rw[←HX.out];exact Mk.bnd_two h2
  subst hX
  have HE:=Lib.hid (HErr.out 1 w (Below.refl _ w) rfl)
  obtain⟨n,hnL⟩:∃ n,r.length=n:=⟨_,rfl⟩
  rw[hnL] at h2 ⊢
  have hne:((n:Int) != 2)=true:=by simp;omega
  clear HErr HX h2 h hL hle hnL
  go_enter Tryz.func185,Tryz.ntmps185
  go_wp2
  try simp only[Exit.inBlock,Exit.then]
  exact bodyPost_ret (v:=.tuple #[.slice none 0 0,.slice none 0 0,.int .i64 1]) (by simp[results,Tryz.results185,go_sem]) rfl HE.out
theorem Mk.let_bnd (s:Ms) (r:List Sx):((Mk.bnd r).1≠0∧Mk.let_ s r=(s,(Mk.bnd r).1))∨((Mk.bnd r).1=0∧∃ b t,r=[b,t]∧Mk.let_ s r=(Mk.nest s ((Mk.bnd r).2.map (·.2)) (.bind ((Mk.bnd r).2.map (·.1)) t),0)):=by
 by_cases h2:r.length=2
 ·obtain⟨b,t,rfl⟩:∃ b t,r=[b,t]:=by
   match r,h2 with
   |[b,t],_=>exact⟨b,t,rfl⟩
  have h1:Mk.bnd [b,t]=if b.list=false then((1:Int),[]) else match Bd.binds b.L with
   |none=>(1,[])
   |some m=>if anyRes (m.map (·.1))=true then(101,[]) else if Bd.twice (m.map (·.1))=true then(4,[]) else(0,m):=rfl
  have h3:Mk.let_ s [b,t]=if b.list=false then(s,(1:Int)) else match Bd.binds b.L with
   |none=>(s,1)
   |some m=>if(m.any fun q=>Bd.reserved q.1.data.toList)=true then(s,101) else if Bd.twice (m.map (·.1))=true then(s,4)
    else(Mk.nest s (m.map (·.2)) (.bind (m.map (·.1)) t),0):=rfl
  rw[h1,h3]
  by_cases hl:b.list=false
  ·rw[if_pos hl,if_pos hl]
   exact .inl ⟨by decide,rfl⟩
  ·rw[if_neg hl,if_neg hl]
   cases Bd.binds b.L with
   |none=>exact .inl ⟨by decide,rfl⟩
   |some m=>
    simp only
    have e:anyRes (m.map (·.1))=m.any fun q=>Bd.reserved q.1.data.toList:=by unfold anyRes;rw[List.any_map];rfl
    rw[e]
    split
    ·exact .inl ⟨by decide,rfl⟩
    ·split
     ·exact .inl ⟨by decide,rfl⟩
     ·exact .inr ⟨rfl,b,t,rfl,rfl⟩
 ·rw[Mk.bnd_two h2]
  refine .inl ⟨by decide,?_⟩
  unfold Mk.let_
  split
  ·simp at h2
  ·rfl
theorem Mk.Rep.out {E:Mk.Env} {w:World} {M:Nat} {Y:Mk.Lay} {s:Ms} (h:Mk.Rep E w M Y s):∀ k,w.heap.size≤k→¬Mk.foot M Y k:=fun k hk e=>by have:=h.lt k e;omega
theorem klet (E:Mk.Env) (w:World) (M:Nat) (Y:Mk.Lay) (s:Ms) (bs:List Fr) (f:Fr) (A:Option Addr) (c:Nat) (r:List Sx) (h:Mk.Rep E w M Y s) (hf:s.fr=bs++[f]) (hs:Mk.Small s)
  (hr:TreeL w (fun b _=>¬Mk.foot M Y b) A r) (hle:r.length≤c∧c≤maxLen) (hL:∀ b t,r=[b,t]→b.L.length≤1000∧∀ m,Bd.binds b.L=some m→∀ q∈m,q.1.size≤maxLen):
  Calls Tryz.prog 159 #[.pointer (some ⟨M,0,none⟩),.slice A r.length c] w fun x w'=>Mk.Ans E w M Y (Mk.let_ s r) x w':=by
 obtain⟨W1,hW1⟩:∃ W1,(w.alloc (.cells #[.pointer (some ⟨M,0,none⟩)] 74)).alloc (.cells #[.slice A r.length c] 25)=W1:=⟨_,rfl⟩
 have hB1:Below w.heap.size w W1:=by rw[←hW1];exact((Below.refl _ w).alloc (Nat.le_refl _) _).alloc (by simp) _
 have hz1:W1.heap.size=w.heap.size+2:=by rw[←hW1];simp
 have hL1:Lies W1 w.heap.size 74 #[.pointer (some ⟨M,0,none⟩)]:=by rw[←hW1];exact lies_under _ _ _ _
 have hL3:Lies W1 (w.heap.size+1) 25 #[.slice A r.length c]:=by
  have:=Lies.new (w.alloc (.cells #[.pointer (some ⟨M,0,none⟩)] 74)) 25 #[.slice A r.length c]
  rw[World.size_alloc] at this
  rw[←hW1]
  exact this
 have hbnd:=kbindings W1 (fun k=>¬Mk.foot M Y k) A c r (hr.kept hB1) hle hL
 have HB:=Lib.hid hbnd
 have HErr:Hid (∀ w',Below W1.heap.size W1 w'→(Mk.bnd r).1≠0→Mk.Ans E w M Y (Mk.let_ s r) (.returned (.int .i64 (Mk.bnd r).1)) w'):=fun w' hw hz=>by
  rcases Mk.let_bnd s r with⟨_,e⟩|⟨e,_⟩
  ·rw[e]
   exact⟨rfl,Mk.Left.same h (hB1.trans (hw.mono hB1.size))⟩
  ·exact absurd e hz
 have HFl:Hid (∀ W,Below W1.heap.size W1 W→W.cell? ⟨w.heap.size,0,none⟩=some (.pointer (some ⟨M,0,none⟩))∧w.heap.size<W.heap.size):=fun W hW=>by
  have hl:=(Turn.of_below (F:=fun _=>False) hW).lies hL1 id
  exact⟨by rw[hl.cell];rfl,hl.lt⟩
 have HN:Hid (∀ w2 nA nc tA tc,Below W1.heap.size W1 w2→(Mk.bnd r).1=0→Rd w2 (fun k=>W1.heap.size≤k) nA (Mk.bnd r).2.length nc (((Mk.bnd r).2.map (·.1)).map .string)→((Mk.bnd r).2.length≤tc∧tc≤maxLen)→TreeL w2 (fun b _=>W1.heap.size≤b∨¬Mk.foot M Y b) tA ((Mk.bnd r).2.map (·.2))→
   Calls Tryz.prog 160 #[.pointer (some ⟨M,0,none⟩),.slice tA (Mk.bnd r).2.length tc,.func (.func 186) #[] #[.pointer (some ⟨w.heap.size,0,none⟩),.pointer (some ⟨w2.heap.size,0,none⟩),.pointer (some ⟨w.heap.size+1,0,none⟩)]] (w2.alloc (.cells #[.slice nA (Mk.bnd r).2.length nc] 88)) fun x w'=>Mk.Ans E w M Y (Mk.let_ s r) x w'):=fun w2 nA nc tA tc hw hz hn ht htt=>by
  rcases Mk.let_bnd s r with⟨e,_⟩|⟨_,b,t,rfl,e⟩
  ·exact absurd hz e
  rw[e]
  have hb2:Below w.heap.size w w2:=hB1.trans (hw.mono hB1.size)
  have hba:Below w2.heap.size w2 (w2.alloc (.cells #[.slice nA (Mk.bnd [b,t]).2.length nc] 88)):=(Below.refl _ _).alloc (Nat.le_refl _) _
  have hb3:=hb2.trans (hba.mono hb2.size)
  have hR:=h.below hb3
  have hob:∀ k,W1.heap.size≤k→¬Mk.foot M Y k:=fun k hk=>h.out k (by omega)
  have l1:=(Turn.of_below (F:=fun _=>False) hba).lies ((Turn.of_below (F:=fun _=>False) hw).lies hL1 id) id
  have l3:=(Turn.of_below (F:=fun _=>False) hba).lies ((Turn.of_below (F:=fun _=>False) hw).lies hL3 id) id
  have hn2:Rd w2 (fun k=>¬Mk.foot M Y k) nA (Mk.bnd [b,t]).2.length nc (((Mk.bnd [b,t]).2.map (·.1)).map .string):=hn.mono fun k _ hk=>hob k hk
  have ht2:TreeL w2 (fun k _=>¬Mk.foot M Y k) tA ((Mk.bnd [b,t]).2.map (·.2)):=htt.mono fun k _ _ hk=>hk.elim (hob k) id
  have hc:=knest E _ M Y s bs f tA tc _ ((Mk.bnd [b,t]).2.map (·.2)) (.bind ((Mk.bnd [b,t]).2.map (·.1)) t) hR hf (by have:=hs.fr;rw[hf,List.length_append] at this;omega) (by have:=hs.sc;omega) (by have:=(hs.ids f (by rw[hf];simp)).2;omega)
   (by rw[List.length_map];exact ht) (ht2.kept hba) ⟨w.heap.size,w2.heap.size,w.heap.size+1,nA,nc,A,c,b,rfl,h.out _ (Nat.le_refl _),h.out _ hb2.size,h.out _ (by omega),l1,by rw[List.length_map];exact Lies.new w2 _ _,by rw[List.length_map];exact hn2.below hba,l3,(hr.kept hb3),hle⟩
  rw[List.length_map] at hc
  exact hc.mono fun x w' q=>q.up hb3
 obtain⟨X,hX⟩:∃ X,Mk.bnd r=X:=⟨_,rfl⟩
 rw[hX] at HB HErr HN
 obtain⟨R,hR⟩:∃ R,Mk.let_ s r=R:=⟨_,rfl⟩
 rw[hR] at HErr HN ⊢
 obtain⟨rn,hrn⟩:∃ rn,r.length=rn:=⟨_,rfl⟩
 rw[hrn] at HB hW1 ⊢
 have c3:W1.cell? ⟨w.heap.size+1,0,none⟩=some (.slice A rn c):=by rw[←hrn,hL3.cell];rfl
 have hl3:=hL3.lt
 clear h hf hs hr hle hL hbnd hB1 hL1 hL3 hX hR hrn
 go_enter Tryz.func159,Tryz.ntmps159
 go_wp2_with fail
 refine HB.out.mono ?_
 rintro e w2 ⟨⟨nA,nc,tA,tc,rfl,q1,q2,q3⟩,b2⟩
 obtain⟨z,hz⟩:∃ z,X.1=z:=⟨_,rfl⟩
 have ba:Below W1.heap.size W1 (w2.alloc (.cells #[.slice nA X.2.length nc] 88)):=b2.alloc b2.size _
 by_cases h0:z=0
 ·subst h0
  have HC:=Lib.hid (HN.out w2 nA nc tA tc b2 hz q1 q2 q3)
  obtain⟨f1,f2⟩:=HFl.out _ ba
  obtain⟨m,hm⟩:∃ m,X.2.length=m:=⟨_,rfl⟩
  rw[hm] at HC f1 f2 ⊢
  rw[hz]
  have hmf:∀ (fn:Fn) (first cap:Array Value) (w:World),(Instr.makeFunc fn first cap).run Tryz.prog w=.ok (.func fn first cap) w:=fun _ _ _ _=>rfl
  clear HB HErr HN HFl q1 q2 q3 b2 hz ba hm c3 hl3
  go_wp2_with fail
  refine HC.out.mono ?_
  rintro e w3 ⟨rfl,v⟩
  have V:=Lib.hid v
  clear HC v f1 f2
  go_wp2
  go_ret
  exact⟨rfl,V.out⟩
 ·have HE:=Lib.hid (HErr.out _ ba (by rw[hz];exact h0))
  have hne:(z != 0)=true:=by simp[h0]
  rw[hz] at HE ⊢
  clear HB HErr HN HFl q1 q2 q3 b2 hz ba c3 hl3 h0
  go_wp2
  go_ret
  exact HE.out
end Go.Proofs.YtcgaeknikfaghaaGreatDoor
