/- What the proofs of this claim use, text by text. -/
import Derived.Test.YtcgaeknikfaghaaGreatDoorQD14
import Derived.Test.YtcgaeknikfaghaaGreatDoorQD09
import Derived.Deep.Slices
import Derived.Deep.Fields
import Derived.ChangeSame
set_option linter.unusedSimpArgs false
set_option linter.unusedVariables false
set_option maxRecDepth 100000
set_option maxHeartbeats 25600000
namespace Go.Proofs.YtcgaeknikfaghaaGreatDoor
open Go.RowKit
def Tm.sortAt (l:List Nd) (p:Int):Int:=(l[p.toNat]?.map (·.sort)).getD 0
theorem Tm.letAt_sort (l:List Nd) (a:List Int):a.map (Tm.letAt l)=(a.map (Tm.sortAt l)).map Tm.letter:=by rw[List.map_map];rfl
theorem Tm.sortAt_nat {l:List Nd} {q:Nat} {x:Nd} (h:l[q]?=some x):Tm.sortAt l (q:Int)=x.sort:=by
 unfold Tm.sortAt
 rw[Int.toNat_natCast,h]
 rfl
theorem Tm.sortAt_ok {l:List Nd} (hI:Tm.Inv l) {a:List Int} (ha:Tm.allIn l a=true):∀ s∈a.map (Tm.sortAt l),1≤s∧s≤3:=fun s hs=>by
 obtain⟨p,hp,rfl⟩:=List.mem_map.1 hs
 obtain⟨h0,h1⟩:=Tm.allIn_spec ha p hp
 obtain⟨q,rfl⟩:∃ q:Nat,p=q:=⟨p.toNat,by omega⟩
 obtain⟨x,hx⟩:∃ x,l[q]?=some x:=⟨_,List.getElem?_eq_getElem (by omega)⟩
 rw[Tm.sortAt_nat hx]
 exact hI.sort x (List.mem_of_getElem? hx)
theorem kappRow9 (w:World) (b:Nat) (F:Nat→Prop) (l:List Nd) (h:Bk w b F l) (hI:Tm.Inv l) (o:Nat) (A:Option Addr) (n c:Nat) (a:List Int) {G:Nat→Prop} (ha:NumS w A n a) (hwa:∀ z∈a,(Lit.int .i64 z).wf=true) (hg:Gs G A n) (hG:∀ k,G k→¬F k)
  (hn:n≤1000) (hln:l.length≤30000) (hT:Pow9 w) (hK:Ask9 w) {ws:List Nat} {more:Bool} {own a0 a1 p0 p1 p2 ow:Nat} (ho:o<31) (hrow:Tm.tabL[o]?=some [a0,a1,p0,p1,p2,ow]) (ha0:a0≤200) (ha1:a1≤200) (hp0:p0≤3) (hp1:p1≤3) (hp2:p2≤3) (how:ow≤3) (hpos:0<a1)
  (hasks:Tm.asks (o:Int)=some (ws,more,own)) (hr:Tm.RowIs ws more own a0 a1 p0 p1 p2 ow):
  Calls Tryz.prog 163 #[.pointer (some ⟨b,0,none⟩),.int .i64 (o:Int),.slice A n c] w fun e w'=>BAns w b F (Tm.app l o a) e w':=by
 obtain⟨W1,hW1⟩:∃ W1,w.alloc (.cells #[.int .u8 (a0:Int),.int .u8 (a1:Int),.int .u8 (p0:Int),.int .u8 (p1:Int),.int .u8 (p2:Int),.int .u8 (ow:Int)] 239)=W1:=⟨_,rfl⟩
 have B1:Below w.heap.size w W1:=by rw[←hW1];exact(Below.refl _ w).alloc (Nat.le_refl _) _
 have L1:Lies W1 w.heap.size 239 #[.int .u8 (a0:Int),.int .u8 (a1:Int),.int .u8 (p0:Int),.int .u8 (p1:Int),.int .u8 (p2:Int),.int .u8 (ow:Int)]:=by rw[←hW1];exact Lies.new w _ _
 have g0:=hK o _ hrow 0 a0 rfl
 have g1:=hK o _ hrow 1 a1 rfl
 have g2:=hK o _ hrow 2 p0 rfl
 have g3:=hK o _ hrow 3 p1 rfl
 have g4:=hK o _ hrow 4 p2 rfl
 have g5:=hK o _ hrow 5 ow rfl
 simp only[Nat.add_zero] at g0
 have e0:=L1.cell 0
 have e1:=L1.cell 1
 simp at e0 e1
 have ho':(o:Int)<31:=by omega
 have ho2:¬(31:Int)≤(o:Int):=by omega
 have hz1:((a1:Int) == 0)=false:=beq_eq_false_iff_ne.2 (by omega)
 have hw0:IntKind.i64.wrap (a0:Int)=(a0:Int):=IntWalk.i64_in _ (by omega)
 have hw1:IntKind.i64.wrap (a1:Int)=(a1:Int):=IntWalk.i64_in _ (by omega)
 have HAll:=Lib.hid (khasAll9 W1 b F l (h.below B1) A n c a (ha.below B1) (by omega))
 have HB1:=Lib.hid B1
 have HL1:=Lib.hid L1
 have HH:=Lib.hid h
 have HA:=Lib.hid ha
 have HI:=Lib.hid hI
 have hal:=ha.len
 obtain⟨rl,hrl⟩:∃ r,Tm.app l (o:Int) a=r:=⟨_,rfl⟩
 have hlen:(a.length<ws.length∨(ws.length<a.length∧more=false)∨200<a.length)↔(n<a0∨a1<n):=by
  have h1:=hr.len
  have h2:=hr.most
  have h3:=hr.pos
  cases more <;> simp at h2 <;> simp <;> omega
 have HE1:Hid (n<a0∨a1<n→rl=(l,0,1)):=fun e=>by
  rw[←hrl,Tm.app,hasks]
  simp only
  rw[if_pos (hlen.2 e)]
 have HE2:Hid (¬(n<a0∨a1<n)→Tm.allIn l a=false→rl=(l,0,1)):=fun e e2=>by
  rw[←hrl,Tm.app,hasks]
  simp only
  rw[if_neg (fun x=>e (hlen.1 x)),if_pos e2]
 have HE3:Hid (¬(n<a0∨a1<n)→Tm.allIn l a=true→Tm.oks ws 0 63 (a.map (Tm.letAt l))=false→rl=(l,0,90)):=fun e e2 e3=>by
  rw[←hrl,Tm.app,hasks]
  simp only
  rw[if_neg (fun x=>e (hlen.1 x)),if_neg (by rw[e2];decide),if_pos e3]
 have HE4:Hid (¬(n<a0∨a1<n)→Tm.allIn l a=true→Tm.oks ws 0 63 (a.map (Tm.letAt l))=true→(o:Int)=17∧1<Tm.free l a→rl=(l,0,101)):=fun e e2 e3 e4=>by
  rw[←hrl,Tm.app,hasks]
  simp only
  rw[if_neg (fun x=>e (hlen.1 x)),if_neg (by rw[e2];decide),if_neg (by rw[e3];decide),if_pos e4]
 have HE5:Hid (¬(n<a0∨a1<n)→Tm.allIn l a=true→Tm.oks ws 0 63 (a.map (Tm.letAt l))=true→¬((o:Int)=17∧1<Tm.free l a)→rl=Tm.add l (Tm.node (o:Int) own l a)):=fun e e2 e3 e4=>by
  rw[←hrl,Tm.app,hasks]
  simp only
  rw[if_neg (fun x=>e (hlen.1 x)),if_neg (by rw[e2];decide),if_neg (by rw[e3];decide),if_neg e4]
 rw[hrl]
 clear hrl hlen
 by_cases hn0:n<a0
 ·obtain rfl:=HE1.out (.inl hn0)
  have hn0':(n:Int)<(a0:Int):=by omega
  have HV:=Lib.hid (BAns.same (x:=0) (y:=1) HH.out HB1.out)
  clear HE1 HE2 HE3 HE4 HE5 HAll HB1 HL1 HH HA HI h hI ha hwa hg hG hT hK hrow hasks hr B1 L1 hal hn0
  go_enter Tryz.func163,Tryz.ntmps163
  go_wp2
  go_ret2
  exact HV.out
 by_cases hn1:a1<n
 ·obtain rfl:=HE1.out (.inr hn1)
  have hn0':¬(n:Int)<(a0:Int):=by omega
  have hn1':(a1:Int)<(n:Int):=by omega
  have HV:=Lib.hid (BAns.same (x:=0) (y:=1) HH.out HB1.out)
  clear HE1 HE2 HE3 HE4 HE5 HAll HB1 HL1 HH HA HI h hI ha hwa hg hG hT hK hrow hasks hr B1 L1 hal hn0 hn1
  go_enter Tryz.func163,Tryz.ntmps163
  go_wp2
  go_ret2
  exact HV.out
 have hnn:¬(n<a0∨a1<n):=fun e=>e.elim hn0 hn1
 have hn0':¬(n:Int)<(a0:Int):=by omega
 have hn1':¬(a1:Int)<(n:Int):=by omega
 cases hall:Tm.allIn l a with
 |false=>
  obtain rfl:=HE2.out hnn hall
  rw[hall] at HAll
  have HV:Hid (∀ w2,Below W1.heap.size W1 w2→BAns w b F (l,0,1) (.returned (.tuple #[.int .i64 0,.int .i64 1])) w2):=fun w2 b2=>BAns.same (x:=0) (y:=1) HH.out (HB1.out.trans (b2.mono HB1.out.size))
  clear HE1 HE2 HE3 HE4 HE5 HB1 HL1 HH HA HI h hI ha hwa hg hG hT hK hrow hasks hr B1 L1 hal hn0 hn1 hnn hall
  go_enter Tryz.func163,Tryz.ntmps163
  go_wp2_with fail
  refine HAll.out.mono ?_
  rintro e w2 ⟨rfl,b2⟩
  have HV2:=Lib.hid (HV.out w2 b2)
  clear HV HAll b2
  go_wp2
  go_ret2
  exact HV2.out
 |true=>
  rw[hall] at HAll
  have hn1p:1≤n:=by have:=hr.len;have:=hr.pos;omega
  obtain⟨k,hk⟩:∃ k,n=k+1:=⟨n-1,by omega⟩
  have hnk:(n:Int)-1=(k:Int):=by omega
  have hkn:(k:Int)<(n:Int):=by omega
  have hk0:(0:Int)≤(k:Int):=by omega
  obtain⟨bA,oA,zl,rfl,hzl,hzlm,_,hczl⟩:=HA.out.get (i:=k) (by omega)
  obtain⟨hl0,hl1⟩:=Tm.allIn_spec hall zl hzlm
  obtain⟨q,rfl⟩:∃ q:Nat,zl=(q:Int):=⟨zl.toNat,by omega⟩
  obtain⟨xl,hxl⟩:∃ xl,l[q]?=some xl:=⟨_,List.getElem?_eq_getElem (by omega)⟩
  obtain⟨A',c',hb,hcb,hcx⟩:=h.cell
  obtain⟨g,off,PL,rfl,hgl,_,hcl⟩:=hcx q xl hxl
  obtain⟨last,hlast⟩:∃ last,xl.sort=last:=⟨_,rfl⟩
  have hgetl:(a.map (Tm.sortAt l)).getLast?.getD 0=last:=by
   rw[List.getLast?_eq_getElem?,List.length_map,hal,hk,Nat.add_sub_cancel,List.getElem?_map,hzl]
   simp only[Option.map_some,Option.getD_some]
   rw[Tm.sortAt_nat hxl,hlast]
  have hss:=Tm.sortAt_ok hI hall
  have hparts:=hr.parts (a.map (Tm.sortAt l)) hss (by
   rw[List.length_map]
   have h1:=hr.len
   have h2:=hr.most
   have h3:=hr.pos
   cases more <;> simp at h2 <;> simp <;> omega)
  rw[hgetl,←Tm.letAt_sort] at hparts
  have hown:=hr.own_ (a.map (Tm.sortAt l)) hss (by intro e;rw[List.map_eq_nil_iff] at e;rw[e] at hal;simp at hal;omega)
  rw[hgetl,←Tm.letAt_sort] at hown
  have hnode:Tm.node (o:Int) own l a=⟨(o:Int),Tm.fix ow last,a,ByteArray.empty,0,[]⟩:=by unfold Tm.node;rw[hown]
  rw[hnode] at HE5
  obtain⟨ln,hlnn⟩:∃ ln,l.length=ln:=⟨_,rfl⟩
  have hql:(q:Int)<(ln:Int):=by omega
  rw[hlnn] at hcb
  have HCb:Hid (∀ W,Below w.heap.size w W→W.cell? ⟨b,2,none⟩=some (.slice (some ⟨g,off,none⟩) ln c')):=fun W hW=>(hW.cell (p:=⟨b,2,none⟩) hb).trans hcb
  have HCa:Hid (∀ W,Below w.heap.size w W→W.cell? ⟨bA,oA+k,none⟩=some (.int .i64 (q:Int))):=fun W hW=>(hczl W hW).2
  have HCl:Hid (∀ W,Below w.heap.size w W→W.cell? ⟨g,off+q*7+1,none⟩=some (.int .i64 last)):=fun W hW=>by
   have:=(hW.cell (p:=⟨g,off+q*7+1,none⟩) hgl).trans (hcl 1 (.int .i64 xl.sort) rfl)
   rwa [hlast] at this
  have HX:Hid (∀ W,Below w.heap.size w W→∀ (i:Nat),i<n→∃ p x,a[i]?=some ((p:Nat):Int)∧p<ln∧Tm.sortAt l (p:Int)=x∧W.cell? ⟨bA,oA+i,none⟩=some (.int .i64 (p:Int))∧W.cell? ⟨g,off+p*7+1,none⟩=some (.int .i64 x)∧g<w.heap.size):=fun W hW i hi=>by
   obtain⟨bA2,oA2,z,e,hz,hzm,_,hc⟩:=ha.get hi
   injection e with e
   injection e with e1 e2
   subst e1
   subst e2
   obtain⟨h0,h1⟩:=Tm.allIn_spec hall z hzm
   obtain⟨p,rfl⟩:∃ p:Nat,z=(p:Int):=⟨z.toNat,by omega⟩
   obtain⟨x,hx⟩:∃ x,l[p]?=some x:=⟨_,List.getElem?_eq_getElem (by omega)⟩
   obtain⟨g',off',P',e,_,_,hc'⟩:=hcx p x hx
   injection e with e
   injection e with e1 e2
   subst e1
   subst e2
   exact⟨p,x.sort,hz,by omega,Tm.sortAt_nat hx,(hc W hW).2,(hW.cell (p:=⟨g,off+p*7+1,none⟩) hgl).trans (hc' 1 (.int .i64 x.sort) rfl),hgl⟩
  have HPt:=Lib.hid hparts
  have HUn:Hid (∀ W,Below w.heap.size w W→Calls Tryz.prog 190 #[.pointer (some ⟨b,0,none⟩),.slice (some ⟨bA,oA,none⟩) n c] W fun e w'=>e=.returned (.int .i64 ((Tm.free l a:Nat):Int))∧Below W.heap.size W w'):=fun W hW=>
   kunknowns9 W b F l (h.below hW) hI _ n c a (ha.below hW) hall hn
  have HAd:Hid (∀ W,Below w.heap.size w W→Calls Tryz.prog 109 #[.pointer (some ⟨b,0,none⟩),.agg #[.int .i64 (o:Int),.int .i64 (Tm.fix ow last),.slice (some ⟨bA,oA,none⟩) n c,.string ⟨#[]⟩,.bool false,.slice none 0 0,.slice none 0 0]] W fun e w'=>BAns W b F (Tm.add l ⟨(o:Int),Tm.fix ow last,a,ByteArray.empty,0,[]⟩) e w'):=fun W hW=>by
   have hso:=Tm.asks_six hasks
   have hfx:1≤Tm.fix ow last∧Tm.fix ow last≤3:=by
    rw[←hown]
    exact Tm.sortOf_ok _
   refine kadd9 W b F l ⟨some ⟨bA,oA,none⟩,n,c,false,none,0,0,none,0,0⟩ ⟨(o:Int),Tm.fix ow last,a,ByteArray.empty,0,[]⟩ (G:=G) (h.below hW)
    ⟨ha.below hW,?_,RunS.nil _ _,rfl,⟨Nat.le_refl _,Nat.zero_le _⟩,⟨hn,by simp,by simp⟩,hwa,fun r hr=>absurd hr List.not_mem_nil,hg,Gs.zero _ _,Gs.zero _ _⟩ hG ?_ (WalkArith.wf_i64 (n:=(o:Int)) (by omega)) (WalkArith.wf_i64 (n:=Tm.fix ow last) (by omega)) (by simp) hln (hT.on hW)
   ·show Lims W none 0 (Tm.limbs 0)
    rw[Tm.limbs_zero]
    exact Lims.nil_ _ _
   ·exact .inr (.inr ⟨by simp only;omega,by simp only;omega,rfl,rfl⟩)
  have HSm:Hid (∀ W x y,Below w.heap.size w W→BAns w b F (l,x,y) (.returned (.tuple #[.int .i64 x,.int .i64 y])) W):=fun W x y hW=>BAns.same h hW
  have HPa:Hid (∀ (s:World) (i:Nat),i≤1000000→Calls Tryz.prog 189 #[.agg #[.int .u8 (a0:Int),.int .u8 (a1:Int),.int .u8 (p0:Int),.int .u8 (p1:Int),.int .u8 (p2:Int),.int .u8 (ow:Int)],.int .i64 (i:Int),.int .i64 last] s fun e w'=>e=.returned (.int .i64 (Tm.fix (if i=0 then p0 else if i=1 then p1 else p2) last))∧Below s.heap.size s w'):=fun s i hi=>kpart9 a0 a1 p0 p1 p2 ow i last hp0 hp1 hp2 hi s
  have HSo:=Lib.hid fun W=>ksort9 a0 a1 p0 p1 p2 ow last how W
  have HNl:Hid (a.length=n):=hal
  have E3:=Lib.hid (HE3.out hnn hall)
  have E4:=Lib.hid (HE4.out hnn hall)
  have E5:=Lib.hid (HE5.out hnn hall)
  clear HE1 HE2 HE3 HE4 HE5 HH HA HI h hI ha hwa hg hG hT hK hrow hasks hr B1 L1 hal hn0 hn1 hnn hall hk hzl hzlm hczl hl0 hl1 hxl hcb hcx hcl hlast hgetl hss hparts hown hnode hlnn hgl
  go_enter Tryz.func163,Tryz.ntmps163
  go_wp2_with fail
  refine HAll.out.mono ?_
  rintro e w2 ⟨rfl,b2⟩
  have hB2:=HB1.out.trans (b2.mono HB1.out.size)
  have hL2:=(b2.block _ HL1.out.lt).trans HL1.out
  have cb:=HCb.out w2 hB2
  have ca:=HCa.out w2 hB2
  have cl:=HCl.out w2 hB2
  have HB2:=Lib.hid hB2
  have HL2:=Lib.hid hL2
  clear HAll HB1 HL1 hB2 hL2 b2 g0 g1 g2 g3 g4 g5 e0 e1 hW1
  go_wp2_with fail
  go_quiet (fail)
  have HBD:Hid (Below w.heap.size w (w2.drewN nq)):=below_drewN HB2.out nq
  have HLD:Hid (Lies (w2.drewN nq) w.heap.size 239 #[.int .u8 (a0:Int),.int .u8 (a1:Int),.int .u8 (p0:Int),.int .u8 (p1:Int),.int .u8 (p2:Int),.int .u8 (ow:Int)]):=HL2.out
  clear HB2 HL2 cb ca cl HCa HCl
  generalize w2.drewN nq=D at*
  go_wp2
  go_loopw [63] (fun iv wr=>∃ i:Nat,i≤n∧iv=.int .i64 (i:Nat)∧Hid (Below w.heap.size w wr∧Lies wr w.heap.size 239 #[.int .u8 (a0:Int),.int .u8 (a1:Int),.int .u8 (p0:Int),.int .u8 (p1:Int),.int .u8 (p2:Int),.int .u8 (ow:Int)]∧∀ (j:Nat) s,j<i→(a.map (Tm.sortAt l))[j]?=some s→s=Tm.fix (if j=0 then p0 else if j=1 then p1 else p2) last)) (fun iv _=>n-(intOf iv).toNat)
  case atStart=>exact⟨0,Nat.zero_le _,rfl,HBD.out,HLD.out,fun j s hj=>absurd hj (Nat.not_lt_zero _)⟩
  case round=>
   obtain⟨i,hi,rfl,HQ⟩:=hrel
   by_cases hlt:i<n
   ·have hlt':(i:Int)<(n:Int):=by omega
    have hi0:(0:Int)≤(i:Int):=by omega
    obtain⟨p,x,hap,hpl,hsx,cza,_,hgw⟩:=HX.out wr HQ.out.1 i hlt
    have hpl':(p:Int)<(ln:Int):=by omega
    have HXs:Hid (∀ s:Lat wr,s.at_.cell? ⟨g,off+p*7+1,none⟩=some (.int .i64 x)):=fun s=>by
     obtain⟨p',x',hap',_,hsx',_,q,_⟩:=HX.out s.at_ (HQ.out.1.trans (s.ok.mono HQ.out.1.size)) i hlt
     rw[hap] at hap'
     obtain rfl:p=p':=by have:=Option.some.inj hap';omega
     rw[←hsx,hsx']
     exact q
    have HBs:Hid (∀ s:Lat wr,s.at_.cell? ⟨b,2,none⟩=some (.slice (some ⟨g,off,none⟩) ln c')):=fun s=>HCb.out s.at_ (HQ.out.1.trans (s.ok.mono HQ.out.1.size))
    have HLs:Hid (∀ s:Lat wr,Lies s.at_ w.heap.size 239 #[.int .u8 (a0:Int),.int .u8 (a1:Int),.int .u8 (p0:Int),.int .u8 (p1:Int),.int .u8 (p2:Int),.int .u8 (ow:Int)]):=fun s=>(s.ok.block _ HQ.out.2.1.lt).trans HQ.out.2.1
    obtain⟨tt,htt⟩:∃ tt,Tm.fix (if i=0 then p0 else if i=1 then p1 else p2) last=tt:=⟨_,rfl⟩
    have HPs:Hid (∀ s:Lat wr,Calls Tryz.prog 189 #[.agg #[.int .u8 (a0:Int),.int .u8 (a1:Int),.int .u8 (p0:Int),.int .u8 (p1:Int),.int .u8 (p2:Int),.int .u8 (ow:Int)],.int .i64 (i:Int),.int .i64 last] s.at_ fun e w'=>e=.returned (.int .i64 tt)∧Below s.at_.heap.size s.at_ w'):=fun s=>by
     have:=HPa.out s.at_ i (by omega)
     rwa [htt] at this
    have HSi:Hid ((a.map (Tm.sortAt l))[i]?=some x):=by
     show(a.map (Tm.sortAt l))[i]?=some x
     rw[List.getElem?_map,hap,Option.map_some,hsx]
    have HTt:=Lib.hid htt
    have hiw:IntKind.i64.wrap ((i:Int)+1)=(i:Int)+1:=IntWalk.i64_in _ (by omega)
    obtain⟨ne,hne⟩:∃ ne,(x != tt)=ne:=⟨_,rfl⟩
    have HNe:=Lib.hid hne
    clear hap hpl hsx htt HX HPa HCb HUn HAd HSo HNl HBD HLD hgw
    go_wp2_with fail
    refine calm_region (C:=Latr wr) (by kernel_rfl) (by kernel_rfl) (latr_drew (Below.refl _ wr)) ?_
    have q0_:∀ s:Lat wr,s.at_.cell? ⟨w.heap.size,0,none⟩=some (.int .u8 (a0:Int)):=fun s=>by rw[(HLs.out s).cell];rfl
    have q1_:∀ s:Lat wr,s.at_.cell? ⟨w.heap.size,1,none⟩=some (.int .u8 (a1:Int)):=fun s=>by rw[(HLs.out s).cell];rfl
    have q2_:∀ s:Lat wr,s.at_.cell? ⟨w.heap.size,2,none⟩=some (.int .u8 (p0:Int)):=fun s=>by rw[(HLs.out s).cell];rfl
    have q3_:∀ s:Lat wr,s.at_.cell? ⟨w.heap.size,3,none⟩=some (.int .u8 (p1:Int)):=fun s=>by rw[(HLs.out s).cell];rfl
    have q4_:∀ s:Lat wr,s.at_.cell? ⟨w.heap.size,4,none⟩=some (.int .u8 (p2:Int)):=fun s=>by rw[(HLs.out s).cell];rfl
    have q5_:∀ s:Lat wr,s.at_.cell? ⟨w.heap.size,5,none⟩=some (.int .u8 (ow:Int)):=fun s=>by rw[(HLs.out s).cell];rfl
    have q6_:=HBs.out
    have q7_:=HXs.out
    repeat(go_big_quiet_step ((go_at_call 189;with_reducible exact calm_call (HPs.out _))))
    refine wpQuiet_nil ?_
    rintro _ ⟨s,rfl⟩
    have HBs':=Lib.hid (HQ.out.1.trans (s.ok.mono HQ.out.1.size))
    have HL':=Lib.hid (HLs.out s)
    have HQ2:=Lib.hid HQ.out.2.2
    clear q0_ q1_ q2_ q3_ q4_ q5_ q6_ q7_ HXs HBs HLs HPs HQ cza
    generalize s.at_=W8 at*
    clear s
    cases ne with
    |true=>
     have hxt:x≠tt:=bne_iff_ne.1 HNe.out
     obtain rfl:=E3.out (by
      cases hk:Tm.oks ws 0 63 (a.map (Tm.letAt l)) with
      |false=>rfl
      |true=>exact absurd ((HPt.out.1 hk i x HSi.out).trans HTt.out) hxt)
     have HV:=Lib.hid (HSm.out W8 0 90 HBs'.out)
     clear hxt E3 E4 E5 HSm HPt HSi HTt HNe HL' HQ2 HBs' hne
     go_wp2
     go_ret2
     exact HV.out
    |false=>
     have hxt:x=tt:=by simpa using HNe.out
     have HV:Hid (Below w.heap.size w W8∧Lies W8 w.heap.size 239 #[.int .u8 (a0:Int),.int .u8 (a1:Int),.int .u8 (p0:Int),.int .u8 (p1:Int),.int .u8 (p2:Int),.int .u8 (ow:Int)]∧∀ (j:Nat) s,j<i+1→(a.map (Tm.sortAt l))[j]?=some s→s=Tm.fix (if j=0 then p0 else if j=1 then p1 else p2) last):=by
      refine⟨HBs'.out,HL'.out,fun j s hj hs=>?_⟩
      rcases Nat.lt_or_ge j i with e|e
      ·exact HQ2.out j s e hs
      ·obtain rfl:j=i:=by omega
       rw[HSi.out] at hs
       rw[←Option.some.inj hs,hxt,HTt.out]
     clear hxt E3 E4 E5 HSm HPt HSi HTt HNe HL' HQ2 HBs' hne
     go_wp2
     go_roundw
     case rel=>exact⟨i+1,by omega,by go_num,HV.out⟩
     case measure=>simp[intOf];omega
   ·have him:n=i:=by omega
    have hlt2:¬(i:Int)<(n:Int):=by omega
    have hoks:Tm.oks ws 0 63 (a.map (Tm.letAt l))=true:=HPt.out.2 fun j s hs=>HQ.out.2.2 j s (by
     have:=(List.getElem?_eq_some_iff.1 hs).1
     rw[List.length_map,HNl.out] at this
     omega) hs
    have F4:=Lib.hid (E4.out hoks)
    have F5:=Lib.hid (E5.out hoks)
    have hLq:=HQ.out.2.1
    have HBq:=Lib.hid HQ.out.1
    have HLq:=Lib.hid hLq
    have q0_:wr.cell? ⟨w.heap.size,0,none⟩=some (.int .u8 (a0:Int)):=by rw[hLq.cell];rfl
    have q1_:wr.cell? ⟨w.heap.size,1,none⟩=some (.int .u8 (a1:Int)):=by rw[hLq.cell];rfl
    have q2_:wr.cell? ⟨w.heap.size,2,none⟩=some (.int .u8 (p0:Int)):=by rw[hLq.cell];rfl
    have q3_:wr.cell? ⟨w.heap.size,3,none⟩=some (.int .u8 (p1:Int)):=by rw[hLq.cell];rfl
    have q4_:wr.cell? ⟨w.heap.size,4,none⟩=some (.int .u8 (p2:Int)):=by rw[hLq.cell];rfl
    have q5_:wr.cell? ⟨w.heap.size,5,none⟩=some (.int .u8 (ow:Int)):=by rw[hLq.cell];rfl
    clear hoks hLq HX HPa HCb HNl HBD HLD E3 E4 E5 HPt HQ him hlt hi
    by_cases h17:(o:Int)=17
    ·have d17:((o:Int) == 17)=true:=beq_iff_eq.2 h17
     have HU:=Lib.hid (HUn.out wr HBq.out)
     obtain⟨fr,hfr⟩:∃ fr,Tm.free l a=fr:=⟨_,rfl⟩
     rw[hfr] at HU F4 F5
     clear hfr HUn
     by_cases h1f:1<fr
     ·have h1f':(1:Int)<(fr:Int):=by omega
      obtain rfl:=F4.out ⟨h17,h1f⟩
      clear F4 F5 HAd HSo h17 h1f
      go_wp2_with fail
      refine HU.out.mono ?_
      rintro e w4 ⟨rfl,b4⟩
      have HV:=Lib.hid (HSm.out w4 0 101 (HBq.out.trans (b4.mono HBq.out.size)))
      clear HU HSm HBq HLq b4 q0_ q1_ q2_ q3_ q4_ q5_
      go_wp2
      go_ret2
      exact HV.out
     ·have h1f':¬(1:Int)<(fr:Int):=by omega
      obtain rfl:=F5.out (fun e=>h1f e.2)
      clear F4 F5 h17 h1f
      go_wp2_with fail
      refine HU.out.mono ?_
      rintro e w4 ⟨rfl,b4⟩
      have hB4:=HBq.out.trans (b4.mono HBq.out.size)
      have hL4:=(b4.block _ HLq.out.lt).trans HLq.out
      clear q0_ q1_ q2_ q3_ q4_ q5_
      have q0_:=Lies.cell (t:=239) (cs:=#[.int .u8 (a0:Int),.int .u8 (a1:Int),.int .u8 (p0:Int),.int .u8 (p1:Int),.int .u8 (p2:Int),.int .u8 (ow:Int)]) hL4 0
      have q1_:=Lies.cell (t:=239) (cs:=#[.int .u8 (a0:Int),.int .u8 (a1:Int),.int .u8 (p0:Int),.int .u8 (p1:Int),.int .u8 (p2:Int),.int .u8 (ow:Int)]) hL4 1
      have q2_:=Lies.cell (t:=239) (cs:=#[.int .u8 (a0:Int),.int .u8 (a1:Int),.int .u8 (p0:Int),.int .u8 (p1:Int),.int .u8 (p2:Int),.int .u8 (ow:Int)]) hL4 2
      have q3_:=Lies.cell (t:=239) (cs:=#[.int .u8 (a0:Int),.int .u8 (a1:Int),.int .u8 (p0:Int),.int .u8 (p1:Int),.int .u8 (p2:Int),.int .u8 (ow:Int)]) hL4 3
      have q4_:=Lies.cell (t:=239) (cs:=#[.int .u8 (a0:Int),.int .u8 (a1:Int),.int .u8 (p0:Int),.int .u8 (p1:Int),.int .u8 (p2:Int),.int .u8 (ow:Int)]) hL4 4
      have q5_:=Lies.cell (t:=239) (cs:=#[.int .u8 (a0:Int),.int .u8 (a1:Int),.int .u8 (p0:Int),.int .u8 (p1:Int),.int .u8 (p2:Int),.int .u8 (ow:Int)]) hL4 5
      simp at q0_ q1_ q2_ q3_ q4_ q5_
      have HB4:=Lib.hid hB4
      clear HU HBq HLq b4 hB4 hL4
      go_wp2_with fail
      refine(HSo.out w4).mono ?_
      rintro e w5 ⟨rfl,b5⟩
      have hB5:=HB4.out.trans (b5.mono HB4.out.size)
      have HA5:=Lib.hid (HAd.out w5 hB5)
      have HB5:=Lib.hid hB5
      clear HSo HAd HB4 b5 hB5 q0_ q1_ q2_ q3_ q4_ q5_
      go_wp2_with fail
      refine HA5.out.mono ?_
      rintro e w6 ha
      have HV:=Lib.hid (ha.up HB5.out)
      obtain⟨rfl,_⟩:=ha
      clear HA5 HB5 HSm
      go_wp2
      go_ret2
      exact HV.out
    ·have d17:((o:Int) == 17)=false:=beq_eq_false_iff_ne.2 h17
     obtain rfl:=F5.out (fun e=>h17 e.1)
     clear F4 F5 h17 HUn
     go_wp2_with fail
     refine(HSo.out wr).mono ?_
     rintro e w5 ⟨rfl,b5⟩
     have hB5:=HBq.out.trans (b5.mono HBq.out.size)
     have HA5:=Lib.hid (HAd.out w5 hB5)
     have HB5:=Lib.hid hB5
     clear HSo HAd HBq HLq b5 hB5 q0_ q1_ q2_ q3_ q4_ q5_
     go_wp2_with fail
     refine HA5.out.mono ?_
     rintro e w6 ha
     have HV:=Lib.hid (ha.up HB5.out)
     obtain⟨rfl,_⟩:=ha
     clear HA5 HB5 HSm
     go_wp2
     go_ret2
     exact HV.out
theorem kapp9 (w:World) (b:Nat) (F:Nat→Prop) (l:List Nd) (h:Bk w b F l) (hI:Tm.Inv l) (op:Int) (A:Option Addr) (n c:Nat) (a:List Int) {G:Nat→Prop} (ha:NumS w A n a) (hwa:∀ z∈a,(Lit.int .i64 z).wf=true) (hg:Gs G A n) (hG:∀ k,G k→¬F k)
  (hn:n≤1000) (hln:l.length≤30000) (hT:Pow9 w) (hK:Ask9 w):
  Calls Tryz.prog 163 #[.pointer (some ⟨b,0,none⟩),.int .i64 op,.slice A n c] w fun e w'=>BAns w b F (Tm.app l op a) e w':=by
 by_cases h0:0≤op
 ·by_cases h1:op<31
  ·obtain⟨a0,a1,p0,p1,p2,ow,hrow,q0,q1,q2,q3,q4,q5,q6⟩:=Tm.row_is h0 h1
   obtain⟨o,rfl⟩:∃ o:Nat,op=o:=⟨op.toNat,by omega⟩
   rw[Int.toNat_natCast] at hrow
   rcases q6 with⟨rfl,hasks⟩|⟨hpos,ws,more,own,hasks,hr⟩
   ·have hap:Tm.app l (o:Int) a=(l,0,101):=by rw[Tm.app,hasks]
    rw[hap]
    have g1:=hK o _ hrow 1 0 rfl
    have HV:=Lib.hid (BAns.same (x:=0) (y:=101) h (Below.refl _ w))
    have ho':(o:Int)<31:=by omega
    clear h hI ha hwa hg hG hT hK hrow hasks hap h1
    go_enter Tryz.func163,Tryz.ntmps163
    go_wp2
    go_ret2
    exact HV.out
   ·exact kappRow9 w b F l h hI o A n c a ha hwa hg hG hn hln hT hK (by omega) hrow q0 q1 q2 q3 q4 q5 hpos hasks hr
  ·have hap:Tm.app l op a=(l,0,101):=by rw[Tm.app,Tm.asks_none (by omega)]
   rw[hap]
   have HV:=Lib.hid (BAns.same (x:=0) (y:=101) h (Below.refl _ w))
   have ho':(31:Int)≤op:=by omega
   have d0:¬op<0:=by omega
   clear h hI ha hwa hg hG hT hK hap h1
   go_enter Tryz.func163,Tryz.ntmps163
   go_wp2
   go_ret2
   exact HV.out
 ·have hap:Tm.app l op a=(l,0,101):=by rw[Tm.app,Tm.asks_none (by omega)]
  rw[hap]
  have HV:=Lib.hid (BAns.same (x:=0) (y:=101) h (Below.refl _ w))
  have d0:op<0:=by omega
  clear h hI ha hwa hg hG hT hK hap h0
  go_enter Tryz.func163,Tryz.ntmps163
  go_wp2
  go_ret2
  exact HV.out
theorem NdK.leaf (w:World) (G:Nat→Prop) (op sort:Int) (s:ByteArray):NdK w G ⟨none,0,0,false,none,0,0,none,0,0⟩ ⟨op,sort,[],s,0,[]⟩:=
 ⟨NumS.nil _ _,by rw[show Tm.limbs (Nd.num ⟨op,sort,[],s,0,[]⟩)=[] from Tm.limbs_zero];exact Lims.nil_ _ _,RunS.nil _ _,rfl,⟨Nat.le_refl _,Nat.zero_le _⟩,⟨by simp,by simp,by simp⟩,fun z hz=>absurd hz List.not_mem_nil,fun r hr=>absurd hr List.not_mem_nil,Gs.zero _ _,Gs.zero _ _,Gs.zero _ _⟩
theorem kconst9 (w:World) (b:Nat) (F:Nat→Prop) (l:List Nd) (h:Bk w b F l) (s:ByteArray) (sort:Int) (hln:l.length≤30000) (hT:Pow9 w):
  Calls Tryz.prog 78 #[.pointer (some ⟨b,0,none⟩),.string s,.int .i64 sort] w fun e w'=>BAns w b F (Tm.const l s sort) e w':=by
 by_cases hbad:sort<1∨3<sort∨16384<s.size
 ·have hc:Tm.const l s sort=(l,0,1):=by unfold Tm.const;rw[if_pos hbad]
  rw[hc]
  have HV:=Lib.hid (BAns.same (x:=0) (y:=1) h (Below.refl _ w))
  by_cases h1:sort<1
  ·clear h hT hc hbad
   go_enter Tryz.func78,Tryz.ntmps78
   go_wp2
   go_ret2
   exact HV.out
  by_cases h3:3<sort
  ·clear h hT hc hbad
   go_enter Tryz.func78,Tryz.ntmps78
   go_wp2
   go_ret2
   exact HV.out
  ·have hs:16384<s.size:=by omega
   have hs':(16384:Int)<(s.size:Int):=by omega
   have h1':1≤sort:=by omega
   have h3':sort≤3:=by omega
   clear h hT hc hbad h1 h3
   go_enter Tryz.func78,Tryz.ntmps78
   go_wp2
   go_ret2
   exact HV.out
 ·have hc:Tm.const l s sort=Tm.add l ⟨1,sort,[],s,0,[]⟩:=by unfold Tm.const;rw[if_neg hbad]
  rw[hc]
  have h1:¬sort<1:=by omega
  have h3:¬3<sort:=by omega
  have hs:¬16384<s.size:=by omega
  have hs':¬(16384:Int)<(s.size:Int):=by omega
  have HA:=Lib.hid (kadd9 w b F l ⟨none,0,0,false,none,0,0,none,0,0⟩ ⟨1,sort,[],s,0,[]⟩ (G:=fun _=>False) h (NdK.leaf w _ _ _ _) (fun _ e=>e.elim) (.inr (.inr ⟨by simp,by simp,rfl,rfl⟩)) (show(Lit.int .i64 1).wf=true by decide) (WalkArith.wf_i64 (n:=sort) (by omega)) (by simp only;omega) hln hT)
  clear h hT hc hbad
  go_enter Tryz.func78,Tryz.ntmps78
  go_wp2_with fail
  refine HA.out.mono ?_
  rintro e w1 ha
  have HV:=Lib.hid ha
  obtain⟨rfl,_⟩:=ha
  clear HA
  go_wp2
  go_ret2
  exact HV.out
theorem kbool9 (w:World) (b:Nat) (F:Nat→Prop) (l:List Nd) (h:Bk w b F l) (v:Bool) (hln:l.length≤30000) (hT:Pow9 w):
  Calls Tryz.prog 206 #[.pointer (some ⟨b,0,none⟩),.bool v] w fun e w'=>BAns w b F (Tm.bool l v) e w':=by
 cases v with
 |true=>
  rw[show Tm.bool l true=Tm.add l ⟨2,1,[],ByteArray.empty,0,[]⟩ from rfl]
  have HA:=Lib.hid (kadd9 w b F l ⟨none,0,0,false,none,0,0,none,0,0⟩ ⟨2,1,[],ByteArray.empty,0,[]⟩ (G:=fun _=>False) h (NdK.leaf w _ _ _ _) (fun _ e=>e.elim) (.inr (.inr ⟨by simp,by simp,rfl,rfl⟩)) (by decide) (by decide) (by simp) hln hT)
  clear h hT
  go_enter Tryz.func206,Tryz.ntmps206
  go_wp2_with fail
  refine HA.out.mono ?_
  rintro e w1 ha
  have HV:=Lib.hid ha
  obtain⟨rfl,_⟩:=ha
  clear HA
  go_wp2
  go_ret2
  exact HV.out
 |false=>
  rw[show Tm.bool l false=Tm.add l ⟨3,1,[],ByteArray.empty,0,[]⟩ from rfl]
  have HA:=Lib.hid (kadd9 w b F l ⟨none,0,0,false,none,0,0,none,0,0⟩ ⟨3,1,[],ByteArray.empty,0,[]⟩ (G:=fun _=>False) h (NdK.leaf w _ _ _ _) (fun _ e=>e.elim) (.inr (.inr ⟨by simp,by simp,rfl,rfl⟩)) (by decide) (by decide) (by simp) hln hT)
  clear h hT
  go_enter Tryz.func206,Tryz.ntmps206
  go_wp2_with fail
  refine HA.out.mono ?_
  rintro e w1 ha
  have HV:=Lib.hid ha
  obtain⟨rfl,_⟩:=ha
  clear HA
  go_wp2
  go_ret2
  exact HV.out
theorem knum9 (w:World) (b:Nat) (F:Nat→Prop) (l:List Nd) (h:Bk w b F l) (g:Bool) (A:Option Addr) (n c:Nat) (z:Int) (hz:WIn w g A n c z) (hn:n≤900) (hln:l.length≤30000) (hT:Pow9 w):
  Calls Tryz.prog 168 #[.pointer (some ⟨b,0,none⟩),.agg #[.bool g,.slice A n c]] w fun e w'=>BAns w b F (Tm.num l z) e w':=by
 obtain⟨W0,hW0⟩:∃ W0,w.alloc (.cells #[.bool g,.slice A n c] 47)=W0:=⟨_,rfl⟩
 have B0:Below w.heap.size w W0:=by rw[←hW0];exact(Below.refl _ w).alloc (Nat.le_refl _) _
 have L0:Lies W0 w.heap.size 47 #[.bool g,.slice A n c]:=by rw[←hW0];exact Lies.new w _ _
 have HS:=Lib.hid (sign_w g A n c z W0 (hz.below B0))
 have HB0:=Lib.hid B0
 have HL0:=Lib.hid L0
 have c0:W0.cell? ⟨w.heap.size,0,none⟩=some (.bool g):=by rw[L0.cell];rfl
 have c1:W0.cell? ⟨w.heap.size,1,none⟩=some (.slice A n c):=by rw[L0.cell];rfl
 obtain⟨sg,hsg⟩:∃ sg,Z.sgn z=sg:=⟨_,rfl⟩
 rw[hsg] at HS
 by_cases hneg:z<0
 ·have hs:Tm.num l z=(l,0,1):=by unfold Tm.num;rw[if_pos hneg]
  rw[hs]
  have d1:sg<0:=by rw[←hsg];exact sgn_neg9.2 hneg
  have HE:Hid (∀ w1,Below w.heap.size w w1→BAns w b F (l,0,1) (.returned (.tuple #[.int .i64 0,.int .i64 1])) w1):=fun w1 b1=>BAns.same h b1
  clear h hz B0 L0 hs hneg hsg hT
  go_enter Tryz.func168,Tryz.ntmps168
  go_wp2_with fail
  refine HS.out.mono ?_
  rintro e w1 ⟨rfl,b1⟩
  have HV:=Lib.hid (HE.out w1 (HB0.out.trans (b1.mono HB0.out.size)))
  clear HS HE b1
  go_wp2
  go_ret2
  exact HV.out
 ·have hs:Tm.num l z=Tm.add l ⟨4,2,[],ByteArray.empty,z.natAbs,[]⟩:=by unfold Tm.num;rw[if_neg hneg]
  rw[hs]
  have d1:¬sg<0:=by rw[←hsg];exact fun e=>hneg (sgn_neg9.1 e)
  have HNm:Hid (∀ w1,Below w.heap.size w w1→Calls Tryz.prog 200 #[.agg #[.bool g,.slice A n c]] w1 fun e w'=>(∃ A' n' c',e=.returned (.agg #[.bool false,.slice A' n' c'])∧n'≤900∧LimK w' (fun k=>w1.heap.size≤k) A' n' c' z.natAbs)∧Below w1.heap.size w1 w'):=fun w1 b1=>norm9 g A n c z w1 (hz.below b1) hneg hn
  have HA:Hid (∀ w1 w2 A' n' c',Below w.heap.size w w1→Below w1.heap.size w1 w2→n'≤900→LimK w2 (fun k=>w1.heap.size≤k) A' n' c' z.natAbs→Calls Tryz.prog 109 #[.pointer (some ⟨b,0,none⟩),.agg #[.int .i64 4,.int .i64 2,.slice none 0 0,.string ⟨#[]⟩,.bool false,.slice A' n' c',.slice none 0 0]] w2 fun e w'=>BAns w2 b F (Tm.add l ⟨4,2,[],ByteArray.empty,z.natAbs,[]⟩) e w'):=fun w1 w2 A' n' c' b1 b2 hn' hk=>
   kadd9 w2 b F l ⟨none,0,0,false,A',n',c',none,0,0⟩ ⟨4,2,[],ByteArray.empty,z.natAbs,[]⟩ (G:=fun k=>w1.heap.size≤k) (h.below (b1.trans (b2.mono b1.size)))
    ⟨NumS.nil _ _,hk.lims,RunS.nil _ _,rfl,hk.cap,⟨by simp,by simp only;omega,by simp⟩,fun z hz=>absurd hz List.not_mem_nil,fun r hr=>absurd hr List.not_mem_nil,Gs.zero _ _,hk.g,Gs.zero _ _⟩ (fun k hk e=>by have:=h.lt k e;have:=b1.size;omega)
    (.inl ⟨rfl,rfl,rfl⟩) (show(Lit.int .i64 4).wf=true by decide) (show(Lit.int .i64 2).wf=true by decide) (by simp) hln (hT.on (b1.trans (b2.mono b1.size)))
  clear h hz B0 L0 hs hneg hsg hT
  go_enter Tryz.func168,Tryz.ntmps168
  go_wp2_with fail
  refine HS.out.mono ?_
  rintro e w1 ⟨rfl,b1⟩
  have hB1:=HB0.out.trans (b1.mono HB0.out.size)
  have hL1:=(b1.block _ HL0.out.lt).trans HL0.out
  have k0:=Lies.cell (t:=47) (cs:=#[.bool g,.slice A n c]) hL1 0
  have k1:=Lies.cell (t:=47) (cs:=#[.bool g,.slice A n c]) hL1 1
  simp at k0 k1
  have HN1:=Lib.hid (HNm.out w1 hB1)
  have HB1:=Lib.hid hB1
  clear HS HNm b1 hB1 hL1 HB0 HL0 c0 c1
  go_wp2_with fail
  refine HN1.out.mono ?_
  rintro e w2 ⟨⟨A',n',c',rfl,hn',hk⟩,b2⟩
  have HA2:=Lib.hid (HA.out w1 w2 A' n' c' HB1.out b2 hn' hk)
  have HB2:=Lib.hid (HB1.out.trans (b2.mono HB1.out.size))
  clear HN1 HA b2 hk HB1 k0 k1
  go_wp2_with fail
  refine HA2.out.mono ?_
  rintro e w3 ha
  have HV:=Lib.hid (ha.up HB2.out)
  obtain⟨rfl,_⟩:=ha
  clear HA2 HB2
  go_wp2
  go_ret2
  exact HV.out
theorem kstr9 (w:World) (b:Nat) (F:Nat→Prop) (l:List Nd) (h:Bk w b F l) (C:Option Addr) (p f:Nat) (t:List (Int×Int)) {G:Nat→Prop} (ht:RunS w C p t) (hwt:∀ r∈t,(Lit.int .i64 r.1).wf=true∧(Lit.int .i64 r.2).wf=true) (hg:Gs G C p) (hG:∀ k,G k→¬F k) (hp:p≤65536) (hln:l.length≤30000) (hT:Pow9 w):
  Calls Tryz.prog 171 #[.pointer (some ⟨b,0,none⟩),.slice C p f] w fun e w'=>BAns w b F (Tm.str l t) e w':=by
 have HM:=Lib.hid (kmayr w C p f t ht (by omega))
 obtain⟨m,hm⟩:∃ m,Tx.mayB t=m:=⟨_,rfl⟩
 rw[hm] at HM
 cases m with
 |false=>
  have hs:Tm.str l t=(l,0,1):=by unfold Tm.str;rw[if_neg (by rw[hm];decide)]
  rw[hs]
  have HE:Hid (∀ w1,Below w.heap.size w w1→BAns w b F (l,0,1) (.returned (.tuple #[.int .i64 0,.int .i64 1])) w1):=fun w1 b1=>BAns.same h b1
  clear h ht hwt hg hG hT hm hs
  go_enter Tryz.func171,Tryz.ntmps171
  go_wp2_with fail
  refine HM.out.mono ?_
  rintro e w1 ⟨rfl,b1⟩
  have HV:=Lib.hid (HE.out w1 b1)
  clear HM HE b1
  go_wp2
  go_ret2
  exact HV.out
 |true=>
  have hs:Tm.str l t=Tm.add l ⟨5,3,[],ByteArray.empty,0,t⟩:=by unfold Tm.str;rw[if_pos hm]
  rw[hs]
  have HA:Hid (∀ w1,Below w.heap.size w w1→Calls Tryz.prog 109 #[.pointer (some ⟨b,0,none⟩),.agg #[.int .i64 5,.int .i64 3,.slice none 0 0,.string ⟨#[]⟩,.bool false,.slice none 0 0,.slice C p f]] w1 fun e w'=>BAns w1 b F (Tm.add l ⟨5,3,[],ByteArray.empty,0,t⟩) e w'):=fun w1 b1=>by
   refine kadd9 w1 b F l ⟨none,0,0,false,none,0,0,C,p,f⟩ ⟨5,3,[],ByteArray.empty,0,t⟩ (G:=G) (h.below b1)
    ⟨NumS.nil _ _,?_,ht.below b1,rfl,⟨Nat.le_refl _,Nat.zero_le _⟩,⟨by simp,by simp,hp⟩,fun z hz=>absurd hz List.not_mem_nil,hwt,Gs.zero _ _,Gs.zero _ _,hg⟩ hG (.inr (.inl ⟨rfl,rfl,rfl⟩)) (show(Lit.int .i64 5).wf=true by decide) (show(Lit.int .i64 3).wf=true by decide) (by simp) hln (hT.on b1)
   show Lims w1 none 0 (Tm.limbs 0)
   rw[Tm.limbs_zero]
   exact Lims.nil_ _ _
  clear h ht hwt hg hG hT hm hs
  go_enter Tryz.func171,Tryz.ntmps171
  go_wp2_with fail
  refine HM.out.mono ?_
  rintro e w1 ⟨rfl,b1⟩
  have HA1:=Lib.hid (HA.out w1 b1)
  have HB1:=Lib.hid b1
  clear HM HA b1
  go_wp2_with fail
  refine HA1.out.mono ?_
  rintro e w2 ha
  have HV:=Lib.hid (ha.up HB1.out)
  obtain⟨rfl,_⟩:=ha
  clear HA1 HB1
  go_wp2
  go_ret2
  exact HV.out
end Go.Proofs.YtcgaeknikfaghaaGreatDoor
namespace Go.Proofs.YtcgaeknikfaghaaGreatDoor
open Go.RowKit
end Go.Proofs.YtcgaeknikfaghaaGreatDoor
namespace Go.Proofs.YtcgaeknikfaghaaGreatDoor
open Go.RowKit
end Go.Proofs.YtcgaeknikfaghaaGreatDoor
