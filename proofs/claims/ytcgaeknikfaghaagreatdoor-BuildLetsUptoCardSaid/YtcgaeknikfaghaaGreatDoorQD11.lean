/- What the proofs of this claim use, text by text. -/
import Derived.Test.YtcgaeknikfaghaaGreatDoorQD10
import Derived.Test.YtcgaeknikfaghaaGreatDoorQD06
import Derived.Lib.AppendIntMem
import Derived.Lib.ItoaLen
import Derived.Lib.Slices
import Derived.Laws.IdiomStrings
import Derived.WalkKit
import Derived.BigCall
import Derived.Deep.RegionHeld3
import Derived.Laws.AppendOwnNone
set_option linter.unusedSimpArgs false
set_option linter.unusedVariables false
set_option maxRecDepth 100000
set_option maxHeartbeats 25600000
namespace Go.Proofs.YtcgaeknikfaghaaGreatDoor
open Go.RowKit
abbrev Pow9 (w:World):Prop:=Lib.TabBelow Tryz.prog w.heap.size w "internal/strconv.uint64pow10" .u64 Lib.pow10Tab
theorem Pow9.on {w w':World} (h:Pow9 w) (hb:Below w.heap.size w w'):Pow9 w':=fun w'' h'=>h w'' (hb.trans (h'.mono hb.size))
theorem Pow9.base {w w':World} (h:Pow9 w) {B:Nat} (hB:w.heap.size≤B) (hb:Below w.heap.size w w'):Lib.TabBelow Tryz.prog B w' "internal/strconv.uint64pow10" .u64 Lib.pow10Tab:=fun w'' h'=>h w'' (hb.trans (h'.mono hB))
theorem infoB8:(Tryz.prog.info? 5).map (fun i=>(i.zero,i.size,i.bytes))=some (some (.int .u8 0),1,1):=by kernel_rfl
theorem bc_app (a b:List UInt8):Lib.byteCells (a++b)=Lib.byteCells a++Lib.byteCells b:=by simp[Lib.byteCells]
theorem spellK (w:World) (B N:Nat) (A:Option Addr) (c:Nat) (xs:List UInt8) (z:Int) (hz:(Lit.int .i64 z).wf=true) (hN:N=xs.length) (hown:w.ownsRow B 5 1 (.slice A N c) N (Lib.byteCells xs)) (hB:B≤w.heap.size) (hl:N≤10000000)
  (hT:Lib.TabBelow Tryz.prog B w "internal/strconv.uint64pow10" .u64 Lib.pow10Tab):
  Calls Tryz.prog 174 #[.slice A N c,.int .i64 z] w fun e w'=>(∃ A' N' c',e=.returned (.slice A' N' c')∧N'=(xs++Lib.itoa z++[44]).length∧w'.ownsRow B 5 1 (.slice A' N' c') N' (Lib.byteCells (xs++Lib.itoa z++[44])))∧Below B w w'∧Lib.OthersKept 5 none w w':=by
 obtain⟨i0,hi,hz0,hz1,hz2⟩:=info_parts infoB8
 obtain⟨h0,h1⟩:=bounds_i64 hz
 have hlen:=Lib.itoa_length_le z h0 h1
 have HA:=Lib.hid (Tryz.strconv_AppendInt_10 B N z h0 h1 (.slice A N c) _ w hown hB (by omega) hT)
 obtain⟨T,hT'⟩:∃ T,Lib.itoa z=T:=⟨_,rfl⟩
 rw[hT'] at HA hlen ⊢
 have HN:=Lib.hid hN
 clear hown hT hT' hN
 go_enter Tryz.func174,Tryz.ntmps174
 go_wp2_with fail
 refine HA.out.mono ?_
 rintro e w1 ⟨v1,rfl,hown1,hb1,hok1⟩
 obtain⟨A1,c1,rfl⟩:=own_form hown1
 obtain⟨N1,hN1⟩:∃ N1,N+T.length=N1:=⟨_,rfl⟩
 have hN1l:N1≤10000100:=by omega
 have HN1:Hid (N1+1=(xs++T++[44]).length):=by
  show N1+1=(xs++T++[44]).length
  have:=HN.out
  simp
  omega
 rw[hN1,←bc_app] at hown1
 rw[hN1]
 have HO:=Lib.hid hown1
 have HB1:=Lib.hid hb1
 have HK1:=Lib.hid hok1
 have hs1:B≤w1.heap.size:=Nat.le_trans hB hb1.size
 have hm1:N1+1≤maxLen:=by unfold maxLen;omega
 clear HA hown1 hb1 hok1 HN hN1 hl hlen h0 h1 hz
 go_wp2_with (at_builtin;refine wpList_append_own _ rfl (.tmp 7) (.tmp 8) 109 rfl B 5 i0 (.int .u8 0) 1 1 Tryz.underlying109 hi hz0 hz1 hz2 rfl (by decide) (.slice A1 N1 c1) N1 (Lib.byteCells (xs++T)) (by simp[Act.eval]) (HO.out.alloc _) ⟨w1.heap.size,0,none⟩ 1 1 [Value.int .u8 44] (by simp[Act.eval]) rfl (cell_one_new _ _ _) (by intro u' hu';simp at hu';subst hu';rfl) hm1 (by omega) (by simp;omega) ?_;intro v2 w2 hown2 hgrow _;refine Hid.out ?_)
 refine Lib.hid ?_
 obtain⟨A2,c2,rfl⟩:=own_form hown2
 have e44:Lib.byteCells (xs++T)++[Value.int .u8 44]=Lib.byteCells (xs++T++[44]):=by rw[bc_app (xs++T)];rfl
 rw[e44] at hown2
 have hr:=HO.out.lt
 have HE:Hid (Below B w w2∧Lib.OthersKept 5 none w w2):=by
  refine⟨(HB1.out.alloc hs1 _).grown hgrow (by simp;omega) (fun k hk=>(hr k hk).1),?_⟩
  refine((HK1.out.alloc _).grown hgrow fun g hg=>?_)
  obtain⟨cs,hcs⟩:=own_heap HO.out hg
  exact⟨cs,_,(Below.heap_alloc _ _ _ hcs.lt).trans hcs⟩
 have HO2:=Lib.hid hown2
 clear hown2 hgrow hr HO HB1 HK1
 go_wp2
 go_ret
 exact⟨⟨_,_,_,rfl,HN1.out,HO2.out⟩,HE.out⟩
theorem convK {w:World} {B:Nat} {A:Option Addr} {n c:Nat} {l:List UInt8} (hn:n=l.length) (h:w.ownsRow B 5 1 (.slice A n c) n (Lib.byteCells l)):
  (convert 109 9 (.slice A n c)).run Tryz.prog w=.ok (.string ⟨l.toArray⟩) w:=by
 subst hn
 rcases h.2 with⟨e,h0⟩|⟨g,cap,cur,e,_⟩
 ·injection e with e1 e2 e3
  subst e1
  subst e3
  obtain rfl:l=[]:=List.eq_nil_of_length_eq_zero h0
  rw[run_convert_bytes_string w 109 9 5 _ _ _ Tryz.underlying109 Tryz.underlying5 Tryz.underlying9]
  rfl
 ·injection e with e1 e2 e3
  subst e1
  exact run_convert_bytes_back w 109 9 5 ⟨g,0,none⟩ c l Tryz.underlying109 Tryz.underlying5 Tryz.underlying9 fun j hj=>by
   have:=h.cells (g:=g) rfl j (.int .u8 (l[j].toNat:Int)) (by unfold Lib.byteCells;rw[List.getElem?_map,List.getElem?_eq_getElem hj];rfl)
   exact this
def SpK (W0:World) (A:Option Addr) (N c:Nat) (xs:List UInt8) (wr:World):Prop:=N=xs.length∧wr.ownsRow W0.heap.size 5 1 (.slice A N c) N (Lib.byteCells xs)∧Below W0.heap.size W0 wr
theorem SpK.zero (W0:World):SpK W0 none 0 0 [] W0:=⟨rfl,World.ownsRow_nil _ _ _ _,Below.refl _ _⟩
theorem SpK.alloc {W0 wr:World} {A:Option Addr} {N c:Nat} {xs:List UInt8} (h:SpK W0 A N c xs wr) (o:Obj):SpK W0 A N c xs (wr.alloc o):=⟨h.1,h.2.1.alloc o,h.2.2.alloc h.2.2.size o⟩
theorem SpK.drew {W0 wr:World} {A:Option Addr} {N c:Nat} {xs:List UInt8} (h:SpK W0 A N c xs wr):SpK W0 A N c xs wr.drew:=⟨h.1,h.2.1,h.2.2.trans ⟨rfl,rfl,rfl,Nat.le_refl _,fun _ _=>rfl⟩⟩
theorem spellSp {W0 wr:World} {A:Option Addr} {N c:Nat} {xs:List UInt8} (h:SpK W0 A N c xs wr) (z:Int) (hz:(Lit.int .i64 z).wf=true) (hl:N≤10000000) (hT:Pow9 W0):
  Calls Tryz.prog 174 #[.slice A N c,.int .i64 z] wr fun e w'=>(∃ A' N' c',e=.returned (.slice A' N' c')∧SpK W0 A' N' c' (xs++Lib.itoa z++[44]) w')∧Lib.OthersKept 5 none wr w':=
 (spellK wr W0.heap.size N A c xs z hz h.1 h.2.1 h.2.2.size hl (hT.base (Nat.le_refl _) h.2.2)).mono fun _ _ ⟨⟨A',N',c',h1,h2,h3⟩,h4,h5⟩=>⟨⟨A',N',c',h1,h2,h3,h.2.2.trans h4⟩,h5⟩
theorem spell_step {l:List Int} {i:Nat} {z:Int} (pre:List Int) (h:l[i]?=some z):Tm.spell (pre++l.take (i+1))=Tm.spell (pre++l.take i)++Lib.itoa z++[44]:=by
 rw[take_one h,←List.append_assoc,Tm.spell_one]
theorem spell_bound {l pre:List Int} {i:Nat} (h:∀ z∈pre++l,(Lit.int .i64 z).wf=true) (hp:(pre++l).length≤140000):(Tm.spell (pre++l.take i)).length≤5600000:=by
 have h1:=Tm.spell_len (l:=pre++l.take i) fun z hz=>h z (by
  rcases List.mem_append.1 hz with hz|hz
  ·exact List.mem_append_left _ hz
  ·exact List.mem_append_right _ (List.mem_of_mem_take hz))
 have h2:(pre++l.take i).length≤(pre++l).length:=by simp;omega
 omega
abbrev RB9 (p:Nat) (x1 x2:Int) (W:World):Prop:=W.cell? ⟨p,0,none⟩=some (.int .i64 x1)∧W.cell? ⟨p,1,none⟩=some (.int .i64 x2)∧Lies W p 144 #[.int .i64 x1,.int .i64 x2]
theorem RB9.of {p:Nat} {x1 x2:Int} {W:World} (h:Lies W p 144 #[.int .i64 x1,.int .i64 x2]):RB9 p x1 x2 W:=⟨by rw[h.cell];rfl,by rw[h.cell];rfl,h⟩
theorem RB9.keep {p:Nat} {x1 x2:Int} {W W':World} (hk:Lib.OthersKept 5 none W W') (h:RB9 p x1 x2 W):RB9 p x1 x2 W':=RB9.of (hk _ _ h.2.2 (by simp) (fun c fz e=>by cases e))
theorem keyOfK (w:World) (P:NdP) (x:Nd) (ha:NumS w P.A P.n x.a) (hb:Lims w P.B P.m (Tm.limbs x.num)) (hs:RunS w P.C P.p x.str) (hwa:∀ z∈x.a,(Lit.int .i64 z).wf=true) (hws:∀ r∈x.str,(Lit.int .i64 r.1).wf=true∧(Lit.int .i64 r.2).wf=true)
  (hn:P.n≤1000) (hm:P.m≤1000) (hp:P.p≤65536) (hT:Pow9 w):
  Calls Tryz.prog 140 #[.agg (P.cells x)] w fun e w'=>e=.returned (Tm.key x).v∧Below w.heap.size w w':=by
 obtain⟨A,n,c,g,B,m,d,C,p,f⟩:=P
 simp only at ha hb hs hn hm hp
 have hal:=ha.len
 have hbl:=hb.1
 have hsl:=hs.len
 obtain⟨W0,hW0⟩:∃ W0,(w.alloc (.cells (NdP.cells ⟨A,n,c,g,B,m,d,C,p,f⟩ x) 50)).alloc (.cells #[.int .i64 0,.int .i64 0,.string ⟨#[]⟩,.string ⟨#[]⟩] 203)=W0:=⟨_,rfl⟩
 have B0:Below w.heap.size w W0:=by rw[←hW0];exact((Below.refl _ w).alloc (Nat.le_refl _) _).alloc (by simp) _
 have L0:Lies W0 w.heap.size 50 (NdP.cells ⟨A,n,c,g,B,m,d,C,p,f⟩ x):=by rw[←hW0];exact(Below.heap_alloc _ _ _ (by simp)).trans (Lies.new w _ _)
 have L1:Lies W0 (w.heap.size+1) 203 #[.int .i64 0,.int .i64 0,.string ⟨#[]⟩,.string ⟨#[]⟩]:=by
  have:=Lies.new (w.alloc (.cells (NdP.cells ⟨A,n,c,g,B,m,d,C,p,f⟩ x) 50)) 203 #[.int .i64 0,.int .i64 0,.string ⟨#[]⟩,.string ⟨#[]⟩]
  rw[World.size_alloc] at this
  rw[←hW0]
  exact this
 have HT:Hid (Pow9 W0):=hT.on B0
 have HA:=Lib.hid (ha.below B0)
 have HB:=Lib.hid (hb.below B0)
 have HS:=Lib.hid (hs.below B0)
 obtain⟨lb,hlb⟩:∃ lb,Tm.limbs x.num=lb:=⟨_,rfl⟩
 obtain⟨li,hli⟩:∃ li:List Int,lb.map (fun(n:Nat)=>(n:Int))=li:=⟨_,rfl⟩
 have hlil:li.length=m:=by rw[←hli,List.length_map,←hlb];exact hbl
 have hwl:∀ z∈li,(Lit.int .i64 z).wf=true:=fun z hz=>by
  rw[←hli] at hz
  obtain⟨q,hq,rfl⟩:=List.mem_map.1 hz
  rw[←hlb] at hq
  have:=Tm.limbs_fit _ q hq
  rw[M.BB_eq] at this
  exact WalkArith.wf_i64 (by omega)
 have hwf:∀ z∈Tm.flat x.str,(Lit.int .i64 z).wf=true:=fun z hz=>by
  revert hws hz
  generalize x.str=t
  induction t with
  |nil=>intro _ hz;cases hz
  |cons r t ih=>
   intro hws hz
   rw[Tm.flat] at hz
   rcases List.mem_cons.1 hz with rfl|hz
   ·exact(hws r (by simp)).1
   rcases List.mem_cons.1 hz with rfl|hz
   ·exact(hws r (by simp)).2
   ·exact ih (fun q hq=>hws q (List.mem_cons_of_mem _ hq)) hz
 have HB1:Hid (∀ i,(Tm.spell ([]++x.a.take i)).length≤5600000):=fun i=>spell_bound (by simpa using hwa) (by simp;omega)
 have HB2:Hid (∀ i,(Tm.spell (x.a++li.take i)).length≤5600000):=fun i=>spell_bound (fun z hz=>(List.mem_append.1 hz).elim (hwa z) (hwl z)) (by simp;omega)
 have HB3:Hid (∀ i,(Tm.spell (x.a++li++(Tm.flat x.str).take i)).length≤5600000):=fun i=>spell_bound (fun z hz=>(List.mem_append.1 hz).elim (fun hz=>(List.mem_append.1 hz).elim (hwa z) (hwl z)) (hwf z)) (by simp;rw[Tm.flat_len];omega)
 have HWa:=Lib.hid hwa
 have HWs:=Lib.hid hws
 have HWl:=Lib.hid hwl
 rw[hlb] at HB
 have HLi:=Lib.hid hli
 have HLil:=Lib.hid hlil
 have HL0:=Lib.hid L0
 have HL1:=Lib.hid L1
 have HB0:=Lib.hid B0
 have c0:W0.cell? ⟨w.heap.size,0,none⟩=some (.int .i64 x.op):=by rw[L0.cell];rfl
 have c1:W0.cell? ⟨w.heap.size,1,none⟩=some (.int .i64 x.sort):=by rw[L0.cell];rfl
 have c2:W0.cell? ⟨w.heap.size,2,none⟩=some (.slice A n c):=by rw[L0.cell];rfl
 obtain⟨al,hAl⟩:∃ al,x.a=al:=⟨_,rfl⟩
 obtain⟨tl,hTl⟩:∃ tl,x.str=tl:=⟨_,rfl⟩
 rw[hAl] at HA HB1 HB2 HB3 HWa hal
 rw[hTl] at HS HB3 HWs hsl
 have HKey:Hid (Tm.lst x=al++li++Tm.flat tl):=by
  show Tm.lst x=al++li++Tm.flat tl
  unfold Tm.lst
  rw[hlb,hli,hAl,hTl]
 have HAl:=Lib.hid hAl
 have HTl:=Lib.hid hTl
 have HNs:Hid (al.length=n∧tl.length=p):=⟨hal,hsl⟩
 clear ha hb hs hwa hws hwl hwf hal hbl hsl hli hlil hlb hT B0 L0 L1 hTl
 obtain⟨S9,HS9⟩:∃ S9:ByteArray,Hid (S9=⟨(Tm.spell (al++li++Tm.flat tl)).toArray⟩):=⟨_,rfl⟩
 have hkv:(Tm.key x).v=.agg #[.int .i64 x.op,.int .i64 x.sort,.string x.name,.string S9]:=by
  rw[HS9.out,←HKey.out]
  rfl
 rw[hkv]
 clear hkv HKey hAl
 go_enter Tryz.func140,Tryz.ntmps140
 go_wp2_with fail
 go_loopw [3,13] (fun lv iv wr=>∃ (i k:Nat) (D:Option Addr) (e:Nat),i≤n∧lv=.slice D k e∧iv=.int .i64 (i:Nat)∧Hid (SpK W0 D k e (Tm.spell ([]++al.take i)) wr)) (fun _ iv _=>n-(intOf iv).toNat)
 case atStart=>exact⟨0,0,none,0,Nat.zero_le _,rfl,rfl,SpK.zero W0⟩
 case round=>
  obtain⟨i,k,D,e,hi,rfl,rfl,HI⟩:=hrel
  by_cases hlt:i<n
  ·have hlt':(i:Int)<(n:Int):=by omega
   have hi0:(0:Int)≤(i:Int):=by omega
   obtain⟨bA,oA,z,rfl,hz,hzm,_,hc⟩:=HA.out.get hlt
   have cz:=(hc wr HI.out.2.2).2
   have HSp:=Lib.hid (spellSp HI.out z (HWa.out z hzm) (by have:=HI.out.1;have:=HB1.out i;omega) HT.out)
   have HSt:=Lib.hid (spell_step [] hz)
   have hiw:IntKind.i64.wrap ((i:Int)+1)=(i:Int)+1:=IntWalk.i64_in _ (by omega)
   clear HS9 hz hzm hc HI HA HB HS HT HB1 HB2 HB3 HWa HWs HWl HLi HLil HL0 HL1 HB0 HAl HTl HNs c0 c1 c2
   go_wp2_with fail
   refine HSp.out.mono ?_
   rintro e w3 ⟨⟨A3,k3,f3,rfl,hS⟩,_⟩
   have HV:Hid (SpK W0 A3 k3 f3 (Tm.spell ([]++al.take (i+1))) w3):=by rw[HSt.out];exact hS
   clear HSp HSt hS cz
   go_wp2
   go_roundw
   case rel=>exact⟨i+1,k3,A3,f3,by omega,by go_num,by go_num,HV.out⟩
   case measure=>simp[intOf];omega
  ·have him:n=i:=by omega
   have hlt2:¬(i:Int)<(n:Int):=by omega
   have hI:=HI.out
   rw[←him,←HNs.out.1,List.take_length,List.nil_append] at hI
   have HI1:Hid (SpK W0 D k e (Tm.spell (al++li.take 0)) wr):=by rw[List.take_zero,List.append_nil];exact hI
   have hL:=(hI.2.2.block _ HL0.out.lt).trans HL0.out
   have c5:=Lies.cell (t:=50) (cs:=NdP.cells ⟨A,n,c,g,B,m,d,C,p,f⟩ x) hL 5
   simp at c5
   clear HI hI hL HA HB1 HWa c0 c1 c2 hlt him hi
   go_wp2
   go_loopw [3,25] (fun lv iv wr=>∃ (j k:Nat) (D:Option Addr) (e:Nat),j≤m∧lv=.slice D k e∧iv=.int .i64 (j:Nat)∧Hid (SpK W0 D k e (Tm.spell (al++li.take j)) wr)) (fun _ iv _=>m-(intOf iv).toNat)
   case atStart=>exact⟨0,k,D,e,Nat.zero_le _,rfl,rfl,HI1.out⟩
   case round=>
    obtain⟨j,k2,D2,e2,hj,rfl,rfl,HI⟩:=hrel
    by_cases hlt3:j<m
    ·have hlt':(j:Int)<(m:Int):=by omega
     have hj0:(0:Int)≤(j:Int):=by omega
     obtain⟨bB,oB,rfl,hbB,hc⟩:=HB.out.at_ (by omega)
     obtain⟨q,hq,hq2,hcq⟩:=hc j hlt3
     have cq:=(HI.out.2.2.cell (p:=⟨bB,oB+j,none⟩) hbB).trans hcq
     have hz:li[j]?=some (q:Int):=by
      have hjl:j<lb.length:=by rw[HB.out.1];exact hlt3
      rw[←HLi.out,List.getElem?_map,List.getElem?_eq_getElem hjl,hq.out,List.getD_eq_getElem?_getD,List.getElem?_eq_getElem hjl]
      rfl
     have HSp:=Lib.hid (spellSp HI.out (q:Int) (HWl.out _ (List.mem_of_getElem? hz)) (by have:=HI.out.1;have:=HB2.out j;omega) HT.out)
     have HSt:=Lib.hid (spell_step al hz)
     have hjw:IntKind.i64.wrap ((j:Int)+1)=(j:Int)+1:=IntWalk.i64_in _ (by omega)
     have hqw:IntKind.i64.wrap (q:Int)=(q:Int):=IntWalk.i64_in _ (by omega)
     clear HS9 hz hc hcq hq HI HI1 HB HS HT HB2 HB3 HWs HWl HLi HLil HL0 HL1 HB0 HAl HTl HNs c5
     go_wp2_with fail
     refine HSp.out.mono ?_
     rintro e w3 ⟨⟨A3,k3,f3,rfl,hS⟩,_⟩
     have HV:Hid (SpK W0 A3 k3 f3 (Tm.spell (al++li.take (j+1))) w3):=by rw[HSt.out];exact hS
     clear HSp HSt hS cq
     go_wp2
     go_roundw
     case rel=>exact⟨j+1,k3,A3,f3,by omega,by go_num,by go_num,HV.out⟩
     case measure=>simp[intOf];omega
    ·have hjm:m=j:=by omega
     have hlt4:¬(j:Int)<(m:Int):=by omega
     have hI:=HI.out
     rw[←hjm,←HLil.out,List.take_length] at hI
     have HI3:Hid (SpK W0 D2 k2 e2 (Tm.spell (al++li++Tm.flat (tl.take 0))) wr):=by rw[List.take_zero,Tm.flat,List.append_nil];exact hI
     have hL:=(hI.2.2.block _ HL0.out.lt).trans HL0.out
     have c6:=Lies.cell (t:=50) (cs:=NdP.cells ⟨A,n,c,g,B,m,d,C,p,f⟩ x) hL 6
     simp at c6
     clear HI HI1 hI hL HB HB2 HWl hlt3 hjm hj c5
     go_wp2
     go_loopw [3,37] (fun lv iv wr=>∃ (j k:Nat) (D:Option Addr) (e:Nat),j≤p∧lv=.slice D k e∧iv=.int .i64 (j:Nat)∧Hid (SpK W0 D k e (Tm.spell (al++li++Tm.flat (tl.take j))) wr)) (fun _ iv _=>p-(intOf iv).toNat)
     case atStart=>exact⟨0,k2,D2,e2,Nat.zero_le _,rfl,rfl,HI3.out⟩
     case round=>
      obtain⟨j,k3,D3,e3,hj,rfl,rfl,HI⟩:=hrel
      by_cases hlt5:j<p
      ·have hlt':(j:Int)<(p:Int):=by omega
       have hj0:(0:Int)≤(j:Int):=by omega
       obtain⟨bC,oC,r,rfl,hr,hrm,_,hc⟩:=HS.out.get hlt5
       obtain⟨_,cr1,cr2⟩:=hc wr HI.out.2.2
       obtain⟨r1,r2⟩:=r
       have hwr:=HWs.out _ hrm
       simp only at cr1 cr2 hwr
       obtain⟨po,hpo⟩:∃ po,wr.heap.size=po:=⟨_,rfl⟩
       obtain⟨W1,hW1⟩:∃ W1,wr.alloc (.cells #[.int .i64 r1,.int .i64 r2] 144)=W1:=⟨_,rfl⟩
       have HS1:Hid (SpK W0 D3 k3 e3 (Tm.spell (al++li++Tm.flat (tl.take j))) W1.drew):=by rw[←hW1];exact(HI.out.alloc _).drew
       have HRB:Hid (RB9 po r1 r2 W1.drew):=by rw[←hW1,←hpo];exact RB9.of (Lies.new wr _ _)
       have hbd:=HB3.out (2*j)
       have htk:(Tm.flat tl).take (2*j)=Tm.flat (tl.take j):=by
        have hf:∀ (t:List (Int×Int)) (j:Nat),(Tm.flat t).take (2*j)=Tm.flat (t.take j):=fun t=>by
         induction t with
         |nil=>intro j;simp[Tm.flat]
         |cons q t ih=>
          intro j
          cases j with
          |zero=>simp[Tm.flat]
          |succ j=>rw[show 2*(j+1)=2*j+1+1 by omega];simp[Tm.flat,ih j]
        exact hf tl j
       rw[htk] at hbd
       have HSp1:=Lib.hid (spellSp HS1.out r1 hwr.1 (by have:=HS1.out.1;omega) HT.out)
       have HSp2:Hid (∀ W A4 k4 f4,SpK W0 A4 k4 f4 (Tm.spell (al++li++Tm.flat (tl.take j))++Lib.itoa r1++[44]) W→Calls Tryz.prog 174 #[.slice A4 k4 f4,.int .i64 r2] W fun e w'=>(∃ A' N' c',e=.returned (.slice A' N' c')∧SpK W0 A' N' c' (Tm.spell (al++li++Tm.flat (tl.take j))++Lib.itoa r1++[44]++Lib.itoa r2++[44]) w')∧Lib.OthersKept 5 none W w'):=fun W A4 k4 f4 q=>
        spellSp q r2 hwr.2 (by
         have h1:=q.1
         have h2:=Lib.itoa_length_le r1 (bounds_i64 hwr.1).1 (bounds_i64 hwr.1).2
         rw[List.length_append,List.length_append,List.length_singleton] at h1
         omega) HT.out
       have HSt:Hid (Tm.spell (al++li++Tm.flat (tl.take (j+1)))=Tm.spell (al++li++Tm.flat (tl.take j))++Lib.itoa r1++[44]++Lib.itoa r2++[44]):=by
        show Tm.spell (al++li++Tm.flat (tl.take (j+1)))=_
        rw[take_one hr,Tm.flat_app,←List.append_assoc]
        show Tm.spell (al++li++Tm.flat (tl.take j)++([r1]++[r2]))=_
        rw[←List.append_assoc,Tm.spell_one,Tm.spell_one]
       have hjw:IntKind.i64.wrap ((j:Int)+1)=(j:Int)+1:=IntWalk.i64_in _ (by omega)
       clear HS9 hr hrm hc hwr hbd htk HI HI3 HS HS1 HT HB3 HWs HLi HLil HL0 HL1 HB0 HAl HTl HNs c6
       go_wp2_with fail
       go_region_held3 (fun W=>W.cell? ⟨po,0,none⟩=some (.int .i64 r1)∧W.cell? ⟨po,1,none⟩=some (.int .i64 r2)∧Lies W po 144 #[.int .i64 r1,.int .i64 r2])
        (first|exact HRB.out|exact RB9.keep (by assumption) (by assumption))
        (first|(go_at_call 174;first|(with_reducible refine HSp1.out.mono ?_;rintro e w4 ⟨⟨A4,k4,f4,rfl,s4⟩,o4⟩)|(with_reducible refine(HSp2.out _ _ _ _ (by assumption)).mono ?_;rintro e w5 ⟨⟨A5,k5,f5,rfl,s5⟩,o5⟩)))
       have HV:Hid (SpK W0 A5 k5 f5 (Tm.spell (al++li++Tm.flat (tl.take (j+1)))) w5):=by rw[HSt.out];exact s5
       clear HSp1 HSp2 HSt HRB
       go_wp2
       go_roundw
       case rel=>exact⟨j+1,k5,A5,f5,by omega,by go_num,by go_num,HV.out⟩
       case measure=>simp[intOf];omega
      ·have hjp:p=j:=by omega
       have hlt6:¬(j:Int)<(p:Int):=by omega
       have hI:=HI.out
       rw[←hjp,←HNs.out.2,List.take_length] at hI
       have hL:=(hI.2.2.block _ HL0.out.lt).trans HL0.out
       have hL1:=(hI.2.2.block _ HL1.out.lt).trans HL1.out
       have c0:=Lies.cell (t:=50) (cs:=NdP.cells ⟨A,n,c,g,B,m,d,C,p,f⟩ x) hL 0
       have c1:=Lies.cell (t:=50) (cs:=NdP.cells ⟨A,n,c,g,B,m,d,C,p,f⟩ x) hL 1
       have c3:=Lies.cell (t:=50) (cs:=NdP.cells ⟨A,n,c,g,B,m,d,C,p,f⟩ x) hL 3
       simp at c0 c1 c3
       have hcv:=convK hI.1 hI.2.1
       have HB9:Hid (Below w.heap.size w wr∧w.heap.size+1<wr.heap.size∧Lies wr (w.heap.size+1) 203 #[.int .i64 0,.int .i64 0,.string ⟨#[]⟩,.string ⟨#[]⟩]):=⟨HB0.out.trans (hI.2.2.mono HB0.out.size),Lies.lt (t:=203) hL1,hL1⟩
       obtain⟨W4,hW4⟩:∃ W4,(((wr.setCell ⟨w.heap.size+1,0,none⟩ (.int .i64 x.op)).setCell ⟨w.heap.size+1,1,none⟩ (.int .i64 x.sort)).setCell ⟨w.heap.size+1,2,none⟩ (.string x.name)).setCell ⟨w.heap.size+1,3,none⟩ (.string S9)=W4:=⟨_,rfl⟩
       have hL4:Lies W4 (w.heap.size+1) 203 #[.int .i64 x.op,.int .i64 x.sort,.string x.name,.string S9]:=by
        rw[←hW4]
        exact(((Lies.put hL1 0 (.int .i64 x.op)).put 1 (.int .i64 x.sort)).put 2 (.string x.name)).put 3 (.string S9)
       have hB4:Below w.heap.size w W4:=by
        have t4:Turn (fun i=>w.heap.size≤i) w W4:=by
         rw[←hW4]
         exact((((Turn.of_below HB9.out.1).put (p:=⟨w.heap.size+1,0,none⟩) (.inl (Nat.le_succ _)) _).put (p:=⟨w.heap.size+1,1,none⟩) (.inl (Nat.le_succ _)) _).put (p:=⟨w.heap.size+1,2,none⟩) (.inl (Nat.le_succ _)) _).put (p:=⟨w.heap.size+1,3,none⟩) (.inl (Nat.le_succ _)) _
        exact t4.below (Nat.le_refl _) (fun _ h=>h)
       have d0:=Lies.cell (t:=203) (cs:=#[.int .i64 0,.int .i64 0,.string ⟨#[]⟩,.string ⟨#[]⟩]) hL1
       have e0:=Lies.free (t:=203) (cs:=#[.int .i64 0,.int .i64 0,.string ⟨#[]⟩,.string ⟨#[]⟩]) hL1
       have d0_:=d0 0
       have d1_:=d0 1
       have d2_:=d0 2
       have d3_:=d0 3
       have e0_:=e0 0
       have e1_:=e0 1
       have e2_:=e0 2
       have e3_:=e0 3
       simp at d0_ d1_ d2_ d3_
       have k0:W4.cell? ⟨w.heap.size+1,0,none⟩=some (.int .i64 x.op):=by rw[hL4.cell];rfl
       have k1:W4.cell? ⟨w.heap.size+1,1,none⟩=some (.int .i64 x.sort):=by rw[hL4.cell];rfl
       have k2':W4.cell? ⟨w.heap.size+1,2,none⟩=some (.string x.name):=by rw[hL4.cell];rfl
       have k3':W4.cell? ⟨w.heap.size+1,3,none⟩=some (.string S9):=by rw[hL4.cell];rfl
       have HB4:=Lib.hid hB4
       clear hL4 hB4 HB9
       clear HI HI3 hI hL hL1 HS HB3 HWs hlt5 hjp hj c6 HLi HLil HAl HTl HNs HL0 HL1 HB0 HT d0 e0
       rw[←HS9.out] at hcv
       clear HS9
       go_wp2
       exact bodyPost_ret (v:=.agg #[.int .i64 x.op,.int .i64 x.sort,.string x.name,.string S9]) (by simp[results,Tryz.results140,go_sem,k0,k1,k2',k3']) rfl ⟨rfl,HB4.out⟩
end Go.Proofs.YtcgaeknikfaghaaGreatDoor
namespace Go.Proofs.YtcgaeknikfaghaaGreatDoor
open Go.RowKit
theorem run_append_zero {P:Program} {w:World} (t ty e:TypeId) (i:TypeInfo) (c:Nat) (ht:P.underlying t=some (.slice e)) (hi:P.info? e=some i):
  (Builtin.append_ #[t,t] ty #[.slice none 0 0,.slice none 0 c]).run P w=.ok (.slice none 0 0) w:=by
 simp[Builtin.append_,run_underlying ht,sizeOf,typeInfo,hi,Builtin.lenOf,Builtin.firstCells]
theorem copy9 {P:Program} (w:World) {ops:Array Oper} {rest:List Oper} {o:Oper} {a:Act} {Q:Exit→Act→World→Prop} (hgd:o.guard=none) (x:Operand) (t:TypeId)
  (ho:o.op=.call { callee:=.builtin .append,args:=#[.const (.slice none 0 0),x],argTypes:=#[t,t] })
  (e:TypeId) (i:TypeInfo) (z:Value) (size bytes:Nat) (ht:P.underlying t=some (.slice e)) (hi:P.info? e=some i) (hz:i.zero=some z)
  (hsize:i.size=size) (hby:i.bytes=bytes) (hzs:z.cells.size=size) (hs0:0<size)
  (A:Option Addr) (n c:Nat) (xs:List Value) (hx:a.eval x=.slice A n c) (hl:xs.length=n*size)
  (hr:0<n→∃ b off,A=some ⟨b,off,none⟩∧∀ j u,xs[j]?=some u→w.cell? ⟨b,off+j,none⟩=some u) (h1:∀ u∈xs,u.oneCell'=true)
  (h63:n≤maxLen) (hbytes:n*bytes≤140737488355328)
  (h:∀ A' c' w',w'.ownsRow w.heap.size e size (.slice A' n c') n xs→Below w.heap.size w w'→wpList P ops Q rest (a.put o.dst (.slice A' n c')) w'):
  wpList P ops Q (o::rest) a w:=by
 cases A with
 |none=>
  have hn:n=0:=by
   rcases Nat.eq_zero_or_pos n with e|e
   ·exact e
   ·obtain⟨b,off,e,_⟩:=hr e
    cases e
  subst hn
  obtain rfl:xs=[]:=List.eq_nil_of_length_eq_zero (by rw[hl,Nat.zero_mul])
  refine wpList_plain hgd fun K hK=>?_
  have hrun:=run_append_zero (P:=P) (w:=w) t o.type e i c ht hi
  have hs:a.eval (Operand.const (.slice none 0 0))=.slice none 0 0:=rfl
  unfold Oper.wp
  simp[execOp,ho,resolve,invoke,builtin,hs,hx,hrun,Result.andThen]
  exact hK _ _ (h none 0 w (World.ownsRow_nil _ _ _ _) (Below.refl _ _))
 |some ad=>
  refine wpList_append_own_at w hgd _ x t ho w.heap.size e i z size bytes ht hi hz hsize hby hzs hs0 (.slice none 0 0) 0 [] rfl (World.ownsRow_nil _ _ _ _)
   ad n c xs hx hl (fun j u hu=>?_) h1 (by omega) (by rw[Nat.zero_add];exact hbytes) (Nat.le_refl _) fun v' w' q1 q2 _ _=>?_
  ·have hj:=(List.getElem?_eq_some_iff.1 hu).1
   have hn:0<n:=by
    rcases Nat.eq_zero_or_pos n with e|e
    ·subst e
     omega
    ·exact e
   obtain⟨b,off,e,hc⟩:=hr hn
   obtain rfl:=Option.some.inj e
   rw[addr_add]
   exact hc j u hu
  ·simp only[Nat.zero_add,List.nil_append] at q1
   obtain⟨A',c',rfl⟩:=own_form q1
   exact h A' c' w' q1 ⟨q2.os,q2.tape,q2.output,q2.size,fun k hk=>q2.block k hk (by simp[Value.ownBlock])⟩
structure NdK (w:World) (G:Nat→Prop) (P:NdP) (x:Nd):Prop where
 a:NumS w P.A P.n x.a
 num:Lims w P.B P.m (Tm.limbs x.num)
 str:RunS w P.C P.p x.str
 neg:P.g=false
 cap:P.m≤P.d∧P.d≤maxLen
 few:P.n≤1000∧P.m≤1000∧P.p≤65536
 wfa:∀ z∈x.a,(Lit.int .i64 z).wf=true
 wfs:∀ r∈x.str,(Lit.int .i64 r.1).wf=true∧(Lit.int .i64 r.2).wf=true
 g:Gs G P.A P.n∧Gs G P.B P.m∧Gs G P.C P.p
theorem Lims.turn9 {F G:Nat→Prop} {w w':World} {A:Option Addr} {n:Nat} {l:List Nat} (h:Lims w A n l) (hT:Turn F w w') (hg:Gs G A n) (hG:∀ k,G k→¬F k):Lims w' A n l:=
 ⟨h.1,h.2.1,fun hn=>by
  obtain⟨b,off,e,hlt,hc⟩:=h.2.2 hn
  have hb:=hG _ (hg _ e hn)
  exact⟨b,off,e,Nat.lt_of_lt_of_le hlt hT.size,fun j hj=>(hT.cell (p:=⟨b,off+j,none⟩) hlt hb).trans (hc j hj)⟩⟩
theorem NdK.below {w w':World} {G:Nat→Prop} {P:NdP} {x:Nd} (h:NdK w G P x) (hb:Below w.heap.size w w'):NdK w' G P x:=⟨h.a.below hb,h.num.below hb,h.str.below hb,h.neg,h.cap,h.few,h.wfa,h.wfs,h.g⟩
theorem NdK.turn {F G:Nat→Prop} {w w':World} {P:NdP} {x:Nd} (h:NdK w G P x) (hT:Turn F w w') (hG:∀ k,G k→¬F k):NdK w' G P x:=⟨h.a.turn hT h.g.1 hG,h.num.turn9 hT h.g.2.1 hG,h.str.turn hT h.g.2.2 hG,h.neg,h.cap,h.few,h.wfa,h.wfs,h.g⟩
theorem NdK.mono {w:World} {G G':Nat→Prop} {P:NdP} {x:Nd} (h:NdK w G P x) (hG:∀ k,G k→G' k):NdK w G' P x:=⟨h.a,h.num,h.str,h.neg,h.cap,h.few,h.wfa,h.wfs,h.g.1.mono hG,h.g.2.1.mono hG,h.g.2.2.mono hG⟩
theorem NdK.inside {w:World} {G:Nat→Prop} {P:NdP} {x:Nd} (h:NdK w G P x):NdK w (fun k=>G k∧k<w.heap.size) P x:=
 ⟨h.a,h.num,h.str,h.neg,h.cap,h.few,h.wfa,h.wfs,fun a e hn=>by
  obtain⟨b,off,e2,hlt,_⟩:=h.a.at_ hn
  refine⟨h.g.1 a e hn,?_⟩
  rw[e2] at e
  rw[←Option.some.inj e]
  exact hlt,fun a e hn=>by
  obtain⟨b,off,e2,hlt,_⟩:=h.num.2.2 hn
  refine⟨h.g.2.1 a e hn,?_⟩
  rw[e2] at e
  rw[←Option.some.inj e]
  exact hlt,fun a e hn=>by
  obtain⟨b,off,e2,hlt,_⟩:=h.str.at_ hn
  refine⟨h.g.2.2 a e hn,?_⟩
  rw[e2] at e
  rw[←Option.some.inj e]
  exact hlt⟩
theorem NdK.as_ {w:World} {G:Nat→Prop} {P:NdP} {x:Nd} (h:NdK w G P x):NdAs w G P x:=by
 refine⟨h.a,⟨⟨Tm.limbs x.num,h.num,by rw[Tm.limbs_val];rfl,h.cap.1,h.cap.2,by have:=h.few.2.1;omega⟩,?_⟩,h.str,⟨by have:=h.few.1;omega,by have:=h.few.2.1;omega,by have:=h.few.2.2;omega⟩,h.g⟩
 rw[h.neg]
 simp[Z.sg]
theorem NumS.src {w:World} {A:Option Addr} {n:Nat} {l:List Int} (h:NumS w A n l):0<n→∃ b off,A=some ⟨b,off,none⟩∧∀ j u,(i64s l)[j]?=some u→w.cell? ⟨b,off+j,none⟩=some u:=fun hn=>by
 obtain⟨b,off,e,_,hc⟩:=h.at_ hn
 refine⟨b,off,e,fun j u hu=>?_⟩
 rw[List.getElem?_map] at hu
 obtain⟨z,hz,rfl⟩:=Option.map_eq_some_iff.1 hu
 exact hc j z hz
theorem Lims.src {w:World} {A:Option Addr} {n:Nat} {l:List Nat} (h:Lims w A n l):0<n→∃ b off,A=some ⟨b,off,none⟩∧∀ j u,(cellsOf l)[j]?=some u→w.cell? ⟨b,off+j,none⟩=some u:=fun hn=>by
 obtain⟨b,off,e,_,hc⟩:=h.2.2 hn
 refine⟨b,off,e,fun j u hu=>?_⟩
 have hj:j<l.length:=by
  have:=(List.getElem?_eq_some_iff.1 hu).1
  rwa [cellsOf_length] at this
 rw[cellsOf_get hj] at hu
 rw[←Option.some.inj hu]
 exact hc j (by rw[←h.1];exact hj)
theorem RunS.src {w:World} {A:Option Addr} {n:Nat} {l:List (Int×Int)} (h:RunS w A n l):0<n→∃ b off,A=some ⟨b,off,none⟩∧∀ j u,(rcells l)[j]?=some u→w.cell? ⟨b,off+j,none⟩=some u:=fun hn=>by
 obtain⟨b,off,e,_,hc⟩:=h.at_ hn
 refine⟨b,off,e,fun j u hu=>?_⟩
 have hj:=(List.getElem?_eq_some_iff.1 hu).1
 rw[rs_length] at hj
 obtain⟨y,hy⟩:∃ y,l[j/2]?=some y:=⟨_,List.getElem?_eq_getElem (by omega)⟩
 obtain⟨h1,h2⟩:=rs_get l _ y hy
 obtain⟨k1,k2⟩:=hc _ y hy
 rcases Nat.mod_two_eq_zero_or_one j with e|e
 ·have e':j/2*2=j:=by omega
  rw[e'] at h1 k1
  rw[hu] at h1
  rw[Option.some.inj h1]
  exact k1
 ·have e':j/2*2+1=j:=by omega
  rw[e'] at h2
  rw[hu] at h2
  rw[Option.some.inj h2]
  have:off+j/2*2+1=off+j:=by omega
  rw[this] at k2
  exact k2
theorem own_lims {w:World} {B:Nat} {A:Option Addr} {n c:Nat} {l:List Nat} (h:w.ownsRow B 173 1 (.slice A n c) n (cellsOf l)) (hn:l.length=n) (hf:M.Fit l):Lims w A n l∧n≤c∧c≤maxLen:=by
 subst hn
 obtain⟨A',c',e,h1,h2⟩:=OwnU.lims (show OwnU w B (.slice A l.length c) l from h) hf
 injection e with e1 _ e3
 subst e1
 subst e3
 exact⟨h1,h2⟩
theorem own_nums {w:World} {B:Nat} {A:Option Addr} {n c:Nat} {l:List Int} (h:w.ownsRow B 3 1 (.slice A n c) n (i64s l)) (hn:l.length=n):NumS w A n l:=
 ⟨hn,fun h0=>by
  rcases h.2 with⟨_,e⟩|⟨g,cap,cur,e,_,hg,_⟩
  ·omega
  ·injection e with e1 _ _
   subst e1
   refine⟨g,0,rfl,(Array.getElem?_eq_some_iff.1 hg).1,fun i x hx=>?_⟩
   have:=World.ownsRow.cells (g:=g) h rfl i (.int .i64 x) (by rw[List.getElem?_map,hx];rfl)
   rwa [addr_add] at this⟩
theorem own_gs {w:World} {B:Nat} {e:TypeId} {size:Nat} {A:Option Addr} {n c:Nat} {xs:List Value} (h:w.ownsRow B e size (.slice A n c) n xs):Gs (fun k=>B≤k) A n:=fun a ea _=>by
 rcases h.2 with⟨q,_⟩|⟨g,cap,cur,q1,q2,_⟩
 ·injection q with q _ _
  rw[ea] at q
  cases q
 ·injection q1 with q1 _ _
  rw[ea] at q1
  rw[Option.some.inj q1]
  exact q2
theorem infoI9:(Tryz.prog.info? 3).map (fun i=>(i.zero,i.size,i.bytes))=some (some (.int .i64 0),1,8):=by kernel_rfl
theorem infoU9:(Tryz.prog.info? 173).map (fun i=>(i.zero,i.size,i.bytes))=some (some (.int .u32 0),1,4):=by kernel_rfl
theorem infoR9:(Tryz.prog.info? 144).map (fun i=>(i.zero,i.size,i.bytes))=some (some (.agg #[.int .i64 0,.int .i64 0]),2,16):=by kernel_rfl
structure OB9 (w:World) (W:World) (cs:Array Value):Prop where
 box:Lies W w.heap.size 50 cs
 res:Lies W (w.heap.size+1) 50 #[.int .i64 0,.int .i64 0,.slice none 0 0,.string ⟨#[]⟩,.bool false,.slice none 0 0,.slice none 0 0]
 bel:Below w.heap.size w W
theorem OB9.below {w W W':World} {cs:Array Value} (h:OB9 w W cs) (hb:Below W.heap.size W W'):OB9 w W' cs:=
 ⟨(hb.block _ h.box.lt).trans h.box,(hb.block _ h.res.lt).trans h.res,h.bel.trans (hb.mono h.bel.size)⟩
theorem OB9.put {w W:World} {cs:Array Value} (h:OB9 w W cs) (i:Nat) (u:Value):OB9 w (W.setCell ⟨w.heap.size,i,none⟩ u) (cs.setIfInBounds i u):=
 ⟨h.box.put i u,((Turn.refl (fun k=>k=w.heap.size) W).put (p:=⟨w.heap.size,i,none⟩) (.inl rfl) u).lies h.res (by omega),
  (((Turn.of_below (F:=fun k=>w.heap.size≤k) h.bel).put (p:=⟨w.heap.size,i,none⟩) (.inl (Nat.le_refl _)) u)).below (Nat.le_refl _) (fun _ h=>h)⟩
theorem ownK (w:World) {G:Nat→Prop} (P:NdP) (x:Nd) (h:NdK w G P x):
  Calls Tryz.prog 35 #[.agg (P.cells x)] w fun e w'=>(∃ P':NdP,e=.returned (.agg (P'.cells x))∧NdK w' (fun k=>w.heap.size≤k) P' x)∧Below w.heap.size w w':=by
 obtain⟨A,n,c,g,B,m,d,C,p,f⟩:=P
 have hneg:g=false:=h.neg
 subst hneg
 obtain⟨W0,hW0⟩:∃ W0,(w.alloc (.cells (NdP.cells ⟨A,n,c,false,B,m,d,C,p,f⟩ x) 50)).alloc (.cells #[.int .i64 0,.int .i64 0,.slice none 0 0,.string ⟨#[]⟩,.bool false,.slice none 0 0,.slice none 0 0] 50)=W0:=⟨_,rfl⟩
 have q0:OB9 w W0 #[.int .i64 x.op,.int .i64 x.sort,.slice A n c,.string x.name,.bool false,.slice B m d,.slice C p f]:=by
  rw[←hW0]
  refine⟨(Below.heap_alloc _ _ _ (by simp)).trans (Lies.new w _ _),?_,((Below.refl _ w).alloc (Nat.le_refl _) _).alloc (by simp) _⟩
  have:=Lies.new (w.alloc (.cells (NdP.cells ⟨A,n,c,false,B,m,d,C,p,f⟩ x) 50)) 50 #[.int .i64 0,.int .i64 0,.slice none 0 0,.string ⟨#[]⟩,.bool false,.slice none 0 0,.slice none 0 0]
  rwa [World.size_alloc] at this
 have HH:Hid (∀ W,Below w.heap.size w W→NdK W G ⟨A,n,c,false,B,m,d,C,p,f⟩ x):=fun W hW=>h.below hW
 obtain⟨f1,f2,f3⟩:n≤1000∧m≤1000∧p≤65536:=h.few
 have LA:Hid ((i64s x.a).length=n*1):=by
  show(i64s x.a).length=n*1
  have e:x.a.length=n:=h.a.len
  rw[List.length_map,e];omega
 have LB:Hid ((cellsOf (Tm.limbs x.num)).length=m*1):=by
  show(cellsOf (Tm.limbs x.num)).length=m*1
  have e:(Tm.limbs x.num).length=m:=h.num.1
  rw[cellsOf_length,e];omega
 have LC:Hid ((rcells x.str).length=p*2):=by
  show(rcells x.str).length=p*2
  have e:x.str.length=p:=h.str.len
  rw[rs_length,e]
 have HA:Hid (∀ W,Below w.heap.size w W→0<n→∃ b off,A=some ⟨b,off,none⟩∧∀ j u,(i64s x.a)[j]?=some u→W.cell? ⟨b,off+j,none⟩=some u):=fun W hW=>(h.a.below hW).src
 have HB:Hid (∀ W,Below w.heap.size w W→0<m→∃ b off,B=some ⟨b,off,none⟩∧∀ j u,(cellsOf (Tm.limbs x.num))[j]?=some u→W.cell? ⟨b,off+j,none⟩=some u):=fun W hW=>(h.num.below hW).src
 have HC:Hid (∀ W,Below w.heap.size w W→0<p→∃ b off,C=some ⟨b,off,none⟩∧∀ j u,(rcells x.str)[j]?=some u→W.cell? ⟨b,off+j,none⟩=some u):=fun W hW=>(h.str.below hW).src
 obtain⟨iI,iI1,iI2,iI3,iI4⟩:=info_parts infoI9
 obtain⟨iU,iU1,iU2,iU3,iU4⟩:=info_parts infoU9
 obtain⟨iR,iR1,iR2,iR3,iR4⟩:=info_parts infoR9
 have mA:n≤maxLen:=by unfold maxLen;omega
 have mB:m≤maxLen:=by unfold maxLen;omega
 have mC:p≤maxLen:=by unfold maxLen;omega
 have yA:n*8≤140737488355328:=by omega
 have yB:m*4≤140737488355328:=by omega
 have yC:p*16≤140737488355328:=by omega
 have oA:∀ u∈i64s x.a,u.oneCell'=true:=fun u hu=>by obtain⟨z,_,rfl⟩:=List.mem_map.1 hu;rfl
 have OA:=Lib.hid oA
 have OB:Hid (∀ u∈cellsOf (Tm.limbs x.num),u.oneCell'=true):=cellsOf_one
 have OC:=Lib.hid (rs_one x.str)
 have HQ0:=Lib.hid q0
 have HW0:Hid (w.heap.size+2≤W0.heap.size):=by
  show w.heap.size+2≤W0.heap.size
  have:=q0.res.lt
  omega
 have c2:=q0.box.cell 2
 simp at c2
 clear h q0 oA
 go_enter Tryz.func35,Tryz.ntmps35
 go_wp2_with (at_builtin;refine copy9 _ rfl (.tmp 4) 44 rfl 3 iI (.int .i64 0) 1 8 Tryz.underlying44 iI1 iI2 iI3 iI4 rfl (by decide) A n c (i64s x.a) (by simp[Act.eval]) LA.out (HA.out _ HQ0.out.bel) OA.out mA yA ?_;intro A1 c1 w1 o1 b1;refine Hid.out ?_)
 refine Lib.hid ?_
 have q1:=HQ0.out.below b1
 have c2':=q1.box.cell 2
 have z2':=q1.box.free 2
 have l1:=q1.box.lt
 simp at c2'
 obtain⟨v1,hv1⟩:∃ v1,w1.setCell ⟨w.heap.size,2,none⟩ (.slice A1 n c1)=v1:=⟨_,rfl⟩
 have hp1:OB9 w v1 #[.int .i64 x.op,.int .i64 x.sort,.slice A1 n c1,.string x.name,.bool false,.slice B m d,.slice C p f]:=by rw[←hv1];exact q1.put 2 (.slice A1 n c1)
 have O1:Hid (v1.ownsRow W0.heap.size 3 1 (.slice A1 n c1) n (i64s x.a)):=by
  show v1.ownsRow W0.heap.size 3 1 (.slice A1 n c1) n (i64s x.a)
  rw[←hv1]
  exact((Turn.refl (fun k=>k=w.heap.size) w1).put (p:=⟨w.heap.size,2,none⟩) (.inl rfl) _).own o1 (fun g hg e=>by
   have:=(o1.lt g hg).1
   have:=HQ0.out.box.lt
   omega)
 have hs1:Hid (W0.heap.size≤w1.heap.size):=b1.size
 have HP1:=Lib.hid hp1
 have c5:=hp1.box.cell 5
 simp at c5
 clear o1 b1 q1 hp1 HQ0 c2
 go_wp2_with (at_builtin;refine copy9 _ rfl (.tmp 9) 45 rfl 173 iU (.int .u32 0) 1 4 Tryz.underlying45 iU1 iU2 iU3 iU4 rfl (by decide) B m d (cellsOf (Tm.limbs x.num)) (by simp[Act.eval]) LB.out (HB.out _ HP1.out.bel) OB.out mB yB ?_;intro A2 c2_ w2 o2 b2;refine Hid.out ?_)
 refine Lib.hid ?_
 have q2:=HP1.out.below b2
 have c5':=q2.box.cell 5
 have z5':=q2.box.free 5
 have l2:=q2.box.lt
 simp at c5'
 have s1:W0.heap.size≤v1.heap.size:=by
  rw[←hv1]
  simpa [World.setCell] using hs1.out
 obtain⟨v2,hv2⟩:∃ v2,w2.setCell ⟨w.heap.size,5,none⟩ (.slice A2 m c2_)=v2:=⟨_,rfl⟩
 have hp2:OB9 w v2 #[.int .i64 x.op,.int .i64 x.sort,.slice A1 n c1,.string x.name,.bool false,.slice A2 m c2_,.slice C p f]:=by rw[←hv2];exact q2.put 5 (.slice A2 m c2_)
 have T2:Hid (Turn (fun k=>k=w.heap.size∨k=w.heap.size+1) v1 v2):=by
  show Turn (fun k=>k=w.heap.size∨k=w.heap.size+1) v1 v2
  rw[←hv2]
  exact(Turn.of_below b2).put (p:=⟨w.heap.size,5,none⟩) (.inl (.inl rfl)) _
 have O2:Hid (v2.ownsRow v1.heap.size 173 1 (.slice A2 m c2_) m (cellsOf (Tm.limbs x.num))):=by
  show v2.ownsRow v1.heap.size 173 1 (.slice A2 m c2_) m (cellsOf (Tm.limbs x.num))
  rw[←hv2]
  exact((Turn.refl (fun k=>k=w.heap.size) w2).put (p:=⟨w.heap.size,5,none⟩) (.inl rfl) _).own o2 (fun g hg e=>by
   have:=(o2.lt g hg).1
   have:=HP1.out.box.lt
   omega)
 have HS1:=Lib.hid s1
 have hs2:Hid (v1.heap.size≤w2.heap.size):=b2.size
 have HP2:=Lib.hid hp2
 have c6:=hp2.box.cell 6
 simp at c6
 clear o2 b2 q2 hp2 HP1 c5 s1 hs1 hv1 c2' z2' l1
 go_wp2_with (at_builtin;refine copy9 _ rfl (.tmp 14) 48 rfl 144 iR (.agg #[.int .i64 0,.int .i64 0]) 2 16 Tryz.underlying48 iR1 iR2 iR3 iR4 rfl (by decide) C p f (rcells x.str) (by simp[Act.eval]) LC.out (HC.out _ HP2.out.bel) OC.out mC yC ?_;intro A3 c3_ w3 o3 b3;refine Hid.out ?_)
 refine Lib.hid ?_
 have q3:=HP2.out.below b3
 have c6':=q3.box.cell 6
 have z6':=q3.box.free 6
 have l3:=q3.box.lt
 simp at c6'
 have s2:v1.heap.size≤v2.heap.size:=by
  rw[←hv2]
  simpa [World.setCell] using hs2.out
 obtain⟨v3,hv3⟩:∃ v3,w3.setCell ⟨w.heap.size,6,none⟩ (.slice A3 p c3_)=v3:=⟨_,rfl⟩
 have hp3:OB9 w v3 #[.int .i64 x.op,.int .i64 x.sort,.slice A1 n c1,.string x.name,.bool false,.slice A2 m c2_,.slice A3 p c3_]:=by rw[←hv3];exact q3.put 6 (.slice A3 p c3_)
 have T3:Hid (Turn (fun k=>k=w.heap.size∨k=w.heap.size+1) v2 v3):=by
  show Turn (fun k=>k=w.heap.size∨k=w.heap.size+1) v2 v3
  rw[←hv3]
  exact(Turn.of_below b3).put (p:=⟨w.heap.size,6,none⟩) (.inl (.inl rfl)) _
 have O3:Hid (v3.ownsRow v2.heap.size 144 2 (.slice A3 p c3_) p (rcells x.str)):=by
  show v3.ownsRow v2.heap.size 144 2 (.slice A3 p c3_) p (rcells x.str)
  rw[←hv3]
  exact((Turn.refl (fun k=>k=w.heap.size) w3).put (p:=⟨w.heap.size,6,none⟩) (.inl rfl) _).own o3 (fun g hg e=>by
   have:=(o3.lt g hg).1
   have:=HP2.out.box.lt
   omega)
 have HS2:=Lib.hid s2
 obtain⟨W4,hW4⟩:∃ W4,((((((v3.setCell ⟨w.heap.size+1,0,none⟩ (.int .i64 x.op)).setCell ⟨w.heap.size+1,1,none⟩ (.int .i64 x.sort)).setCell ⟨w.heap.size+1,2,none⟩ (.slice A1 n c1)).setCell ⟨w.heap.size+1,3,none⟩ (.string x.name)).setCell ⟨w.heap.size+1,4,none⟩ (.bool false)).setCell ⟨w.heap.size+1,5,none⟩ (.slice A2 m c2_)).setCell ⟨w.heap.size+1,6,none⟩ (.slice A3 p c3_)=W4:=⟨_,rfl⟩
 have hL4:Lies W4 (w.heap.size+1) 50 #[.int .i64 x.op,.int .i64 x.sort,.slice A1 n c1,.string x.name,.bool false,.slice A2 m c2_,.slice A3 p c3_]:=by
  rw[←hW4]
  exact((((((hp3.res.put 0 (.int .i64 x.op)).put 1 (.int .i64 x.sort)).put 2 (.slice A1 n c1)).put 3 (.string x.name)).put 4 (.bool false)).put 5 (.slice A2 m c2_)).put 6 (.slice A3 p c3_)
 have T4:Turn (fun k=>k=w.heap.size∨k=w.heap.size+1) v3 W4:=by
  rw[←hW4]
  exact(((((((Turn.refl _ v3).put (p:=⟨w.heap.size+1,0,none⟩) (.inl (.inr rfl)) _).put (p:=⟨w.heap.size+1,1,none⟩) (.inl (.inr rfl)) _).put (p:=⟨w.heap.size+1,2,none⟩) (.inl (.inr rfl)) _).put (p:=⟨w.heap.size+1,3,none⟩) (.inl (.inr rfl)) _).put (p:=⟨w.heap.size+1,4,none⟩) (.inl (.inr rfl)) _).put (p:=⟨w.heap.size+1,5,none⟩) (.inl (.inr rfl)) _).put (p:=⟨w.heap.size+1,6,none⟩) (.inl (.inr rfl)) _
 have hw0:w.heap.size+2≤W0.heap.size:=HW0.out
 have HE:Hid (NdK W4 (fun k=>w.heap.size≤k) ⟨A1,n,c1,false,A2,m,c2_,A3,p,c3_⟩ x∧Below w.heap.size w W4):=by
  have h0:=HH.out w (Below.refl _ _)
  have T34:Turn (fun k=>k=w.heap.size∨k=w.heap.size+1) v2 W4:=T3.out.trans T4 (fun _ e=> .inl e)
  have T24:Turn (fun k=>k=w.heap.size∨k=w.heap.size+1) v1 W4:=T2.out.trans T34 (fun _ e=> .inl e)
  have k1:=T24.own O1.out (fun g hg=>by have:=(World.ownsRow.lt O1.out g hg).1;omega)
  have k2:=T34.own O2.out (fun g hg=>by have:=(World.ownsRow.lt O2.out g hg).1;have:=HS1.out;omega)
  have k3:=T4.own O3.out (fun g hg=>by have:=(World.ownsRow.lt O3.out g hg).1;have:=HS1.out;have:=HS2.out;omega)
  have hnum:=own_lims k2 h0.num.1 h0.num.2.1
  refine⟨⟨own_nums k1 h0.a.len,hnum.1,?_,rfl,hnum.2,h0.few,h0.wfa,h0.wfs,(own_gs k1).mono (fun k hk=>by omega),(own_gs k2).mono (fun k hk=>by have:=HS1.out;omega),(own_gs k3).mono (fun k hk=>by have:=HS1.out;have:=HS2.out;omega)⟩,?_⟩
  ·have hl:x.str.length=p:=h0.str.len
   have:OwnR W4 v2.heap.size A3 c3_ x.str:=by unfold OwnR;rw[hl];exact k3
   exact this.runs hl
  ·exact(((Turn.of_below (F:=fun k=>w.heap.size≤k) hp3.bel)).trans T4 (fun k hk=> .inl (by omega))).below (Nat.le_refl _) (fun _ h=>h)
 have k0:W4.cell? ⟨w.heap.size+1,0,none⟩=some (.int .i64 x.op):=by rw[hL4.cell];rfl
 have k1:W4.cell? ⟨w.heap.size+1,1,none⟩=some (.int .i64 x.sort):=by rw[hL4.cell];rfl
 have k2:W4.cell? ⟨w.heap.size+1,2,none⟩=some (.slice A1 n c1):=by rw[hL4.cell];rfl
 have k3:W4.cell? ⟨w.heap.size+1,3,none⟩=some (.string x.name):=by rw[hL4.cell];rfl
 have k4:W4.cell? ⟨w.heap.size+1,4,none⟩=some (.bool false):=by rw[hL4.cell];rfl
 have k5:W4.cell? ⟨w.heap.size+1,5,none⟩=some (.slice A2 m c2_):=by rw[hL4.cell];rfl
 have k6:W4.cell? ⟨w.heap.size+1,6,none⟩=some (.slice A3 p c3_):=by rw[hL4.cell];rfl
 have b0:=hp3.box.cell 0
 have b1:=hp3.box.cell 1
 have b2:=hp3.box.cell 2
 have b3':=hp3.box.cell 3
 have b4:=hp3.box.cell 4
 have b5:=hp3.box.cell 5
 have b6:=hp3.box.cell 6
 have r0:=hp3.res.cell 0
 have r1:=hp3.res.cell 1
 have r2:=hp3.res.cell 2
 have r3:=hp3.res.cell 3
 have r4:=hp3.res.cell 4
 have r5:=hp3.res.cell 5
 have r6:=hp3.res.cell 6
 have y0:=hp3.res.free 0
 have y1:=hp3.res.free 1
 have y2:=hp3.res.free 2
 have y3:=hp3.res.free 3
 have y4:=hp3.res.free 4
 have y5:=hp3.res.free 5
 have y6:=hp3.res.free 6
 have ll:=hp3.res.lt
 simp at b0 b1 b2 b3' b4 b5 b6 r0 r1 r2 r3 r4 r5 r6
 clear o3 b3 q3 hp3 HP2 c6 s2 hs2 hv2 c5' z5' l2 O1 O2 O3 T2 T3 T4 hL4 HS1 HS2 hw0 HW0 HH HA HB HC LA LB LC OA OB OC
 go_wp2
 exact bodyPost_ret (v:=.agg #[.int .i64 x.op,.int .i64 x.sort,.slice A1 n c1,.string x.name,.bool false,.slice A2 m c2_,.slice A3 p c3_]) (by simp[results,Tryz.results35,go_sem,k0,k1,k2,k3,k4,k5,k6]) rfl ⟨⟨⟨A1,n,c1,false,A2,m,c2_,A3,p,c3_⟩,rfl,HE.out.1⟩,HE.out.2⟩
end Go.Proofs.YtcgaeknikfaghaaGreatDoor
namespace Go.Proofs.YtcgaeknikfaghaaGreatDoor
open Go.RowKit
theorem sgn_neg9 {z:Int}:(Z.sgn z<0)↔z<0:=by
 rcases Z.sgn_cases z with⟨h1,h2⟩|⟨h1,h2⟩|⟨h1,h2⟩ <;> rw[h2] <;> omega
theorem signed9 (s:Int) (A:Option Addr) (n c:Nat) (w:World) (hs:¬s<0):
  Calls Tryz.prog 216 #[.int .i64 s,.slice A n c] w fun e w'=>e=.returned (.agg #[.bool false,.slice A n c])∧Below w.heap.size w w':=by
 have hb:Hid (Below w.heap.size w (w.alloc (Obj.cells #[.bool false,.slice A n c] 47))):=(Below.refl _ _).alloc (Nat.le_refl _) _
 go_enter Tryz.func216,Tryz.ntmps216
 go_wp2
 exact bodyPost_ret (v:=.agg #[.bool false,.slice A n c]) (by simp[results,Tryz.results216,go_sem]) rfl ⟨rfl,hb.out⟩
structure LimK (w:World) (G:Nat→Prop) (A:Option Addr) (n c N:Nat):Prop where
 lims:Lims w A n (Tm.limbs N)
 cap:n≤c∧c≤maxLen
 g:Gs G A n
theorem LimK.below {w w':World} {G:Nat→Prop} {A:Option Addr} {n c N:Nat} (h:LimK w G A n c N) (hb:Below w.heap.size w w'):LimK w' G A n c N:=⟨h.lims.below hb,h.cap,h.g⟩
theorem natNorm9 {w:World} {A:Option Addr} {n c N:Nat} (h:In w A n c N) (hn:n≤900):
  Calls Tryz.prog 217 #[.slice A n c] w fun e w'=>(∃ A' n' c',e=.returned (.slice A' n' c')∧n'≤900∧LimK w' (fun k=>w.heap.size≤k) A' n' c' N)∧Below w.heap.size w w':=by
 obtain⟨l,h1,rfl,h3,h4,h5⟩:=h
 refine(norm_row A n c l w h1 h3 h4 h5).mono ?_
 rintro e w' ⟨l',k1,k2,k3,k4,k5,k6⟩
 have hl:Tm.limbs (M.val l)=l':=by rw[←k3];exact Tm.limbs_of k1 k2
 rcases k6 with⟨rfl,rfl⟩|⟨rfl,hr⟩
 ·exact⟨⟨none,0,0,rfl,by omega,⟨by rw[hl];exact Lims.nil_ _ _,⟨Nat.le_refl _,Nat.zero_le _⟩,Gs.zero _ _⟩⟩,k5⟩
 ·refine⟨⟨_,_,_,rfl,by omega,⟨by rw[hl];exact hr.lims k1 rfl,⟨Nat.le_refl _,by unfold maxLen;omega⟩,fun a ha _=>?_⟩⟩,k5⟩
  rw[←Option.some.inj ha]
  exact Nat.le_refl _
theorem norm9 (g:Bool) (A:Option Addr) (n c:Nat) (z:Int) (w:World) (h:WIn w g A n c z) (hz:¬z<0) (hn:n≤900):
  Calls Tryz.prog 200 #[.agg #[.bool g,.slice A n c]] w fun e w'=>(∃ A' n' c',e=.returned (.agg #[.bool false,.slice A' n' c'])∧n'≤900∧LimK w' (fun k=>w.heap.size≤k) A' n' c' z.natAbs)∧Below w.heap.size w w':=by
 have HG:=Lib.hid fun(W:World) (q:W.cell? ⟨w.heap.size,0,none⟩=some (.bool g)∧W.cell? ⟨w.heap.size,1,none⟩=some (.slice A n c)∧Held1 w g A n c 1 W)=>sign_w g A n c z W (h.below q.2.2.bel)
 have HN:=Lib.hid fun(W:World) (q:W.cell? ⟨w.heap.size,0,none⟩=some (.bool g)∧W.cell? ⟨w.heap.size,1,none⟩=some (.slice A n c)∧Held1 w g A n c 1 W)=>natNorm9 (h.below q.2.2.bel).1 hn
 have HS:=Lib.hid (Held1.one w g A n c).drew.s
 have hs:¬Z.sgn z<0:=fun e=>hz (sgn_neg9.1 e)
 obtain⟨N,hN⟩:∃ N,z.natAbs=N:=⟨_,rfl⟩
 obtain⟨s,hS⟩:∃ s,Z.sgn z=s:=⟨_,rfl⟩
 rw[hN] at HN ⊢
 rw[hS] at HG hs
 have HD:Hid (0≤s):=Int.not_lt.1 hs
 have HSz:Hid (∀ W,(W.cell? ⟨w.heap.size,0,none⟩=some (.bool g)∧W.cell? ⟨w.heap.size,1,none⟩=some (.slice A n c)∧Held1 w g A n c 1 W)→w.heap.size+2≤W.heap.size):=fun W q=>by
  obtain⟨_,_,_,_,r⟩:=q.2.2.room 0 (by omega)
  have:=r.lt
  omega
 clear h hz hN hS hs
 go_enter Tryz.func200,Tryz.ntmps200
 go_wp2_with fail
 go_region_held3 (fun w'=>w'.cell? ⟨w.heap.size,0,none⟩=some (.bool g)∧w'.cell? ⟨w.heap.size,1,none⟩=some (.slice A n c)∧Held1 w g A n c 1 w')
  (first|exact Held1.keep (by assumption) (by assumption)|exact HS.out|exact Held1.set1 (by assumption))
  (first|(go_at_call 199;refine(HG.out _ ?_).mono ?_;assumption;rintro e w1 ⟨rfl,b1⟩)|(go_at_call 217;have hz2:=HSz.out _ (by assumption);refine(HN.out _ ?_).mono ?_;assumption;rintro e w2 ⟨⟨A2,a2,c2,rfl,m2,n2⟩,b2⟩)|(go_at_call 216;refine(signed9 _ _ _ _ _ (Int.not_lt.2 HD.out)).mono ?_;rintro e w3 ⟨rfl,b3⟩;have s3:=Held1.keep b3 (by assumption);obtain⟨x3,y3,z3,q3,⟨f0,f1,f2,f3⟩⟩:=s3.2.2.room 0 (by omega);have f4:=f3 0;have f5:=f3 1))
 have r3:Room w3 (w.heap.size+1):=s3.2.2.room 0 (by omega)
 obtain⟨k0,k1,_⟩:=room_cells (x:=.bool false) (u:=.slice A2 a2 c2) r3
 unfold World.room at k0 k1
 have hT:Turn (fun k=>k=w.heap.size+1) w3 ((w3.setCell ⟨w.heap.size+1,0,none⟩ (.bool false)).setCell ⟨w.heap.size+1,1,none⟩ (.slice A2 a2 c2)):=((Turn.refl (fun k=>k=w.heap.size+1) w3).put (p:=⟨w.heap.size+1,0,none⟩) (.inl rfl) _).put (p:=⟨w.heap.size+1,1,none⟩) (.inl rfl) _
 have n3:=n2.below b3
 have HE:Hid (LimK ((w3.setCell ⟨w.heap.size+1,0,none⟩ (.bool false)).setCell ⟨w.heap.size+1,1,none⟩ (.slice A2 a2 c2)) (fun k=>w.heap.size≤k) A2 a2 c2 N∧Below w.heap.size w ((w3.setCell ⟨w.heap.size+1,0,none⟩ (.bool false)).setCell ⟨w.heap.size+1,1,none⟩ (.slice A2 a2 c2))):=
  ⟨⟨n3.lims.turn9 hT n3.g (fun k hk e=>by omega),n3.cap,n3.g.mono (fun k hk=>by omega)⟩,((Turn.of_below (F:=fun k=>w.heap.size≤k) s3.2.2.bel).trans hT (fun k hk=> .inl (by omega))).below (Nat.le_refl _) (fun _ h=>h)⟩
 clear HG HN HSz hT n3 n2 b3 b2 r3
 go_wp2_with fail
 exact bodyPost_ret (v:=.agg #[.bool false,.slice A2 a2 c2]) (by simp[results,Tryz.results200,go_sem,k0,k1]) rfl ⟨⟨A2,a2,c2,rfl,m2,HE.out.1⟩,HE.out.2⟩
end Go.Proofs.YtcgaeknikfaghaaGreatDoor
