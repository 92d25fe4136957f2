/- What the proofs of this claim use, text by text. -/
import Derived.Test.YtcgaeknikfaghaaGreatDoorQD43
import Derived.StillTailTactics
import Derived.Deep.DeepCutAuto
import Derived.Deep.RegionHeld3
set_option linter.unusedSimpArgs false
set_option linter.unusedVariables false
set_option maxRecDepth 100000
set_option maxHeartbeats 25600000
namespace Go.Proofs.YtcgaeknikfaghaaGreatDoor
open Go.RowKit
theorem TreeL.of_lies {w:World} {G:Nat→Nat→Prop} {g:Nat} {cs:Array Value} (h:Lies w g 27 cs) (hG:∀ o,G g o) (Q:List PSx) (hc:Q.flatMap pcells=cs.toList) (hQ:∀ q∈Q,(q.2.L.length≤q.1.2∧q.1.2≤maxLen)∧TreeL w G q.1.1 q.2.L):TreeL w G (some ⟨g,0,none⟩) (Q.map (·.2)):=
 TreeL.of_row h.lt hG Q 0 (fun j u hu=>by rw[Nat.zero_add,h.cell,←Array.getElem?_toList,←hc];exact hu) hQ
abbrev nodeS (l:List Sx):Sx:=⟨true,0,⟨#[]⟩,0,0,l⟩
abbrev letName:ByteArray:=⟨#[108,101,116]⟩
abbrev bindS (s:ByteArray) (b:Sx):Sx:=nodeS [nodeS [atomS s,b]]
abbrev letS (s:ByteArray) (b x:Sx):Sx:=nodeS [atomS letName,bindS s b,x]
abbrev CB1 (s:ByteArray) (b:Sx) (bA:Option Addr) (bn bc:Nat):Array Value:=#[.bool false,.int .i64 3,.string s,.int .i64 0,.int .i64 0,.slice none 0 0,.bool b.list,.int .i64 b.k,.string b.T,.int .i64 b.ta,.int .i64 b.at_,.slice bA bn bc]
abbrev CB2 (g n:Nat):Array Value:=#[.bool true,.int .i64 0,.string ⟨#[]⟩,.int .i64 0,.int .i64 0,.slice (some ⟨g,0,none⟩) n n]
abbrev CB4 (g:Nat) (x:Sx) (xA:Option Addr) (xn xc:Nat):Array Value:=#[.bool false,.int .i64 3,.string letName,.int .i64 0,.int .i64 0,.slice none 0 0,.bool true,.int .i64 0,.string ⟨#[]⟩,.int .i64 0,.int .i64 0,.slice (some ⟨g,0,none⟩) 1 1,.bool x.list,.int .i64 x.k,.string x.T,.int .i64 x.ta,.int .i64 x.at_,.slice xA xn xc]
theorem letS_tree {w:World} {G:Nat→Nat→Prop} {g1 g2 g4:Nat} {s:ByteArray} {b x:Sx} {bA xA:Option Addr} {bn bc xn xc:Nat} (hbn:b.L.length=bn) (hxn:x.L.length=xn) (h1:Lies w g1 27 (CB1 s b bA bn bc)) (h2:Lies w g2 27 (CB2 g1 2)) (h4:Lies w g4 27 (CB4 g2 x xA xn xc))
  (hb:STree w G b bA bc) (hx:STree w G x xA xc) (hG:∀ g,g=g1∨g=g2∨g=g4→∀ o,G g o):STree w G (letS s b x) (some ⟨g4,0,none⟩) 3:=by
 subst hbn
 subst hxn
 have t1:TreeL w G (some ⟨g1,0,none⟩) [atomS s,b]:=TreeL.of_lies h1 (hG g1 (.inl rfl)) [((none,0),atomS s),((bA,bc),b)] rfl fun q hq=>by
  rcases List.mem_cons.1 hq with rfl|hq
  ·exact⟨⟨Nat.le_refl _,Nat.zero_le _⟩,.nil _⟩
  ·rw[List.mem_singleton.1 hq];exact⟨hb.le,hb.tree⟩
 have t2:TreeL w G (some ⟨g2,0,none⟩) [nodeS [atomS s,b]]:=TreeL.of_lies h2 (hG g2 (.inr (.inl rfl))) [((some ⟨g1,0,none⟩,2),nodeS [atomS s,b])] rfl fun q hq=>by
  rw[List.mem_singleton.1 hq];exact⟨⟨Nat.le_refl _,by show 2≤maxLen;unfold maxLen;omega⟩,t1⟩
 have t4:TreeL w G (some ⟨g4,0,none⟩) [atomS letName,bindS s b,x]:=TreeL.of_lies h4 (hG g4 (.inr (.inr rfl))) [((none,0),atomS letName),((some ⟨g2,0,none⟩,1),bindS s b),((xA,xc),x)] rfl fun q hq=>by
  rcases List.mem_cons.1 hq with rfl|hq
  ·exact⟨⟨Nat.le_refl _,Nat.zero_le _⟩,.nil _⟩
  rcases List.mem_cons.1 hq with rfl|hq
  ·exact⟨⟨Nat.le_refl _,by show 1≤maxLen;unfold maxLen;omega⟩,t2⟩
  ·rw[List.mem_singleton.1 hq];exact⟨hx.le,hx.tree⟩
 exact⟨⟨Nat.le_refl _,by unfold maxLen;omega⟩,t4⟩
theorem letS_size (s:ByteArray) (b x:Sx):(letS s b x).size=b.size+x.size+5:=by
 simp only[Sx.size_eq (letS s b x),Sx.sizes,Sx.size_eq (atomS letName),Sx.size_eq (bindS s b),Sx.size_eq (nodeS [atomS s,b]),Sx.size_eq (atomS s)]
 omega
theorem letS_fine {s:ByteArray} {b x:Sx} (hs:s.size≤1048576) (hb:Sx.Fine b) (hx:Sx.Fine x):Sx.Fine (letS s b x):=by
 have h0:(⟨#[]⟩:ByteArray).size≤1048576:=by decide
 refine .mk _ h0 (by simp) fun y hy=>?_
 have e:y=atomS letName∨y=bindS s b∨y=x:=by simpa using hy
 rcases e with rfl|rfl|rfl
 ·exact .mk _ (by decide) (Nat.zero_le _) fun _ h=>(List.not_mem_nil h).elim
 ·refine .mk _ h0 (by simp) fun y hy=>?_
  rw[List.mem_singleton.1 hy]
  refine .mk _ h0 (by simp) fun y hy=>?_
  have e:y=atomS s∨y=b:=by simpa using hy
  rcases e with rfl|rfl
  ·exact .mk _ hs (Nat.zero_le _) fun _ h=>(List.not_mem_nil h).elim
  ·exact hb
 ·exact hx
theorem letS_lets (D:List Dc) (k:Nat) (s:ByteArray) (b x y:Sx) (N:List Nd) (hI:Tm.Inv N) (hs:Bd.reserved s.data.toList=false) (hr:Bd.repl s b x=some y) (he:(Bd.tm D k [] N b).2.2=0):
  Bd.tm D k [] (Bd.tm D k [] (Bd.tm D k [] N b).1 (letS s b x)).1 y=Bd.tm D k [] (Bd.tm D k [] N b).1 (letS s b x):=
 Bd.lets D k s b x y (letS s b x) N hI hs hr ⟨atomS letName,bindS s b,nodeS [atomS s,b],atomS s,rfl,rfl,rfl,rfl,by decide,rfl,rfl,rfl,rfl,rfl,rfl,rfl⟩ he
theorem below_up {w W:World} (h:Below w.heap.size w W) (o:Obj):Below w.heap.size w (W.alloc o):=h.alloc h.size o
theorem below_dr {w W:World} (h:Below w.heap.size w W):Below w.heap.size w W.drew:=⟨h.os,h.tape,h.output,h.size,h.block⟩
theorem STree.low {w:World} {x:Sx} {A:Option Addr} {c:Nat} (h:STree w AnyP x A c):STree w (fun g _=>g<w.heap.size) x A c:=h.mono' fun _ _ hlt _=>hlt
abbrev LS (g3 g2 kx:Nat) (x:Sx) (xA:Option Addr) (xn xc:Nat) (W:World):Prop:=W.cell? ⟨g3,0,none⟩=some (.bool true)∧W.cell? ⟨g3,1,none⟩=some (.int .i64 0)∧W.cell? ⟨g3,2,none⟩=some (.string ⟨#[]⟩)∧W.cell? ⟨g3,3,none⟩=some (.int .i64 0)∧W.cell? ⟨g3,4,none⟩=some (.int .i64 0)∧W.cell? ⟨g3,5,none⟩=some (.slice (some ⟨g2,0,none⟩) 1 1)∧
 W.cell? ⟨kx,0,none⟩=some (.bool x.list)∧W.cell? ⟨kx,1,none⟩=some (.int .i64 x.k)∧W.cell? ⟨kx,2,none⟩=some (.string x.T)∧W.cell? ⟨kx,3,none⟩=some (.int .i64 x.ta)∧W.cell? ⟨kx,4,none⟩=some (.int .i64 x.at_)∧W.cell? ⟨kx,5,none⟩=some (.slice xA xn xc)
theorem buildLets_walk (w:World) (A:Option Addr) (n c:Nat) (L:List (DcP×Dc)) (nm:ByteArray) (b:Sx) (bA:Option Addr) (bc:Nat) (x:Sx) (xA:Option Addr) (xc:Nat) (h:Came w A n c L x xA xc) (h2:Came w A n c L b bA bc) (hnm:nm.size≤1048576) (hT:Pow9 w) (hK:Ask9 w) (hG:Gl w):
  Calls Tryz.prog 7 #[.slice A n c,.string nm,sval b bA bc,sval x xA xc] w fun e w'=>e=.returned (.bool true)∧Below w.heap.size w w':=by
 obtain⟨Wb,hWb⟩:∃ Wb,w.alloc (sbox b bA bc)=Wb:=⟨_,rfl⟩
 obtain⟨W0,hW0⟩:∃ W0,Wb.alloc (sbox x xA xc)=W0:=⟨_,rfl⟩
 have hBb:Below w.heap.size w Wb:=by rw[←hWb];exact(Below.refl _ w).alloc (Nat.le_refl _) _
 have hBx:Below Wb.heap.size Wb W0:=by rw[←hW0];exact(Below.refl _ Wb).alloc (Nat.le_refl _) _
 have hB0:Below w.heap.size w W0:=hBb.trans (hBx.mono hBb.size)
 have hszb:Wb.heap.size=w.heap.size+1:=by rw[←hWb];exact Array.size_push ..
 have HBoxB:Hid (∀ W,Below W0.heap.size W0 W→XCells W w.heap.size b bA bc):=fun W hW=>xbox w b bA bc (by rw[hWb];exact hBx.trans (hW.mono hBx.size))
 have HBoxX:Hid (∀ W,Below W0.heap.size W0 W→XCells W (w.heap.size+1) x xA xc):=fun W hW=>by
  have:=xbox Wb x xA xc (W:=W) (by rw[hW0];exact hW)
  rwa [hszb] at this
 have h0:=h.below hB0
 have h20:=h2.below hB0
 have hT0:=hT.on hB0
 have hK0:=hK.below hB0
 have hG0:=hG.below hB0
 have HA:=Lib.hid (kawake10 W0 hT0 hK0 hG0)
 have HLater:Hid (∀ W,Below W0.heap.size W0 W→Came W A n c L x xA xc∧Came W A n c L b bA bc∧Pow9 W∧Ask9 W∧Gl W):=fun W hW=>⟨h0.below hW,h20.below hW,hT0.on hW,hK0.below hW,hG0.below hW⟩
 have HLow:Hid (∀ W,Below W0.heap.size W0 W→STree W (fun g _=>g<w.heap.size) x xA xc∧STree W (fun g _=>g<w.heap.size) b bA bc):=fun W hW=>⟨(h.tree.low.kept hB0).kept hW,(h2.tree.low.kept hB0).kept hW⟩
 have HB0:=Lib.hid hB0
 have HNm:=Lib.hid hnm
 obtain⟨_,p0,p1,p2,p3,p4,p5⟩:=(sbox_at w b bA bc).below (by rw[hWb];exact hBx)
 obtain⟨_,q0,q1,q2,q3,q4,q5⟩:=(sbox_at Wb x xA xc)
 rw[hW0] at q0 q1 q2 q3 q4 q5
 rw[hszb] at q0 q1 q2 q3 q4 q5
 simp only[Nat.zero_add] at p0 p1 p2 p3 p4 p5 q0 q1 q2 q3 q4 q5
 have hlt0:Hid (w.heap.size<W0.heap.size):=by have:=hBx.size;show _<_;omega
 clear h h2 h0 h20 hnm hT hK hG hT0 hK0 hG0 hB0 hBx hBb
 obtain⟨xn,hxn⟩:∃ xn,x.L.length=xn:=⟨_,rfl⟩
 obtain⟨bn,hbn⟩:∃ bn,b.L.length=bn:=⟨_,rfl⟩
 have HXn:=Lib.hid hxn
 have HBn:=Lib.hid hbn
 have hsv:sval x xA xc=.agg #[.bool x.list,.int .i64 x.k,.string x.T,.int .i64 x.ta,.int .i64 x.at_,.slice xA xn xc]:=by unfold sval;rw[hxn]
 have hbv:sval b bA bc=.agg #[.bool b.list,.int .i64 b.k,.string b.T,.int .i64 b.ta,.int .i64 b.at_,.slice bA bn bc]:=by unfold sval;rw[hbn]
 have HSv:=Lib.hid hsv
 have HBv:=Lib.hid hbv
 rw[hsv,hbv]
 rw[hxn] at q5
 rw[hbn] at p5
 have hWb':w.alloc (.cells #[.bool b.list,.int .i64 b.k,.string b.T,.int .i64 b.ta,.int .i64 b.at_,.slice bA bn bc] 27)=Wb:=by rw[←hWb,←hbn]
 have hW0':Wb.alloc (.cells #[.bool x.list,.int .i64 x.k,.string x.T,.int .i64 x.ta,.int .i64 x.at_,.slice xA xn xc] 27)=W0:=by rw[←hW0,←hxn]
 clear hWb hW0 hxn hbn hsv hbv
 go_enter Tryz.func7,Tryz.ntmps7
 go_wp2_with fail
 refine HA.out.mono ?_
 rintro e w1 ⟨rfl,b1'⟩
 have HB1:=Lib.hid b1'
 clear HA b1' p0 p1 p2 p3 p4 p5 q0 q1 q2 q3 q4 q5 hW0' hWb'
 have HX:Hid (∀ W,Below W0.heap.size W0 W→W.cell? ⟨w.heap.size+1,0,none⟩=some (.bool x.list)∧W.cell? ⟨w.heap.size+1,1,none⟩=some (.int .i64 x.k)∧W.cell? ⟨w.heap.size+1,2,none⟩=some (.string x.T)∧W.cell? ⟨w.heap.size+1,3,none⟩=some (.int .i64 x.ta)∧W.cell? ⟨w.heap.size+1,4,none⟩=some (.int .i64 x.at_)∧W.cell? ⟨w.heap.size+1,5,none⟩=some (.slice xA xn xc)):=fun W hW=>by
  have:=HBoxX.out W hW
  unfold XCells at this
  rw[HXn.out] at this
  exact this
 have HY:Hid (∀ W,Below W0.heap.size W0 W→W.cell? ⟨w.heap.size,0,none⟩=some (.bool b.list)∧W.cell? ⟨w.heap.size,1,none⟩=some (.int .i64 b.k)∧W.cell? ⟨w.heap.size,2,none⟩=some (.string b.T)∧W.cell? ⟨w.heap.size,3,none⟩=some (.int .i64 b.ta)∧W.cell? ⟨w.heap.size,4,none⟩=some (.int .i64 b.at_)∧W.cell? ⟨w.heap.size,5,none⟩=some (.slice bA bn bc)):=fun W hW=>by
  have:=HBoxB.out W hW
  unfold XCells at this
  rw[HBn.out] at this
  exact this
 clear HBoxX HBoxB
 obtain⟨p0,p1,p2,p3,p4,p5⟩:=HY.out w1 HB1.out
 have HF1:=Lib.hid (HLater.out w1 HB1.out).2.1.few
 rw[HBv.out] at HF1
 go_wp2_with fail
 refine HF1.out.mono ?_
 rintro e w2 ⟨⟨v1,rfl,hv1⟩,b2'⟩
 have HB2:=Lib.hid (HB1.out.trans (b2'.mono HB1.out.size))
 clear HF1 b2' HB1 p0 p1 p2 p3 p4 p5
 obtain⟨p0,p1,p2,p3,p4,p5⟩:=HX.out w2 HB2.out
 have HF2:=Lib.hid (HLater.out w2 HB2.out).1.few
 rw[HSv.out] at HF2
 go_wp2_with fail
 refine HF2.out.mono ?_
 rintro e w3 ⟨⟨v2,rfl,hv2⟩,b3'⟩
 have HB3:=Lib.hid (HB2.out.trans (b3'.mono HB2.out.size))
 have HE3:=Lib.hid (HB0.out.trans (HB3.out.mono HB0.out.size))
 clear HF2 b3' HB2 p0 p1 p2 p3 p4 p5
 cases v1 with
 |false=>
  clear hv1 hv2 HX HY HLater HLow HSv HBv HXn HBn
  go_wp2
  go_ret
  exact⟨rfl,HE3.out⟩
 |true=>
 cases v2 with
 |false=>
  clear hv1 hv2 HX HY HLater HLow HSv HBv HXn HBn
  go_wp2
  go_ret
  exact⟨rfl,HE3.out⟩
 |true=>
 have Hfb:=Lib.hid (hv1 rfl)
 have Hfx:=Lib.hid (hv2 rfl)
 have HR:=Lib.hid (kreserved nm w3)
 obtain⟨rv,hrv⟩:∃ rv,Bd.reserved nm.data.toList=rv:=⟨_,rfl⟩
 rw[hrv] at HR
 have HRv:=Lib.hid hrv
 clear hv1 hv2 hrv
 go_wp2_with fail
 refine HR.out.mono ?_
 rintro e w4 ⟨rfl,rfl⟩
 clear HR
 cases rv with
 |true=>
  clear HX HY HLater HLow HSv HBv HXn HBn HRv
  go_wp2
  go_ret
  exact⟨rfl,HE3.out⟩
 |false=>
 have hcx:=(HLater.out _ HB3.out).1
 have hsx:x.size≤600:=Hfx.out.size
 have hsb:b.size≤600:=Hfb.out.size
 have HRp:=Lib.hid (krepl10 nm b bA bc w.heap.size x.size x xA xc _ (Nat.le_refl _) (by omega) HE3.out.size (HLow.out _ HB3.out).1 (HLow.out _ HB3.out).2)
 rw[HSv.out,HBv.out] at HRp
 obtain⟨p0,p1,p2,p3,p4,p5⟩:=HX.out _ HB3.out
 obtain⟨q0,q1,q2,q3,q4,q5⟩:=HY.out _ HB3.out
 clear hcx
 go_wp2_with fail
 refine HRp.out.mono ?_
 rintro e w5 ⟨(⟨y,yA,yc,rfl,hy,ht5⟩|⟨rfl,hy⟩),b5⟩
 ·obtain⟨yn,hyn⟩:∃ yn,y.L.length=yn:=⟨_,rfl⟩
  obtain⟨yl,hyl⟩:∃ yl,y.list=yl:=⟨_,rfl⟩
  obtain⟨yk,hyk⟩:∃ yk,y.k=yk:=⟨_,rfl⟩
  obtain⟨yT,hyT⟩:∃ yT,y.T=yT:=⟨_,rfl⟩
  obtain⟨yta,hyta⟩:∃ yta,y.ta=yta:=⟨_,rfl⟩
  obtain⟨ya,hya⟩:∃ ya,y.at_=ya:=⟨_,rfl⟩
  have hyv:sval y yA yc=.agg #[.bool yl,.int .i64 yk,.string yT,.int .i64 yta,.int .i64 ya,.slice yA yn yc]:=by unfold sval;rw[hyn,hyl,hyk,hyT,hyta,hya]
  have HYv:=Lib.hid hyv
  have hys:y.size≤360000:=Nat.le_trans (Bd.repl_size x.size x y (Nat.le_refl _) hy) (Nat.mul_le_mul hsx hsb)
  obtain⟨E5,hE5⟩:∃ E5,w5.alloc (.cells #[.bool yl,.int .i64 yk,.string yT,.int .i64 yta,.int .i64 ya,.slice yA yn yc] 27)=E5:=⟨_,rfl⟩
  obtain⟨z5,hz5⟩:∃ z5,w5.heap.size=z5:=⟨_,rfl⟩
  have hb5:Below w5.heap.size w5 E5:=by rw[←hE5];exact(Below.refl _ w5).alloc (Nat.le_refl _) _
  have hL5:Lies E5 z5 27 #[.bool yl,.int .i64 yk,.string yT,.int .i64 yta,.int .i64 ya,.slice yA yn yc]:=by rw[←hE5,←hz5];exact Lies.new w5 _ _
  have hB5:=HB3.out.trans ((b5.trans (hb5.mono b5.size)).mono HB3.out.size)
  have HB5:=Lib.hid hB5
  have HTy:Hid (STree E5 AnyP y yA yc):=(ht5.kept hb5).mono' fun _ _ _ _=>trivial
  have HSz:=Lib.hid (rsize y.size y yA yc E5 (Nat.le_refl _) (by omega) HTy.out)
  rw[hyv] at HSz
  have HL5:=Lib.hid hL5
  have HY5:Hid (∀ W,Below E5.heap.size E5 W→W.cell? ⟨z5,0,none⟩=some (.bool yl)∧W.cell? ⟨z5,1,none⟩=some (.int .i64 yk)∧W.cell? ⟨z5,2,none⟩=some (.string yT)∧W.cell? ⟨z5,3,none⟩=some (.int .i64 yta)∧W.cell? ⟨z5,4,none⟩=some (.int .i64 ya)∧W.cell? ⟨z5,5,none⟩=some (.slice yA yn yc)):=fun W hW=>by
   have hl:=(Turn.of_below (F:=fun _=>False) hW).lies HL5.out id
   exact⟨hl.cell 0,hl.cell 1,hl.cell 2,hl.cell 3,hl.cell 4,hl.cell 5⟩
  obtain⟨d0,d1,d2,d3,d4,d5⟩:=HY5.out E5 (Below.refl _ _)
  have Hy:=Lib.hid hy
  have Hys:=Lib.hid hys
  rw[hyv]
  clear hy hys hyv hyn hyl hyk hyT hyta hya hb5 hL5 hB5 ht5 b5 HRp p0 p1 p2 p3 p4 p5 q0 q1 q2 q3 q4 q5 HE3 HB3
  go_wp2_with fail
  refine HSz.out.mono ?_
  rintro e w6 ⟨⟨z,rfl,z1,z2,z3⟩,b6⟩
  have hB6:=HB5.out.trans (b6.mono HB5.out.size)
  have HE6:=Lib.hid (HB0.out.trans (hB6.mono HB0.out.size))
  by_cases hz:4000<z
  ·have e1:decide ((4000:Int)<(z:Int))=true:=decide_eq_true (by omega)
   clear HSz HB5 HL5 HY5 HTy HX HY HLater HLow HSv HBv HXn HBn HRv Hfb Hfx z1 z2 z3 hz b6 hB6 Hy Hys HYv d0 d1 d2 d3 d4 d5 hE5 hz5
   go_wp2
   go_ret
   exact⟨rfl,HE6.out⟩
  ·have e1:decide ((4000:Int)<(z:Int))=false:=decide_eq_false (by omega)
   have Hy4:Hid (y.size≤4000):=by
    have:=Hys.out
    by_cases q:y.size≤5000
    ·have:=z2 q;show _≤_;omega
    ·have:=z3 (by omega);omega
   have HB6:=Lib.hid hB6
   have HTy6:=Lib.hid (HTy.out.kept b6)
   have HY6:Hid (∀ W,Below w6.heap.size w6 W→_):=fun W hW=>HY5.out W (b6.trans (hW.mono b6.size))
   obtain⟨q0,q1,q2,q3,q4,q5⟩:=HY.out w6 hB6
   clear HSz HB5 HL5 HY5 HTy z1 z2 z3 hz b6 hB6 Hys d0 d1 d2 d3 d4 d5 hE5 hz5
   have HSS:Hid (∀ W,Below w6.heap.size w6 W→W.cell? ⟨w.heap.size,0,none⟩=some (.bool b.list)∧W.cell? ⟨w.heap.size,1,none⟩=some (.int .i64 b.k)∧W.cell? ⟨w.heap.size,2,none⟩=some (.string b.T)∧W.cell? ⟨w.heap.size,3,none⟩=some (.int .i64 b.ta)∧W.cell? ⟨w.heap.size,4,none⟩=some (.int .i64 b.at_)∧W.cell? ⟨w.heap.size,5,none⟩=some (.slice bA bn bc)):=fun W hW=>HY.out W (HB6.out.trans (hW.mono HB6.out.size))
   have HAt:=Lib.hid fun(W:World)=>katomS W nm
   have HR6:Hid (Below w6.heap.size w6 w6):=Below.refl _ _
   have HD6:Hid (Below w6.heap.size w6 w6.drew):=⟨rfl,rfl,rfl,Nat.le_refl _,fun _ _=>rfl⟩
   have hl6:w.heap.size<w6.heap.size:=by have:=HB0.out.size;have:=HB6.out.size;have:=hszb;have h9:=hlt0.out;omega
   go_upto_region 10 with fail
   go_cut [15] (fun p W=>∃ g1 g2 g3:Nat,p=.pointer (some ⟨g3,0,none⟩)∧Three w6 W 27 g1 g2 g3 (CB1 nm b bA bn bc) (CB2 g1 2) (CB2 g2 1))
   case first=>
    clear HLater HLow HSv HBv HXn HBn HRv Hfb Hfx HNm HTy6 HY6 Hy4 Hy HYv HX HY HB0 HE6
    go_region_law (first|(go_simp;go_at_call 25;refine(HAt.out _).mono ?_;rintro e w7 ⟨rfl,b7⟩;have hB7:Below w6.heap.size w6 w7:=Below.trans (by repeat(first|(with_reducible exact HR6.out)|(with_reducible exact HD6.out)|refine below_dr ?_|refine below_up ?_ _)) (b7.mono (by simp;try omega));obtain⟨k0,k1,k2,k3,k4,k5⟩:=HSS.out w7 hB7;have hl7:w.heap.size<w7.heap.size:=Nat.lt_of_lt_of_le hl6 hB7.size;first|(have hZ:Lies w7 w6.heap.size 27 Z6:=(Turn.of_below (F:=fun _=>False) b7).lies (Lies.new w6 _ _) id;have z0:=hZ.cell 0;have z1:=hZ.cell 1;have z2:=hZ.cell 2;have z3:=hZ.cell 3;have z4:=hZ.cell 4;have z5':=hZ.cell 5;have f0:=hZ.free 0;have f1:=hZ.free 1;have f2:=hZ.free 2;have f3:=hZ.free 3;have f4:=hZ.free 4;have f5:=hZ.free 5;have hl8:=hZ.lt;simp at z0 z1 z2 z3 z4 z5';clear b7)|clear b7))
    all_goals
     first
      |(obtain⟨w8,hw8⟩:∃ w8,(((w7.alloc (.cells #[.bool false,.int .i64 3,.string nm,.int .i64 0,.int .i64 0,.slice none 0 0,.bool b.list,.int .i64 b.k,.string b.T,.int .i64 b.ta,.int .i64 b.at_,.slice bA bn bc] 27)).alloc (.cells #[.bool true,.int .i64 0,.string ⟨#[]⟩,.int .i64 0,.int .i64 0,.slice (some ⟨w7.heap.size,0,none⟩) 2 2] 27)).alloc (.cells #[.bool true,.int .i64 0,.string ⟨#[]⟩,.int .i64 0,.int .i64 0,.slice (some ⟨w7.heap.size+1,0,none⟩) 1 1] 27))=w8:=⟨_,rfl⟩;rw[hw8];have hT:=Three.of hB7 27 #[.bool false,.int .i64 3,.string nm,.int .i64 0,.int .i64 0,.slice none 0 0,.bool b.list,.int .i64 b.k,.string b.T,.int .i64 b.ta,.int .i64 b.at_,.slice bA bn bc] (#[.bool true,.int .i64 0,.string ⟨#[]⟩,.int .i64 0,.int .i64 0,.slice (some ⟨w7.heap.size,0,none⟩) 2 2]) (#[.bool true,.int .i64 0,.string ⟨#[]⟩,.int .i64 0,.int .i64 0,.slice (some ⟨w7.heap.size+1,0,none⟩) 1 1]);rw[hw8] at hT;have hl1:=hT.l1;have hl2:=hT.l2;have hl3:=hT.l3;have hb8:=hT.below;have hn:=hT.new;clear hw8 hT)
      |(obtain⟨w8,hw8⟩:∃ w8,(((w7.alloc (.cells #[.bool false,.int .i64 3,.string nm,.int .i64 0,.int .i64 0,.slice none 0 0,.bool b.list,.int .i64 b.k,.string b.T,.int .i64 b.ta,.int .i64 b.at_,.slice bA bn bc] 27)).alloc (.cells #[.bool true,.int .i64 0,.string ⟨#[]⟩,.int .i64 0,.int .i64 0,.slice (some ⟨w7.heap.size+1+1,0,none⟩) 1 1] 27)).alloc (.cells #[.bool true,.int .i64 0,.string ⟨#[]⟩,.int .i64 0,.int .i64 0,.slice (some ⟨w7.heap.size,0,none⟩) 2 2] 27))=w8:=⟨_,rfl⟩;rw[hw8];have hT:=Three.of hB7 27 #[.bool false,.int .i64 3,.string nm,.int .i64 0,.int .i64 0,.slice none 0 0,.bool b.list,.int .i64 b.k,.string b.T,.int .i64 b.ta,.int .i64 b.at_,.slice bA bn bc] (#[.bool true,.int .i64 0,.string ⟨#[]⟩,.int .i64 0,.int .i64 0,.slice (some ⟨w7.heap.size+1+1,0,none⟩) 1 1]) (#[.bool true,.int .i64 0,.string ⟨#[]⟩,.int .i64 0,.int .i64 0,.slice (some ⟨w7.heap.size,0,none⟩) 2 2]);rw[hw8] at hT;have hl1:=hT.l1;have hl2:=hT.l3;have hl3:=hT.l2;have hb8:=hT.below;have hn:=hT.new;clear hw8 hT)
      |(obtain⟨w8,hw8⟩:∃ w8,(((w7.alloc (.cells #[.bool true,.int .i64 0,.string ⟨#[]⟩,.int .i64 0,.int .i64 0,.slice (some ⟨w7.heap.size+1+1,0,none⟩) 1 1] 27)).alloc (.cells #[.bool false,.int .i64 3,.string nm,.int .i64 0,.int .i64 0,.slice none 0 0,.bool b.list,.int .i64 b.k,.string b.T,.int .i64 b.ta,.int .i64 b.at_,.slice bA bn bc] 27)).alloc (.cells #[.bool true,.int .i64 0,.string ⟨#[]⟩,.int .i64 0,.int .i64 0,.slice (some ⟨w7.heap.size+1,0,none⟩) 2 2] 27))=w8:=⟨_,rfl⟩;rw[hw8];have hT:=Three.of hB7 27 #[.bool true,.int .i64 0,.string ⟨#[]⟩,.int .i64 0,.int .i64 0,.slice (some ⟨w7.heap.size+1+1,0,none⟩) 1 1] (#[.bool false,.int .i64 3,.string nm,.int .i64 0,.int .i64 0,.slice none 0 0,.bool b.list,.int .i64 b.k,.string b.T,.int .i64 b.ta,.int .i64 b.at_,.slice bA bn bc]) (#[.bool true,.int .i64 0,.string ⟨#[]⟩,.int .i64 0,.int .i64 0,.slice (some ⟨w7.heap.size+1,0,none⟩) 2 2]);rw[hw8] at hT;have hl1:=hT.l2;have hl2:=hT.l3;have hl3:=hT.l1;have hb8:=hT.below;have hn:=hT.new;clear hw8 hT)
      |(obtain⟨w8,hw8⟩:∃ w8,(((World.sixP w7 w6.heap.size (.bool true) (.int .i64 0) (.string ⟨#[]⟩) (.int .i64 0) (.int .i64 0) (.slice (some ⟨w7.heap.size+1,0,none⟩) 1 1)).alloc (.cells #[.bool false,.int .i64 3,.string nm,.int .i64 0,.int .i64 0,.slice none 0 0,.bool b.list,.int .i64 b.k,.string b.T,.int .i64 b.ta,.int .i64 b.at_,.slice bA bn bc] 27)).alloc (.cells #[.bool true,.int .i64 0,.string ⟨#[]⟩,.int .i64 0,.int .i64 0,.slice (some ⟨w7.heap.size,0,none⟩) 2 2] 27))=w8:=⟨_,rfl⟩;unfold World.sixP at hw8;rw[hw8];have hT:=Three.put hB7 hZ (Nat.le_refl _) (.bool true) (.int .i64 0) (.string ⟨#[]⟩) (.int .i64 0) (.int .i64 0) (.slice (some ⟨w7.heap.size+1,0,none⟩) 1 1) #[.bool false,.int .i64 3,.string nm,.int .i64 0,.int .i64 0,.slice none 0 0,.bool b.list,.int .i64 b.k,.string b.T,.int .i64 b.ta,.int .i64 b.at_,.slice bA bn bc] #[.bool true,.int .i64 0,.string ⟨#[]⟩,.int .i64 0,.int .i64 0,.slice (some ⟨w7.heap.size,0,none⟩) 2 2];unfold World.sixP at hT;rw[hw8] at hT;have hl1:=hT.l1;have hl2:=hT.l2;have hl3:=hT.l3;have hb8:=hT.below;have hn:=hT.new;clear hw8 hT)
     go_wp2_with fail
     go_meet
     exact⟨_,_,_,rfl,hb8,hl1,hl2,hl3,by omega⟩
   case rest=>
    obtain⟨g1,g2,g3,rfl,hTh⟩:=hcut
    have hB8:=HB6.out.trans (hTh.below.mono HB6.out.size)
    obtain⟨_,hcb,hT8,hK8,hG8⟩:=HLater.out wc hB8
    have hbeg:=hcb.begin Hfb.out hT8 hK8 (Below.refl _ wc)
    have HTm:=Lib.hid (hcb.term Hfb.out hG8 hbeg Tm.Inv.nil (Nat.zero_le _))
    rw[HBv.out] at HTm
    obtain⟨W9,hW9⟩:∃ W9,wc.alloc (.cells Z9 37)=W9:=⟨_,rfl⟩
    rw[hW9] at hbeg HTm
    have HSt:=Lib.hid (Bd.good (L.map (·.2)) n b [] [] Tm.Inv.nil (fun _ h=>(List.not_mem_nil h).elim))
    have HLe:=Lib.hid (Bd.tm_len (L.map (·.2)) n b [] [] (Nat.zero_le _))
    have HLets:=Lib.hid fun(he:(Bd.tm (L.map (·.2)) n [] [] b).2.2=0)=>letS_lets (L.map (·.2)) n nm b x y [] Tm.Inv.nil HRv.out Hy.out he
    have hroom:Hid (Mk.room (L.map (·.2)) n≤660):=(Hfb.out.ok fun d hd=>by
     obtain⟨q,hq,rfl⟩:=List.mem_map.1 hd
     exact hcb.dcs q hq).2 n (by rw[List.length_map,hcb.dc.len];exact Nat.le_refl _)
    have hfb:Sx.Fine b:=Sx.Fine.of _ b (Nat.le_refl _) (by have:=Hfb.out.size;omega) hcb.wide
    have hfx:Sx.Fine x:=Sx.Fine.of _ x (Nat.le_refl _) (by have:=Hfx.out.size;omega) (HLater.out wc hB8).1.wide
    have HFl:=Lib.hid (letS_fine HNm.out hfb hfx)
    have HFy:=Lib.hid (Bd.repl_fine hfb x.size x y (Nat.le_refl _) hfx Hy.out)
    have HSl:Hid ((letS nm b x).size≤1205):=by
     have:=letS_size nm b x
     have:=Hfb.out.size
     have:=Hfx.out.size
     show _≤_
     omega
    obtain⟨T,hTT⟩:∃ T,Bd.tm (L.map (·.2)) n [] [] b=T:=⟨_,rfl⟩
    rw[hTT] at HTm HSt HLe HLets
    obtain⟨N1,idz,er⟩:=T
    simp only at HLe HLets
    obtain⟨⟨hI1,_⟩,hok⟩:=HSt.out
    simp only[hTT] at hI1
    have HI1:Hid (Tm.Inv N1):=hI1
    have HOk:Hid ((er=0→0≤idz∧idz<(N1.length:Int))∧(er≠0→idz=0)):=hok
    obtain⟨q0,q1,q2,q3,q4,q5⟩:=HY.out W9 (hB8.trans (hbeg.base.mono hB8.size))
    have HBeg:=Lib.hid hbeg
    have HB8:=Lib.hid hB8
    have HG8:=Lib.hid hG8
    have HTh:=Lib.hid hTh
    have HW8:=Lib.hid hTh.below
    have HTyL:=Lib.hid (HTy6.out.low)
    clear hTh hB8 hcb hT8 hK8 hG8 hbeg hfb hfx hTT hI1 hok HSt HAt HSS HR6 HD6 hl6 HRv Hy Hfb Hfx HNm HBv HE6
    go_wp2_with fail
    refine HTm.out.mono ?_
    rintro e w10 ⟨rfl,F1,k1,t1,f1⟩
    have hb10:=HBeg.out.next k1 t1 f1
    clear HTm HBeg k1 t1 f1 q0 q1 q2 q3 q4 q5
    by_cases he:er=0
    case neg=>
     obtain rfl:=HOk.out.2 he
     have d1:(er != 0)=true:=by simpa using he
     have HE:=Lib.hid (HB0.out.trans ((HB8.out.trans (hb10.base.mono HB8.out.size)).mono HB0.out.size))
     clear HOk he hb10 HLets HI1 HLe hroom HFl HFy HSl HTh HB8 HG8 HX HY HLater HLow HSv HXn HBn HTy6 HTyL HW8 HY6 Hy4 HYv HB0 HB6
     go_wp2
     go_ret
     exact⟨rfl,HE.out⟩
    case pos=>
     subst he
     have HB10:=Lib.hid hb10
     obtain⟨R,hR⟩:∃ R,Bd.tm (L.map (·.2)) n [] N1 (letS nm b x)=R:=⟨_,rfl⟩
     have hSt2:=Bd.good (L.map (·.2)) n (letS nm b x) [] N1 HI1.out (fun _ h=>(List.not_mem_nil h).elim)
     have hLe2:=Bd.tm_len (L.map (·.2)) n (letS nm b x) [] N1 HLe.out
     have hLets:=HLets.out rfl
     rw[hR] at hSt2 hLe2 hLets
     have hI2:=hSt2.1.1
     simp only[hR] at hI2
     have HI2:=Lib.hid hI2
     have HLe2:=Lib.hid hLe2
     have HLt:=Lib.hid hLets
     have hLS:∀ W,Below w10.heap.size w10 W→LS g3 g2 (w.heap.size+1) x xA xn xc W:=fun W hW=>by
      have h0:=HB10.out.base
      have hl:=(Turn.of_below (F:=fun _=>False) (h0.trans (hW.mono h0.size))).lies HTh.out.l3 id
      obtain⟨a0,a1,a2,a3,a4,a5⟩:=HX.out W (HB8.out.trans ((h0.trans (hW.mono h0.size)).mono HB8.out.size))
      exact⟨hl.cell 0,hl.cell 1,hl.cell 2,hl.cell 3,hl.cell 4,hl.cell 5,a0,a1,a2,a3,a4,a5⟩
     have HN:Hid (Calls Tryz.prog 25 #[.string letName] w10.drew fun e w11=>e=.returned (.agg #[.bool false,.int .i64 3,.string letName,.int .i64 0,.int .i64 0,.slice none 0 0])∧LS g3 g2 (w.heap.size+1) x xA xn xc w11∧LS g3 g2 (w.heap.size+1) x xA xn xc (w11.alloc (.cells (CB4 g2 x xA xn xc) 27))∧
       Calls Tryz.prog 12 #[.pointer (some ⟨wc.heap.size,0,none⟩),.slice A n c,.agg #[.bool true,.int .i64 0,.string ⟨#[]⟩,.int .i64 0,.int .i64 0,.slice (some ⟨w11.heap.size,0,none⟩) 3 3]] (w11.alloc (.cells (CB4 g2 x xA xn xc) 27)) fun e w'=>BAns w10 wc.heap.size F1 R e w'∧LS g3 g2 (w.heap.size+1) x xA xn xc w'):=by
      refine(katomS w10.drew letName).mono ?_
      rintro e w11 ⟨rfl,b11⟩
      have hb11:Below w10.heap.size w10 w11:=(below_dr (Below.refl _ w10)).trans b11
      have hb12:Below w10.heap.size w10 (w11.alloc (.cells (CB4 g2 x xA xn xc) 27)):=hb11.alloc hb11.size _
      have l4:=Lies.new w11 27 (CB4 g2 x xA xn xc)
      refine⟨rfl,hLS _ hb11,hLS _ hb12,?_⟩
      generalize w11.alloc (.cells (CB4 g2 x xA xn xc) 27)=W12 at*
      have hbeg:=HB10.out.below hb12
      have h0:=HB10.out.base
      have h02:=h0.trans (hb12.mono h0.size)
      have h82:=HB8.out.trans (h02.mono HB8.out.size)
      have tt:=Turn.of_below (F:=fun _=>False) h02
      have hw0:=HB0.out.size
      have hw1:=HB8.out.size
      have hlo:=HB10.out.low
      have hup:=HB10.out.bk.lt
      have htree:STree W12 (fun k _=>¬F1 k) (letS nm b x) (some ⟨w11.heap.size,0,none⟩) 3:=letS_tree HBn.out HXn.out (tt.lies HTh.out.l1 id) (tt.lies HTh.out.l2 id) l4
       ((HLow.out W12 h82).2.mono' fun k _ _ hk e=>by have:=hlo k e;omega) ((HLow.out W12 h82).1.mono' fun k _ _ hk e=>by have:=hlo k e;omega) fun g hg _ e=>by
        have a1:=HTh.out.l1.lt
        have a2:=HTh.out.l2.lt
        have a3:=hlo g e
        have a4:=hup g e
        have a5:=hb11.size
        rcases hg with rfl|rfl|rfl <;> omega
      have hk:=kTerm wc W12 wc.heap.size F1 N1 A n c L (letS nm b x) (some ⟨w11.heap.size,0,none⟩) 3 hbeg HG8.out HI1.out HLe.out htree HFl.out (by have:=HSl.out;have:=hroom.out;omega)
      rw[hR] at hk
      refine hk.mono ?_
      intro e w' hq
      refine⟨hq.up hb12,?_⟩
      obtain⟨_,F2,_,t2,_⟩:=hq
      have l3:=t2.lies (tt.lies HTh.out.l3 id) fun e=>by have a3:=hlo g3 e;have:=HTh.out.l3.lt;omega
      obtain⟨a0,a1,a2,a3,a4,a5⟩:=HX.out w' (HB8.out.trans ((t2.below h02.size hlo|>h02.trans).mono HB8.out.size))
      exact⟨l3.cell 0,l3.cell 1,l3.cell 2,l3.cell 3,l3.cell 4,l3.cell 5,a0,a1,a2,a3,a4,a5⟩
     have HS:=Lib.hid (hLS w10.drew (below_dr (Below.refl _ w10)))
     obtain⟨N2,u,f⟩:=R
     simp only at HLt HI2 HLe2
     clear hSt2 hLe2 hLets hI2 hR hLS hb10 HOk HLets HTh HFl HSl HLow HBn HXn HI1 HLe HX HY
     go_wp2_with fail
     go_region_held3 (LS g3 g2 (w.heap.size+1) x xA xn xc)
      (first|exact HS.out|assumption)
      (first|(go_at_call 25;refine HN.out.mono ?_;rintro e w11 ⟨rfl,hk1,hk2,hg⟩)|(go_at_call 12;refine Calls.mono (by assumption) ?_;rintro e w12 ⟨⟨rfl,v⟩,hk3⟩))
     all_goals
      obtain⟨F2,k2,t2,f2⟩:=v
      have hb12:=HB10.out.next k2 t2 f2
      have hW12:Below w6.heap.size w6 w12:=HW8.out.trans (hb12.base.mono HW8.out.size)
      have hTy12:STree w12 (fun k _=>¬F2 k) y yA yc:=(HTyL.out.kept hW12).mono' fun k _ _ hk e=>by have:=hb12.low k e;have:=HW8.out.size;omega
      have hk:=kTerm wc w12 wc.heap.size F2 N2 A n c L y yA yc hb12 HG8.out HI2.out HLe2.out hTy12 HFy.out (by have:=Hy4.out;have:=hroom.out;omega)
      rw[HLt.out,HYv.out] at hk
      have HK:=Lib.hid hk
      obtain⟨q0,q1,q2,q3,q4,q5⟩:=HY6.out w12 hW12
      have HB12:=Lib.hid hb12
      clear hk hTy12 hW12 hb12 k2 t2 f2 HLt HI2 HLe2 HFy Hy4 hroom HTy6 HTyL HW8 HY6 HN HS HB10 HG8 HSv HYv
      go_wp2_with fail
      refine HK.out.mono ?_
      rintro e w13 ⟨rfl,F3,k3,t3,f3⟩
      have hb13:=(HB12.out.next k3 t3 f3).base
      have HE:=Lib.hid (HB0.out.trans ((HB8.out.trans (hb13.mono HB8.out.size)).mono HB0.out.size))
      clear HK HB12 hb13 k3 t3 f3 HB8 HB0 HB6 q0 q1 q2 q3 q4 q5 HLater
      go_wp2
      go_ret
      exact⟨rfl,HE.out⟩
 ·have HE:=Lib.hid (HE3.out.trans (b5.mono HE3.out.size))
  rw[HSv.out]
  clear HX HY HLater HLow HSv HBv HXn HBn HRv HRp hy b5 Hfb Hfx p0 p1 p2 p3 p4 p5 q0 q1 q2 q3 q4 q5
  go_wp2
  go_ret
  exact⟨rfl,(HE.out.alloc HE.out.size _)⟩
end Go.Proofs.YtcgaeknikfaghaaGreatDoor
