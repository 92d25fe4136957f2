/- What the proofs of this claim use, text by text. -/
import Derived.Test.YtcgaeknikfaghaaGreatDoorQD04
import Derived.Deep.RegionHeld3
import Derived.IntWalk
import Derived.Deep.RegionWith
import Derived.Test.YtcgaeknikfaghaaGreatDoorQD05
import Derived.Lib.SmallJoins
import Derived.ProofKit
import Derived.OpenShut
import Derived.ShutString
import Derived.ChangeOld
import Derived.Below
import Derived.Test.YtcgaeknikfaghaaGreatDoorQD02
import Derived.Laws.AppendOwnNone
set_option linter.unusedSimpArgs false
set_option linter.unusedVariables false
set_option maxRecDepth 100000
set_option maxHeartbeats 25600000
namespace Go.Proofs.YtcgaeknikfaghaaGreatDoor
open Go.RowKit
structure Box (w:World) (b:Nat) (g:Bool) (A:Option Addr) (n c:Nat):Prop where
 c0:w.cell? ⟨b,0,none⟩=some (.bool g)
 c1:w.cell? ⟨b,1,none⟩=some (.slice A n c)
 lt:b<w.heap.size
 fr:∀ i,w.frozen? ⟨b,i,none⟩=false
theorem Box.new (w:World) (g:Bool) (A:Option Addr) (n c:Nat):Box (w.alloc (.cells #[.bool g,.slice A n c] 47)) w.heap.size g A n c:=⟨by simp,by simp,by simp,fun i=>by simp⟩
theorem Box.below {w w':World} {b B:Nat} {g:Bool} {A:Option Addr} {n c:Nat} (h:Box w b g A n c) (hb:Below B w w') (hB:b<B):Box w' b g A n c:=
 ⟨(hb.cell (p:=⟨b,0,none⟩) hB).trans h.c0,(hb.cell (p:=⟨b,1,none⟩) hB).trans h.c1,Nat.lt_of_lt_of_le h.lt hb.size,fun i=>(hb.frozen (p:=⟨b,i,none⟩) hB).trans (h.fr i)⟩
theorem keep1 {w W w1:World} {b:Nat} {g:Bool} {A:Option Addr} {n c:Nat} (hk:Below W.heap.size W w1)
  (h:W.cell? ⟨b,0,none⟩=some (.bool g)∧W.cell? ⟨b,1,none⟩=some (.slice A n c)∧b<W.heap.size∧Below w.heap.size w W):
  w1.cell? ⟨b,0,none⟩=some (.bool g)∧w1.cell? ⟨b,1,none⟩=some (.slice A n c)∧b<w1.heap.size∧Below w.heap.size w w1:=
 ⟨(hk.cell (p:=⟨b,0,none⟩) h.2.2.1).trans h.1,(hk.cell (p:=⟨b,1,none⟩) h.2.2.1).trans h.2.1,Nat.lt_of_lt_of_le h.2.2.1 hk.size,h.2.2.2.trans (hk.mono h.2.2.2.size)⟩
def WNum (w:World) (v:Value) (z:Int):Prop:=∃ u,v=.agg #[.bool (decide (z<0)),u]∧Num w u z.natAbs
def WIn (w:World) (g:Bool) (A:Option Addr) (n c:Nat) (z:Int):Prop:=In w A n c z.natAbs∧Z.sg g z.natAbs=z
theorem WIn.below {w w':World} {g:Bool} {A:Option Addr} {n c:Nat} {z:Int} (h:WIn w g A n c z) (hb:Below w.heap.size w w'):WIn w' g A n c z:=⟨h.1.below hb,h.2⟩
theorem teller_any (d:Bool) (w:World):
  Calls Tryz.prog 215 #[.bool d] w fun e w'=>∃ b,e=.returned (.func (.func 232) #[] #[.pointer (some ⟨b,0,none⟩)])∧w'.cell? ⟨b,0,none⟩=some (.bool d)∧b<w'.heap.size∧w.heap.size≤b∧Below w.heap.size w w':=by
 go_enter Tryz.func215,Tryz.ntmps215
 go_wp2
 go_ret
 exact⟨w.heap.size,rfl,by simp,by simp,Nat.le_refl _,(Below.refl _ _).alloc (Nat.le_refl _) _⟩
theorem tell_any (d g:Bool) (A:Option Addr) (n c b:Nat) (z:Int) (w:World) (h:WIn w g A n c z) (hb:b<w.heap.size) (hc:w.cell? ⟨b,0,none⟩=some (.bool d)):
  Calls Tryz.prog 232 #[.agg #[.bool g,.slice A n c],.pointer (some ⟨b,0,none⟩)] w fun e w'=>e=.returned (.int .i64 (Z.sgn (if d then -z else z)))∧Below w.heap.size w w':=by
 have hC:=Lib.hid fun(W:World) (q:In W A n c z.natAbs)=>cmp_num q (show In W none 0 0 0 from⟨[],Lims.nil_ _ _,rfl,Nat.le_refl _,by unfold maxLen;omega,by omega⟩)
 obtain⟨hI,hs⟩:=h
 have hI:=Lib.hid (hI.below ((Below.refl _ _).alloc (Nat.le_refl _) (Obj.cells #[.bool g,.slice A n c] 47)))
 have hB:=Box.new w g A n c
 have hb0:Below w.heap.size w (w.alloc (Obj.cells #[.bool g,.slice A n c] 47)):=(Below.refl _ _).alloc (Nat.le_refl _) _
 have hsz:(w.alloc (Obj.cells #[.bool g,.slice A n c] 47)).heap.size=w.heap.size+1:=by simp
 obtain⟨r,HR⟩:∃ r,Hid (r=Z.sgn (if d then -z else z)):=⟨_,rfl⟩
 rw[←HR.out]
 obtain⟨k,HK⟩:∃ k,Hid (M.cmpI z.natAbs 0=k):=⟨_,rfl⟩
 rw[HK.out] at hC
 have hcase:(k=0∧r=0)∨(k≠0∧(g != d)=true∧r= -1)∨(k≠0∧(g != d)=false∧r=1):=by
  rw[HR.out,←HK.out]
  rcases Nat.eq_zero_or_pos z.natAbs with e|e
  ·left
   rw[e]
   obtain rfl:z=0:=by omega
   cases d <;> exact⟨rfl,rfl⟩
  ·rw[M.cmpI_gt e]
   right
   revert hs
   cases g <;> cases d <;> simp only[Z.sg_true,Z.sg_false,Bool.false_eq_true,if_true,if_false] <;> intro hs
   ·exact .inr ⟨by omega,rfl,Z.sgn_pos (by omega)⟩
   ·exact .inl ⟨by omega,rfl,Z.sgn_neg (by omega)⟩
   ·exact .inl ⟨by omega,rfl,Z.sgn_neg (by omega)⟩
   ·exact .inr ⟨by omega,rfl,Z.sgn_pos (by omega)⟩
 rcases hcase with⟨rfl,rfl⟩|⟨hk,hg,rfl⟩|⟨hk,hg,rfl⟩
 ·go_enter Tryz.func232,Tryz.ntmps232
  go_wp2_with fail
  refine(hC.out _ hI.out).mono ?_
  rintro e w1 ⟨rfl,b1⟩
  have b2:Below w.heap.size w w1:=hb0.trans (b1.mono (by omega))
  clear hB hb0 hsz
  go_wp2_with fail
  go_ret
  exact⟨rfl,b2⟩
 all_goals
  clear hs HR HK
  revert hg
  cases g <;> cases d <;> intro hg <;> first
  |exact absurd hg (by decide)
  |clear hg
   go_enter Tryz.func232,Tryz.ntmps232
   go_wp2_with fail
   refine(hC.out _ hI.out).mono ?_
   rintro e w1 ⟨rfl,b1⟩
   have b2:Below w.heap.size w w1:=hb0.trans (b1.mono (by omega))
   obtain⟨x0,x1,x2,x3⟩:=hB.below b1 (by omega)
   have y0:=b2.cell (p:=⟨b,0,none⟩) hb
   rw[hc] at y0
   have y1:b<w1.heap.size:=Nat.lt_of_lt_of_le hb b2.size
   clear hB hb0 hsz
   go_wp2_with fail
   go_ret
   exact⟨rfl,b2⟩
theorem sign_w (g:Bool) (A:Option Addr) (n c:Nat) (z:Int) (w:World) (h:WIn w g A n c z):
  Calls Tryz.prog 199 #[.agg #[.bool g,.slice A n c]] w fun e w'=>e=.returned (.int .i64 (Z.sgn z))∧Below w.heap.size w w':=by
 have hT:=Lib.hid fun(W:World)=>teller_any false W
 have hU:=Lib.hid fun(b:Nat) (W:World) (q1:W.cell? ⟨w.heap.size,0,none⟩=some (.bool g)∧W.cell? ⟨w.heap.size,1,none⟩=some (.slice A n c)∧w.heap.size<W.heap.size∧Below w.heap.size w W) (q2:b<W.heap.size) (q3:W.cell? ⟨b,0,none⟩=some (.bool false))=>tell_any false g A n c b z W (h.below q1.2.2.2) q2 q3
 clear h
 have hb0:Below w.heap.size w (w.alloc (Obj.cells #[.bool g,.slice A n c] 47)).drew:=((Below.refl _ _).alloc (Nat.le_refl _) _).drew
 go_enter Tryz.func199,Tryz.ntmps199
 go_wp2_with fail
 go_region_held3 (fun w'=>w'.cell? ⟨w.heap.size,0,none⟩=some (.bool g)∧w'.cell? ⟨w.heap.size,1,none⟩=some (.slice A n c)∧w.heap.size<w'.heap.size∧Below w.heap.size w w')
  (first|exact keep1 (by assumption) (by assumption)|exact⟨by simp,by simp,by simp,by assumption⟩)
  (first|(go_at_call 215;refine(hT.out _).mono ?_;rintro e w1 ⟨b,rfl,t1,t2,t3,b1⟩)|(go_at_call 232;refine(hU.out _ _ ?_ ?_ ?_).mono ?_;assumption;assumption;assumption;rintro e w2 ⟨rfl,b2⟩))
 rename_i hh
 go_wp2_with fail
 go_ret
 exact⟨rfl,hh.2.2.2⟩
def Room (w:World) (R:Nat):Prop:=∃ g A n c,Box w R g A n c
theorem Room.new (w:World) (g:Bool) (A:Option Addr) (n c:Nat):Room (w.alloc (.cells #[.bool g,.slice A n c] 47)) w.heap.size:=⟨_,_,_,_,Box.new w g A n c⟩
abbrev World.room (w:World) (R:Nat) (x u:Value):World:=(w.setCell ⟨R,0,none⟩ x).setCell ⟨R,1,none⟩ u
theorem far_room (w:World) (R:Nat) (x u:Value) {p:Addr} (h:p.block≠R):(World.room w R x u).cell? p=w.cell? p:=by
 have h0:(w.setCell ⟨R,0,none⟩ x).heap[p.block]?=w.heap[p.block]?:=Below.heap_setCell w ⟨R,0,none⟩ x p.block h
 have h1:(World.room w R x u).heap[p.block]?=(w.setCell ⟨R,0,none⟩ x).heap[p.block]?:=Below.heap_setCell _ ⟨R,1,none⟩ u p.block h
 exact World.cell?_of_block (h1.trans h0)
theorem room_size (w:World) (R:Nat) (x u:Value):(World.room w R x u).heap.size=w.heap.size:=by simp[World.room,World.setCell]
end Go.Proofs.YtcgaeknikfaghaaGreatDoor
namespace Go.Proofs.YtcgaeknikfaghaaGreatDoor
open Go.RowKit
theorem box_room {w:World} {R b:Nat} {x u:Value} {g:Bool} {A:Option Addr} {n c:Nat} (h:Box w b g A n c) (hne:b≠R):Box (World.room w R x u) b g A n c:=
 ⟨(far_room w R x u (p:=⟨b,0,none⟩) hne).trans h.c0,(far_room w R x u (p:=⟨b,1,none⟩) hne).trans h.c1,by rw[room_size];exact h.lt,fun i=>by simp[World.room,h.fr i]⟩
theorem room_room {w:World} {R b:Nat} {x:Bool} {A:Option Addr} {n c:Nat} (h:Room w b) (r:Room w R):Room (World.room w R (.bool x) (.slice A n c)) b:=by
 by_cases e:b=R
 ·subst e
  obtain⟨g,A',n',c',r0,r1,r2,r3⟩:=r
  refine⟨x,A,n,c,?_,?_,by rw[room_size];exact r2,fun i=>by simp[World.room,r3 i]⟩
  ·rw[World.cell?_setCell_other _ _ _ _ (fun e=>by injection e with _ e;omega)]
   exact World.cell?_setCell_same _ _ _ r0
  ·exact World.cell?_setCell_same _ _ _ ((World.cell?_setCell_other _ _ _ _ (fun e=>by injection e with _ e;omega)).trans r1)
 ·obtain⟨g,A',n',c',h⟩:=h
  exact⟨g,A',n',c',box_room h e⟩
theorem below_room {B:Nat} {a w:World} (h:Below B a w) {R:Nat} (hR:B≤R) (x u:Value):Below B a (World.room w R x u):=(h.setCell hR x).setCell hR u
structure Held1 (w:World) (g:Bool) (A:Option Addr) (n c k:Nat) (W:World):Prop where
 box:Box W w.heap.size g A n c
 room:∀ i,i<k→Room W (w.heap.size+1+i)
 bel:Below w.heap.size w W
theorem Held1.below {w W w1:World} {g:Bool} {A:Option Addr} {n c k:Nat} (h:Held1 w g A n c k W) (hk:Below W.heap.size W w1):Held1 w g A n c k w1:=
 ⟨h.box.below hk h.box.lt,fun i hi=>by obtain⟨g',A',n',c',r⟩:=h.room i hi;exact⟨g',A',n',c',r.below hk r.lt⟩,h.bel.trans (hk.mono h.bel.size)⟩
theorem Held1.s {w W:World} {g:Bool} {A:Option Addr} {n c k:Nat} (h:Held1 w g A n c k W):W.cell? ⟨w.heap.size,0,none⟩=some (.bool g)∧W.cell? ⟨w.heap.size,1,none⟩=some (.slice A n c)∧Held1 w g A n c k W:=⟨h.box.c0,h.box.c1,h⟩
theorem Held1.keep {w W w1:World} {g:Bool} {A:Option Addr} {n c k:Nat} (hk:Below W.heap.size W w1) (h:W.cell? ⟨w.heap.size,0,none⟩=some (.bool g)∧W.cell? ⟨w.heap.size,1,none⟩=some (.slice A n c)∧Held1 w g A n c k W):w1.cell? ⟨w.heap.size,0,none⟩=some (.bool g)∧w1.cell? ⟨w.heap.size,1,none⟩=some (.slice A n c)∧Held1 w g A n c k w1:=(h.2.2.below hk).s
theorem Held1.zero (w:World) (g:Bool) (A:Option Addr) (n c:Nat):Held1 w g A n c 0 (w.alloc (.cells #[.bool g,.slice A n c] 47)):=
 ⟨Box.new w g A n c,fun i hi=>absurd hi (by omega),(Below.refl _ _).alloc (Nat.le_refl _) _⟩
theorem Held1.one (w:World) (g:Bool) (A:Option Addr) (n c:Nat):Held1 w g A n c 1 ((w.alloc (.cells #[.bool g,.slice A n c] 47)).alloc (.cells #[.bool false,.slice none 0 0] 47)):=by
 have h:=(Held1.zero w g A n c).below ((Below.refl _ _).alloc (Nat.le_refl _) (.cells #[.bool false,.slice none 0 0] 47))
 refine⟨h.box,fun i hi=>?_,h.bel⟩
 obtain rfl:i=0:=by omega
 have:=Room.new (w.alloc (.cells #[.bool g,.slice A n c] 47)) false none 0 0
 simpa using this
theorem Held1.drew {w W:World} {g:Bool} {A:Option Addr} {n c k:Nat} (h:Held1 w g A n c k W):Held1 w g A n c k W.drew:=h.below (Below.refl _ _).drew
theorem Held1.set {w W:World} {g:Bool} {A:Option Addr} {n c k:Nat} (h:Held1 w g A n c k W) {i:Nat} (hi:i<k) {x:Bool} {A':Option Addr} {n' c':Nat}:Held1 w g A n c k (World.room W (w.heap.size+1+i) (.bool x) (.slice A' n' c')):=
 ⟨box_room h.box (by omega),fun j hj=>room_room (h.room j hj) (h.room i hi),below_room h.bel (by omega) _ _⟩
theorem Held1.set1 {w W:World} {g:Bool} {A:Option Addr} {n c:Nat} {x:Bool} {A':Option Addr} {n' c':Nat} (h:W.cell? ⟨w.heap.size,0,none⟩=some (.bool g)∧W.cell? ⟨w.heap.size,1,none⟩=some (.slice A n c)∧Held1 w g A n c 1 W):(World.room W (w.heap.size+1) (.bool x) (.slice A' n' c')).cell? ⟨w.heap.size,0,none⟩=some (.bool g)∧(World.room W (w.heap.size+1) (.bool x) (.slice A' n' c')).cell? ⟨w.heap.size,1,none⟩=some (.slice A n c)∧Held1 w g A n c 1 (World.room W (w.heap.size+1) (.bool x) (.slice A' n' c')):=(h.2.2.set (i:=0) (by omega)).s
end Go.Proofs.YtcgaeknikfaghaaGreatDoor
namespace Go.Proofs.YtcgaeknikfaghaaGreatDoor
open Go.RowKit
theorem room_cells {w:World} {R:Nat} {x u:Value} (r:Room w R):(World.room w R x u).cell? ⟨R,0,none⟩=some x∧(World.room w R x u).cell? ⟨R,1,none⟩=some u∧R<(World.room w R x u).heap.size:=by
 obtain⟨g,A',n',c',r0,r1,r2,r3⟩:=r
 refine⟨?_,?_,by rw[room_size];exact r2⟩
 ·rw[World.cell?_setCell_other _ _ _ _ (fun e=>by injection e with _ e;omega)]
  exact World.cell?_setCell_same _ _ _ r0
 ·exact World.cell?_setCell_same _ _ _ ((World.cell?_setCell_other _ _ _ _ (fun e=>by injection e with _ e;omega)).trans r1)
end Go.Proofs.YtcgaeknikfaghaaGreatDoor
namespace Go.Proofs.YtcgaeknikfaghaaGreatDoor
open Go.RowKit
end Go.Proofs.YtcgaeknikfaghaaGreatDoor
namespace Go.Proofs.YtcgaeknikfaghaaGreatDoor
open Go.RowKit
end Go.Proofs.YtcgaeknikfaghaaGreatDoor
namespace Go.Proofs.YtcgaeknikfaghaaGreatDoor
open Go.RowKit
end Go.Proofs.YtcgaeknikfaghaaGreatDoor
namespace Go.Proofs.YtcgaeknikfaghaaGreatDoor
open Go.RowKit
end Go.Proofs.YtcgaeknikfaghaaGreatDoor
namespace Go.Proofs.YtcgaeknikfaghaaGreatDoor
open Go.RowKit
end Go.Proofs.YtcgaeknikfaghaaGreatDoor
namespace Go.Proofs.YtcgaeknikfaghaaGreatDoor
open Go.RowKit
end Go.Proofs.YtcgaeknikfaghaaGreatDoor
namespace Go.Proofs.YtcgaeknikfaghaaGreatDoor
open Go.RowKit
end Go.Proofs.YtcgaeknikfaghaaGreatDoor
namespace Go.Proofs.YtcgaeknikfaghaaGreatDoor
open Go.RowKit
structure BoxZ (W:World) (b:Nat) (g:Bool) (A:Option Addr) (n c:Nat) (z:Int):Prop where
 box:Box W b g A n c
 num:WIn W g A n c z
structure Loc where
 b:Nat
 g:Bool
 A:Option Addr
 n:Nat
 c:Nat
 z:Int
def HL (w:World) (L M:List Loc) (W:World):Prop:=(∀ x∈L,BoxZ W x.b x.g x.A x.n x.c x.z)∧(∀ x∈M,WNum W (.agg #[.bool x.g,.slice x.A x.n x.c]) x.z)∧Below w.heap.size w W
end Go.Proofs.YtcgaeknikfaghaaGreatDoor
namespace Go.Proofs.YtcgaeknikfaghaaGreatDoor
open Go.RowKit Go.ChangeShapes Go.WideShapes Go.Joins
end Go.Proofs.YtcgaeknikfaghaaGreatDoor
namespace Go.Proofs.YtcgaeknikfaghaaGreatDoor
open Go.RowKit
structure NdP where
 A:Option Addr
 n:Nat
 c:Nat
 g:Bool
 B:Option Addr
 m:Nat
 d:Nat
 C:Option Addr
 p:Nat
 f:Nat
abbrev NdP.cells (P:NdP) (x:Nd):Array Value:=#[.int .i64 x.op,.int .i64 x.sort,.slice P.A P.n P.c,.string x.name,.bool P.g,.slice P.B P.m P.d,.slice P.C P.p P.f]
def Gs (G:Nat→Prop) (A:Option Addr) (n:Nat):Prop:=∀ a,A=some a→0<n→G a.block
theorem Gs.zero (G:Nat→Prop) (A:Option Addr):Gs G A 0:=fun _ _ h=>absurd h (by decide)
theorem Gs.mono {G G':Nat→Prop} {A:Option Addr} {n:Nat} (h:Gs G A n) (hG:∀ k,G k→G' k):Gs G' A n:=fun a e hn=>hG _ (h a e hn)
theorem NumS.turn {F G:Nat→Prop} {w w':World} {A:Option Addr} {n:Nat} {l:List Int} (h:NumS w A n l) (hT:Turn F w w') (hg:Gs G A n) (hG:∀ k,G k→¬F k):NumS w' A n l:=
 ⟨h.len,fun hn=>by
  obtain⟨b,off,e,hlt,hc⟩:=h.at_ hn
  have hb:=hG _ (hg _ e hn)
  exact⟨b,off,e,Nat.lt_of_lt_of_le hlt hT.size,fun i x hx=>(hT.cell (p:=⟨b,off+i,none⟩) hlt hb).trans (hc i x hx)⟩⟩
theorem RunS.turn {F G:Nat→Prop} {w w':World} {A:Option Addr} {n:Nat} {l:List (Int×Int)} (h:RunS w A n l) (hT:Turn F w w') (hg:Gs G A n) (hG:∀ k,G k→¬F k):RunS w' A n l:=
 ⟨h.len,fun hn=>by
  obtain⟨b,off,e,hlt,hc⟩:=h.at_ hn
  have hb:=hG _ (hg _ e hn)
  exact⟨b,off,e,Nat.lt_of_lt_of_le hlt hT.size,fun i x hx=>⟨(hT.cell (p:=⟨b,off+i*2,none⟩) hlt hb).trans (hc i x hx).1,(hT.cell (p:=⟨b,off+i*2+1,none⟩) hlt hb).trans (hc i x hx).2⟩⟩⟩
structure NdAs (w:World) (G:Nat→Prop) (P:NdP) (x:Nd):Prop where
 a:NumS w P.A P.n x.a
 num:WIn w P.g P.B P.m P.d (x.num:Int)
 str:RunS w P.C P.p x.str
 few:P.n≤1000000∧P.m≤2000∧P.p≤1000000
 g:Gs G P.A P.n∧Gs G P.B P.m∧Gs G P.C P.p
theorem NdAs.mono {w:World} {G G':Nat→Prop} {P:NdP} {x:Nd} (h:NdAs w G P x) (hG:∀ k,G k→G' k):NdAs w G' P x:=⟨h.a,h.num,h.str,h.few,h.g.1.mono hG,h.g.2.1.mono hG,h.g.2.2.mono hG⟩
end Go.Proofs.YtcgaeknikfaghaaGreatDoor
namespace Go.Proofs.YtcgaeknikfaghaaGreatDoor
open Go.RowKit
theorem flat_len {α:Type} {k:Nat} {f:α→List Value} (hk:∀ a,(f a).length=k):∀ L:List α,(L.flatMap f).length=L.length*k
 |[]=>by simp
 |a::L=>by rw[List.flatMap_cons,List.length_append,hk,flat_len hk L,List.length_cons,Nat.succ_mul];omega
theorem flat_get {α:Type} {k:Nat} {f:α→List Value} (hk:∀ a,(f a).length=k):∀ (L:List α) (i j:Nat) (a:α),L[i]?=some a→j<k→(L.flatMap f)[i*k+j]?=(f a)[j]?
 |[],i,j,a,h,_=>by simp at h
 |b::L,0,j,a,h,hj=>by
  obtain rfl:b=a:=by simpa using h
  rw[List.flatMap_cons,List.getElem?_append_left (by rw[hk];omega)]
  congr 1
  omega
 |b::L,i+1,j,a,h,hj=>by
  rw[List.flatMap_cons,List.getElem?_append_right (by rw[hk,Nat.succ_mul];omega),hk,←flat_get hk L i j a (by simpa using h) hj]
  congr 1
  rw[Nat.succ_mul]
  omega
abbrev ncell (q:NdP×Nd):List Value:=(q.1.cells q.2).toList
abbrev ncells (L:List (NdP×Nd)):List Value:=L.flatMap ncell
theorem nc_one (L:List (NdP×Nd)):∀ u∈ncells L,u.oneCell'=true:=by
 intro u hu
 obtain⟨q,_,hu⟩:=List.mem_flatMap.1 hu
 simp[ncell] at hu
 rcases hu with rfl|rfl|rfl|rfl|rfl|rfl|rfl <;> rfl
theorem infoN9:(Tryz.prog.info? 50).map (fun i=>(i.zero,i.size,i.bytes))=some (some (.agg #[.int .i64 0,.int .i64 0,.slice none 0 0,.string ByteArray.empty,.bool false,.slice none 0 0,.slice none 0 0]),7,112):=by kernel_rfl
def OwnD (w:World) (B:Nat) (A:Option Addr) (c:Nat) (L:List (NdP×Nd)):Prop:=w.ownsRow B 50 7 (.slice A L.length c) L.length (ncells L)
theorem OwnD.cell {w:World} {B g c:Nat} {L:List (NdP×Nd)} (h:OwnD w B (some ⟨g,0,none⟩) c L) {i j:Nat} {q:NdP×Nd} {u:Value} (hq:L[i]?=some q) (hj:(q.1.cells q.2)[j]?=some u):w.cell? ⟨g,i*7+j,none⟩=some u:=by
 have hj':=(Array.getElem?_eq_some_iff.1 hj).1
 have:=World.ownsRow.cells (g:=g) h rfl (i*7+j) u (by rw[flat_get (k:=7) (fun _=>rfl) L i j q hq hj'];simpa using hj)
 rwa [addr_add,Nat.zero_add] at this
end Go.Proofs.YtcgaeknikfaghaaGreatDoor
namespace Go.Proofs.YtcgaeknikfaghaaGreatDoor
open Go.RowKit
theorem Tm.asks_none {op:Int} (h:¬(6≤op∧op≤30)):Tm.asks op=none:=by
 unfold Tm.asks
 repeat(rw[if_neg (by omega)])
end Go.Proofs.YtcgaeknikfaghaaGreatDoor
namespace Go.Proofs.YtcgaeknikfaghaaGreatDoor
theorem Tm.asks_six {op:Int} {q:List Nat×Bool×Nat} (h:Tm.asks op=some q):6≤op∧op≤30:=by
 by_cases e:6≤op∧op≤30
 ·exact e
 ·rw[Tm.asks_none e] at h
  cases h
end Go.Proofs.YtcgaeknikfaghaaGreatDoor
namespace Go.Proofs.YtcgaeknikfaghaaGreatDoor
def Lt.runsMost (zs:List Int):Int×List (Int×Int):=if zs.all Lt.pt then(if(Lt.runs zs).length≤65536 then(0,Lt.runs zs) else(2,[])) else(1,[])
structure Dc where
 name:ByteArray
 sort:Int
 mac:Bool
 par:List (ByteArray×Int)
 body:Sx
abbrev Sc:=List (ByteArray×Int)
abbrev Bans:=List Nd×Int×Int
def Bd.opNames:List (List UInt8):=[[110,111,116],[97,110,100],[111,114],[61,62],[120,111,114],[61],[100,105,115,116,105,110,99,116],[105,116,101],[],[43],[45],[42],[60,61],[60],[62,61],[62],[115,116,114,46,43,43],[115,116,114,46,108,101,110],[115,116,114,46,97,116],[115,116,114,46,115,117,98,115,116,114],[115,116,114,46,112,114,101,102,105,120,111,102],[115,116,114,46,115,117,102,102,105,120,111,102],[115,116,114,46,99,111,110,116,97,105,110,115],[115,116,114,46,105,110,100,101,120,111,102],[115,116,114,46,114,101,112,108,97,99,101]]
def Bd.resNames:List (List UInt8):=[[116,114,117,101],[102,97,108,115,101],[108,101,116],[102,111,114,97,108,108],[101,120,105,115,116,115],[109,97,116,99,104],[112,97,114],[33],[95],[97,115],[100,105,118],[109,111,100],[97,98,115]]
def Bd.op (s:List UInt8) (n:Nat):Int:=
 if s=[45]∧n=1 then 14 else if s=[] then 0 else match Bd.opNames.findIdx? (fun t=>t == s) with
  |some i=>6+(i:Int)
  |none=>0
def Bd.reserved (s:List UInt8):Bool:=Bd.resNames.contains s||decide (s.take 4=[115,116,114,46])||decide (s.take 3=[114,101,46])||decide (Bd.op s 2≠0)
def Bd.bound:Sc→ByteArray→Option Int
 |[],_=>none
 |x::l,s=>match Bd.bound l s with
  |some i=>some i
  |none=>if x.1=s then some x.2 else none
def Bd.decl (D:List Dc) (s:ByteArray):Nat→Option Nat
 |0=>none
 |k+1=>if D[k]?.map (·.name)=some s then some k else Bd.decl D s k
def Bd.sortAt (N:List Nd) (p:Int):Int:=(N[p.toNat]?.map (·.sort)).getD 0
def Bd.each (f:List Nd→Sx→Bans):List Nd→List Sx→List Nd×List Int×Int
 |N,[]=>(N,[],0)
 |N,x::l=>match f N x with
  |(N',id,e)=>if e=0 then match Bd.each f N' l with
    |(N'',ids,e')=>if e'=0 then(N'',id::ids,0) else(N'',[],e')
   else(N',[],e)
def Bd.callF (D:List Dc) (f:Sc→List Nd→Sx→Bans) (j:Nat) (A:List Int) (N:List Nd):Bans:=
 match D[j]? with
 |none=>(N,0,1)
 |some d=>if A.length≠d.par.length then(N,0,1) else if(List.zip A d.par).any (fun q=>decide (Bd.sortAt N q.1≠q.2.2))=true then(N,0,90)
  else f (List.zip (d.par.map (·.1)) A) N d.body
noncomputable def Bd.nameF (D:List Dc) (k:Nat) (call:Nat→List Int→List Nd→Bans) (sc:Sc) (N:List Nd) (s:ByteArray):Bans:=
 if s.data.toList=[116,114,117,101]∨s.data.toList=[102,97,108,115,101] then Tm.bool N (decide (s.data.toList=[116,114,117,101]))
 else if Bd.reserved s.data.toList=true then(N,0,101)
 else match Bd.bound sc s with
  |some id=>(N,id,0)
  |none=>match Bd.decl D s k with
   |none=>(N,0,100)
   |some j=>match D[j]? with
    |none=>(N,0,100)
    |some d=>if d.mac=true then(if d.par=[] then call j [] N else(N,0,1)) else Tm.const N d.name d.sort
def Bd.bind1 (x:Sx):Option (ByteArray×Sx):=
 match x.L with
 |[n,t]=>if x.list=true∧n.list=false∧n.k=3 then some (n.T,t) else none
 |_=>none
def Bd.binds:List Sx→Option (List (ByteArray×Sx))
 |[]=>some []
 |x::l=>match Bd.bind1 x,Bd.binds l with
  |some b,some m=>some (b::m)
  |_,_=>none
def Bd.twice:List ByteArray→Bool
 |[]=>false
 |s::l=>l.contains s||Bd.twice l
def Bd.letF (f:Sc→List Nd→Sx→Bans) (sc:Sc) (N:List Nd) (r:List Sx):Bans:=
 match r with
 |[b,t]=>if b.list=false then(N,0,1) else match Bd.binds b.L with
  |none=>(N,0,1)
  |some m=>if(m.any fun q=>Bd.reserved q.1.data.toList)=true then(N,0,101) else if Bd.twice (m.map (·.1))=true then(N,0,4)
   else match Bd.each (f sc) N (m.map (·.2)) with
    |(N',ids,e)=>if e=0 then f (sc++List.zip (m.map (·.1)) ids) N' t else(N',0,e)
 |_=>(N,0,1)
noncomputable def Bd.listF (D:List Dc) (k:Nat) (call:Nat→List Int→List Nd→Bans) (f:Sc→List Nd→Sx→Bans) (sc:Sc) (N:List Nd) (l:List Sx):Bans:=
 match l with
 |[]=>(N,0,1)
 |h::r=>
  if h.list=true∨h.k≠3 then(N,0,101)
  else if h.T.data.toList=[108,101,116] then Bd.letF f sc N r
  else if Bd.op h.T.data.toList r.length≠0 then match Bd.each (f sc) N r with
   |(N',ids,e)=>if e=0 then Tm.app N' (Bd.op h.T.data.toList r.length) ids else(N',0,e)
  else if Bd.reserved h.T.data.toList=true then(N,0,101)
  else if(Bd.bound sc h.T).isSome=true then(N,0,100)
  else match Bd.decl D h.T k with
   |none=>(N,0,100)
   |some j=>if(D[j]?.map (·.mac)).getD false=true then match Bd.each (f sc) N r with
     |(N',ids,e)=>if e=0 then call j ids N' else(N',0,e)
    else(N,0,100)
noncomputable def Bd.atomF (D:List Dc) (k:Nat) (call:Nat→List Int→List Nd→Bans) (sc:Sc) (N:List Nd) (kind:Int) (s:ByteArray):Bans:=
 if kind=4 then(if isT s.data.toList=true then Tm.num N (T.dv s.data.toList) else(N,0,101))
 else if kind=6 then Tm.str N (Lt.runsMost (Lt.pts s.data.toList)).2
 else if kind=3 then Bd.nameF D k call sc N s else(N,0,101)
noncomputable def Bd.step (D:List Dc) (k:Nat) (call:Nat→List Int→List Nd→Bans) (f:Sc→List Nd→Sx→Bans) (sc:Sc) (N:List Nd) (x:Sx):Bans:=
 if x.list=true then Bd.listF D k call f sc N x.L else Bd.atomF D k call sc N x.k x.T
noncomputable def Bd.lev (D:List Dc) (k:Nat) (call:Nat→List Int→List Nd→Bans):Nat→Sc→List Nd→Sx→Bans
 |0,_,N,_=>(N,0,0)
 |n+1,sc,N,x=>Bd.step D k call (Bd.lev D k call n) sc N x
noncomputable def Bd.call (D:List Dc):Nat→Nat→List Int→List Nd→Bans
 |0,_,_,N=>(N,0,1)
 |k+1,j,A,N=>if j=k then Bd.callF D (fun sc N x=>Bd.lev D k (Bd.call D k) x.size sc N x) k A N else Bd.call D k j A N
noncomputable def Bd.tm (D:List Dc) (k:Nat) (sc:Sc) (N:List Nd) (x:Sx):Bans:=Bd.lev D k (Bd.call D k) x.size sc N x
noncomputable def Bd.fn (D:List Dc) (j:Nat) (A:List Int) (N:List Nd):Bans:=Bd.callF D (Bd.tm D j) j A N
theorem Bd.call_fn (D:List Dc):∀ (k j:Nat) (A:List Int) (N:List Nd),j<k→Bd.call D k j A N=Bd.fn D j A N
 |0,_,_,_,h=>absurd h (Nat.not_lt_zero _)
 |k+1,j,A,N,h=>by
  rw[Bd.call]
  split
  ·rename_i e
   subst e
   rfl
  ·exact Bd.call_fn D k j A N (by omega)
theorem Bd.decl_lt {D:List Dc} {s:ByteArray}:∀ {k j:Nat},Bd.decl D s k=some j→j<k∧∃ d,D[j]?=some d∧d.name=s
 |0,j,h=>by cases h
 |k+1,j,h=>by
  rw[Bd.decl] at h
  split at h
  ·rename_i e
   cases h
   refine⟨Nat.lt_succ_self _,?_⟩
   cases hd:D[k]? with
   |none=>rw[hd] at e;cases e
   |some d=>rw[hd] at e;exact⟨d,rfl,by simpa using e⟩
  ·have:=Bd.decl_lt h
   exact⟨by omega,this.2⟩
theorem Bd.each_congr {f g:List Nd→Sx→Bans}:∀ (l:List Sx) (N:List Nd),(∀ y∈l,∀ N,f N y=g N y)→Bd.each f N l=Bd.each g N l
 |[],_,_=>rfl
 |x::l,N,h=>by
  rw[Bd.each,Bd.each,h x List.mem_cons_self]
  obtain⟨N',id,e⟩:=g N x
  show(if e=0 then _ else _)=(if e=0 then _ else _)
  rw[Bd.each_congr l N' fun y hy=>h y (List.mem_cons_of_mem _ hy)]
theorem Bd.bind1_mem {x:Sx} {q:ByteArray×Sx} (h:Bd.bind1 x=some q):q.2∈x.L:=by
 obtain⟨b,k,T,ta,a,L⟩:=x
 unfold Bd.bind1 at h
 simp only at h
 split at h
 ·split at h
  ·cases h;simp
  ·cases h
 ·cases h
theorem Bd.binds_mem:∀ {l:List Sx} {m:List (ByteArray×Sx)},Bd.binds l=some m→∀ t∈m.map (·.2),∃ x∈l,t∈x.L
 |[],m,h,t,ht=>by cases h;cases ht
 |x::l,m,h,t,ht=>by
  rw[Bd.binds] at h
  cases h1:Bd.bind1 x with
  |none=>rw[h1] at h;cases h
  |some b=>
   cases h2:Bd.binds l with
   |none=>rw[h1,h2] at h;cases h
   |some m'=>
    rw[h1,h2] at h
    cases h
    rcases List.mem_cons.1 ht with e|e
    ·exact⟨x,List.mem_cons_self,e▸Bd.bind1_mem h1⟩
    ·obtain⟨y,hy,hy2⟩:=Bd.binds_mem h2 t e
     exact⟨y,List.mem_cons_of_mem _ hy,hy2⟩
theorem Bd.let_sub {x h b t:Sx} {m:List (ByteArray×Sx)} (hx:x.L=[h,b,t]) (hb:Bd.binds b.L=some m):t.size<x.size∧∀ y∈m.map (·.2),y.size<x.size:=by
 have b1:b.size<x.size:=Sx.size_lt (by rw[hx];simp)
 refine⟨Sx.size_lt (by rw[hx];simp),fun y hy=>?_⟩
 obtain⟨z,hz,hy2⟩:=Bd.binds_mem hb y hy
 have:=Sx.size_lt hy2
 have:=Sx.size_lt hz
 omega
theorem Bd.step_congr {D:List Dc} {k:Nat} {call call':Nat→List Int→List Nd→Bans} {f g:Sc→List Nd→Sx→Bans} {sc:Sc} {N:List Nd} {x:Sx}
  (hc:∀ j A N,j<k→call j A N=call' j A N) (hf:∀ sc N y,y.size<x.size→f sc N y=g sc N y):Bd.step D k call f sc N x=Bd.step D k call' g sc N x:=by
 unfold Bd.step
 split
 ·rename_i hl
  unfold Bd.listF
  cases hL:x.L with
  |nil=>rfl
  |cons h r=>
   simp only
   have hE:∀ N,Bd.each (f sc) N r=Bd.each (g sc) N r:=fun N=>Bd.each_congr r N fun y hy N=>hf sc N y (Sx.size_lt (by rw[hL];exact List.mem_cons_of_mem _ hy))
   rw[hE]
   split
   ·rfl
   ·split
    ·unfold Bd.letF
     split
     ·rename_i b t
      split
      ·rfl
      ·cases hb:Bd.binds b.L with
       |none=>rfl
       |some m=>
        simp only
        obtain⟨h1,h2⟩:=Bd.let_sub hL hb
        rw[Bd.each_congr (m.map (·.2)) N fun y hy N=>hf sc N y (h2 y hy)]
        split
        ·rfl
        ·split
         ·rfl
         ·split
          ·exact hf _ _ _ h1
          ·rfl
     ·rfl
    ·split
     ·rfl
     ·split
      ·rfl
      ·split
       ·rfl
       ·cases hd:Bd.decl D h.T k with
        |none=>rfl
        |some j=>
         simp only
         split
         ·split
          ·exact hc _ _ _ (Bd.decl_lt hd).1
          ·rfl
         ·rfl
 ·unfold Bd.atomF
  split
  ·rfl
  ·split
   ·rfl
   ·split
    ·unfold Bd.nameF
     split
     ·rfl
     ·split
      ·rfl
      ·split
       ·rfl
       ·split
        ·rfl
        ·rename_i j hd
         split
         ·rfl
         ·split
          ·split
           ·exact hc _ _ _ (Bd.decl_lt hd).1
           ·rfl
          ·rfl
    ·rfl
theorem Bd.lev_more {D:List Dc} {k:Nat} {call:Nat→List Int→List Nd→Bans}:∀ (n m:Nat) (sc:Sc) (N:List Nd) (x:Sx),x.size≤n→x.size≤m→Bd.lev D k call n sc N x=Bd.lev D k call m sc N x
 |0,_,_,_,x,h,_=>absurd x.size_pos (by omega)
 |_,0,_,_,x,_,h=>absurd x.size_pos (by omega)
 |n+1,m+1,sc,N,x,h1,h2=>by
  rw[Bd.lev,Bd.lev]
  exact Bd.step_congr (fun _ _ _ _=>rfl) fun sc N y hy=>Bd.lev_more n m sc N y (by omega) (by omega)
theorem Bd.tm_eq (D:List Dc) (k:Nat) (sc:Sc) (N:List Nd) (x:Sx):Bd.tm D k sc N x=Bd.step D k (Bd.fn D) (Bd.tm D k) sc N x:=by
 have hp:=x.size_pos
 obtain⟨n,hn⟩:∃ n,x.size=n+1:=⟨x.size-1,by omega⟩
 rw[Bd.tm,hn,Bd.lev]
 exact Bd.step_congr (fun j A N hj=>Bd.call_fn D k j A N hj) fun sc N y hy=>by rw[Bd.tm];exact Bd.lev_more n y.size sc N y (by omega) (Nat.le_refl _)
theorem Bd.induct {P:Nat→Sx→Prop} (h:∀ k x,(∀ j y,j<k→P j y)→(∀ y,y.size<x.size→P k y)→P k x):∀ k x,P k x:=by
 have main:∀ k,∀ n x,x.size<n→P k x:=by
  intro k
  induction k using Nat.strongRecOn with
  |_ k ihk=>
   intro n
   induction n with
   |zero=>intro x hx;exact absurd hx (Nat.not_lt_zero _)
   |succ n ihn=>exact fun x hx=>h k x (fun j y hj=>ihk j hj (y.size+1) y (Nat.lt_succ_self _)) fun y hy=>ihn y (by omega)
 exact fun k x=>main k (x.size+1) x (Nat.lt_succ_self _)
end Go.Proofs.YtcgaeknikfaghaaGreatDoor
namespace Go.Proofs.YtcgaeknikfaghaaGreatDoor
abbrev Bop (α:Type):=List Nd→List Nd×α×Int
def Bd.St {α:Type} (o:Bop α) (N:List Nd):Prop:=
 Tm.Inv (o N).1∧N<+:(o N).1∧((o N).2.2=0→∀ M,Tm.Inv M→(o N).1<+:M→o M=(M,(o N).2.1,0))∧((o N).2.2≠0→o (o N).1=o N)
def Bd.andThen {α β:Type} (o:Bop α) (g:α→Bop β) (z:β):Bop β:=fun N=>match o N with
 |(N',a,e)=>if e=0 then g a N' else(N',z,e)
theorem Bd.andThen_ok {α β:Type} {o:Bop α} {g:α→Bop β} {z:β} {N N':List Nd} {a:α} (h:o N=(N',a,0)):Bd.andThen o g z N=g a N':=by
 unfold Bd.andThen;rw[h];rfl
theorem Bd.andThen_err {α β:Type} {o:Bop α} {g:α→Bop β} {z:β} {N N':List Nd} {a:α} {e:Int} (h:o N=(N',a,e)) (he:e≠0):Bd.andThen o g z N=(N',z,e):=by
 unfold Bd.andThen;rw[h];exact if_neg he
theorem Bd.St.andThen {α β:Type} {o:Bop α} {g:α→Bop β} {z:β} {N:List Nd} (h:Bd.St o N) (hg:∀ N' a,o N=(N',a,0)→Bd.St (g a) N'):Bd.St (Bd.andThen o g z) N:=by
 obtain⟨h1,h2,h3,h4⟩:=h
 cases ho:o N with
 |mk N' r=>
  obtain⟨a,e⟩:=r
  rw[ho] at h1 h2 h3 h4
  by_cases he:e=0
  ·subst he
   obtain⟨g1,g2,g3,g4⟩:=hg N' a ho
   unfold Bd.St
   rw[Bd.andThen_ok ho]
   have hagain:∀ M,Tm.Inv M→(g a N').1<+:M→o M=(M,a,0):=fun M hM hp=>h3 rfl M hM (g2.trans hp)
   refine⟨g1,h2.trans g2,fun he M hM hp=>?_,fun he=>?_⟩
   ·rw[Bd.andThen_ok (hagain M hM hp)]
    exact g3 he M hM hp
   ·rw[Bd.andThen_ok (hagain _ g1 (List.prefix_refl _))]
    exact g4 he
  ·unfold Bd.St
   rw[Bd.andThen_err ho he]
   refine⟨h1,h2,fun e0=>absurd e0 he,fun _=>?_⟩
   have:=h4 he
   exact Bd.andThen_err this he
theorem Bd.St.pure {α:Type} (a:α) {N:List Nd} (h:Tm.Inv N):Bd.St (fun N=>(N,a,0)) N:=
 ⟨h,List.prefix_refl _,fun _ _ _ _=>rfl,fun e=>absurd rfl e⟩
theorem Bd.St.err {α:Type} (a:α) (e:Int) (he:e≠0) {N:List Nd} (h:Tm.Inv N):Bd.St (fun N=>(N,a,e)) N:=
 ⟨h,List.prefix_refl _,fun e0=>absurd e0 he,fun _=>rfl⟩
theorem Bd.St.congr {α:Type} {o p:Bop α} {N:List Nd} (h:Bd.St p N) (he:∀ M,N<+:M→o M=p M):Bd.St o N:=by
 have e0:=he N (List.prefix_refl _)
 unfold Bd.St
 rw[e0]
 exact⟨h.1,h.2.1,fun e M hM hp=>by rw[he M (h.2.1.trans hp)];exact h.2.2.1 e M hM hp,fun e=>by rw[he _ h.2.1];exact h.2.2.2 e⟩
theorem Bd.St.add (x:Nd) {N:List Nd} (hI:Tm.Inv (Tm.add N x).1):Bd.St (fun N=>Tm.add N x) N:=by
 obtain⟨m,hm⟩:=Tm.add_ext N x
 refine⟨hI,⟨m,hm.symm⟩,fun e M hM hp=>?_,fun e=>?_⟩
 ·obtain⟨q,rfl⟩:=hp
  rcases Tm.add_ways N x with⟨hx,h⟩|⟨_,_,h⟩|⟨hx,_,h⟩
  ·simp only[h]
   rw[Tm.add,if_pos (Tm.has_iff.2 (List.mem_append_left _ hx)),Tm.idx_app _ hx]
  ·simp only[h] at e
   exact absurd e (by decide)
  ·simp only[h]
   have hx2:x∈N++[x]:=by simp
   rw[Tm.add,if_pos (Tm.has_iff.2 (List.mem_append_left _ hx2)),Tm.idx_app _ hx2,Tm.idx_new hx]
 ·exact(Tm.add_again N x).1
theorem Tm.app_ext {l m:List Nd} (hl:Tm.Inv l) {op:Int} {a:List Int} (h:(Tm.app l op a).2.2=0):∃ w more own,Tm.asks op=some (w,more,own)∧Tm.app l op a=Tm.add l (Tm.node op own l a)∧Tm.app (l++m) op a=Tm.add (l++m) (Tm.node op own l a):=by
 rcases Tm.app_ways l op a with⟨e,he,h1⟩|⟨w,more,own,h1,h2,h3,h4,h5,h6⟩
 ·rw[h1] at h;exact absurd h he
 ·have hin:=Tm.allIn_spec h3
  have hmap:a.map (Tm.letAt (l++m))=a.map (Tm.letAt l):=List.map_congr_left fun p hp=>by
   have:=hin p hp
   unfold Tm.letAt
   rw[Tm.get_ext this.2 this.1]
  have hfree:Tm.free (l++m) a=Tm.free l a:=by
   unfold Tm.free
   congr 1
   refine List.filter_congr fun p hp=>?_
   rw[Tm.isNum_ext hl (hin p hp).1 (hin p hp).2]
  have hall:Tm.allIn (l++m) a=true:=List.all_eq_true.2 fun p hp=>decide_eq_true (by have:=hin p hp;simp;omega)
  have hnode:Tm.node op own (l++m) a=Tm.node op own l a:=by unfold Tm.node;rw[hmap]
  refine⟨w,more,own,h1,h6,?_⟩
  unfold Tm.app
  rw[h1]
  simp only
  rw[if_neg h2,if_neg (by rw[hall];decide),hmap,if_neg (by rw[h4];decide),hfree,if_neg h5,hnode]
theorem Bd.St.app (op:Int) (a:List Int) {N:List Nd} (hI:Tm.Inv N):Bd.St (fun N=>Tm.app N op a) N:=by
 have hI2:=Tm.app_inv hI op a
 by_cases he:(Tm.app N op a).2.2=0
 ·obtain⟨w,more,own,h1,h2,_⟩:=Tm.app_ext (m:=[]) hI he
  rw[h2] at hI2
  refine Bd.St.congr (Bd.St.add (Tm.node op own N a) hI2) fun M hp=>?_
  obtain⟨m,rfl⟩:=hp
  obtain⟨w',more',own',h1',h2',h3'⟩:=Tm.app_ext (m:=m) hI he
  rw[h1] at h1'
  cases h1'
  exact h3'
 ·have hpre:N<+:(Tm.app N op a).1:=by
   rcases Tm.app_ways N op a with⟨e,_,h1⟩|⟨w,more,own,h1,h2,h3,h4,h5,h6⟩
   ·rw[h1];exact List.prefix_refl _
   ·rw[h6]
    obtain⟨m,hm⟩:=Tm.add_ext N (Tm.node op own N a)
    exact⟨m,hm.symm⟩
  exact⟨hI2,hpre,fun e=>absurd e he,fun _=>(Tm.app_again hI op a).1⟩
theorem Bd.St.const (s:ByteArray) (sort:Int) {N:List Nd} (hI:Tm.Inv N):Bd.St (fun N=>Tm.const N s sort) N:=by
 by_cases h:sort<1∨3<sort∨16384<s.size
 ·exact(Bd.St.err 0 1 (by decide) hI).congr fun M _=>by rw[Tm.const,if_pos h]
 ·refine(Bd.St.add ⟨1,sort,[],s,0,[]⟩ ?_).congr fun M _=>by rw[Tm.const,if_neg h]
  exact Tm.add_inv hI ⟨by simp only;omega,by simp only;omega⟩ (fun p hp=>(List.not_mem_nil hp).elim) (fun e=>by simp at e)
theorem Bd.St.bool (b:Bool) {N:List Nd} (hI:Tm.Inv N):Bd.St (fun N=>Tm.bool N b) N:=
 Bd.St.add _ (Tm.add_inv hI ⟨by simp only;decide,by simp only;decide⟩ (fun p hp=>(List.not_mem_nil hp).elim) (fun e=>by simp only at e;split at e <;> cases e))
theorem Bd.St.num (z:Int) {N:List Nd} (hI:Tm.Inv N):Bd.St (fun N=>Tm.num N z) N:=by
 by_cases h:z<0
 ·exact(Bd.St.err 0 1 (by decide) hI).congr fun M _=>by rw[Tm.num,if_pos h]
 ·refine(Bd.St.add _ ?_).congr fun M _=>by rw[Tm.num,if_neg h]
  exact Tm.add_inv hI ⟨by simp only;decide,by simp only;decide⟩ (fun p hp=>(List.not_mem_nil hp).elim) (fun e=>by simp at e)
theorem Bd.St.str (t:List (Int×Int)) {N:List Nd} (hI:Tm.Inv N):Bd.St (fun N=>Tm.str N t) N:=by
 by_cases h:Tx.mayB t=true
 ·refine(Bd.St.add _ ?_).congr fun M _=>by rw[Tm.str,if_pos h]
  exact Tm.add_inv hI ⟨by simp only;decide,by simp only;decide⟩ (fun p hp=>(List.not_mem_nil hp).elim) (fun e=>by simp at e)
 ·exact(Bd.St.err 0 1 (by decide) hI).congr fun M _=>by rw[Tm.str,if_neg h]
def Bd.Ok (r:Bans):Prop:=(r.2.2=0→0≤r.2.1∧r.2.1<r.1.length)∧(r.2.2≠0→r.2.1=0)
theorem Bd.Ok.add (N:List Nd) (x:Nd):Bd.Ok (Tm.add N x):=by
 rcases Tm.add_ways N x with⟨hx,h⟩|⟨_,_,h⟩|⟨hx,_,h⟩
 ·rw[h]
  have:=(Tm.idx_mem hx).2
  exact⟨fun _=>⟨by simp only;omega,by simp only;omega⟩,fun e=>absurd rfl e⟩
 ·rw[h];exact⟨fun e=>absurd e (by show ¬(2:Int)=0;decide),fun _=>rfl⟩
 ·rw[h];exact⟨fun _=>⟨by simp only;omega,by simp;omega⟩,fun e=>absurd rfl e⟩
theorem Bd.Ok.err (N:List Nd) {e:Int} (he:e≠0):Bd.Ok (N,0,e):=⟨fun h=>absurd h he,fun _=>rfl⟩
theorem Bd.Ok.app (N:List Nd) (op:Int) (a:List Int):Bd.Ok (Tm.app N op a):=by
 rcases Tm.app_ways N op a with⟨e,he,h1⟩|⟨w,more,own,h1,h2,h3,h4,h5,h6⟩
 ·rw[h1];exact .err N he
 ·rw[h6];exact .add _ _
theorem Bd.Ok.const (N:List Nd) (s:ByteArray) (sort:Int):Bd.Ok (Tm.const N s sort):=by
 unfold Tm.const;split
 ·exact .err N (by decide)
 ·exact .add _ _
theorem Bd.Ok.num (N:List Nd) (z:Int):Bd.Ok (Tm.num N z):=by
 unfold Tm.num;split
 ·exact .err N (by decide)
 ·exact .add _ _
theorem Bd.Ok.str (N:List Nd) (t:List (Int×Int)):Bd.Ok (Tm.str N t):=by
 unfold Tm.str;split
 ·exact .add _ _
 ·exact .err N (by decide)
def Bd.In (N:List Nd) (l:List Int):Prop:=∀ p∈l,0≤p∧p<N.length
theorem Bd.In.ext {N M:List Nd} {l:List Int} (h:Bd.In N l) (hp:N<+:M):Bd.In M l:=fun p hm=>by
 have:=h p hm
 have:=hp.length_le
 omega
theorem Bd.each_cons (f:List Nd→Sx→Bans) (x:Sx) (l:List Sx) (N:List Nd):
 Bd.each f N (x::l)=Bd.andThen (fun N=>f N x) (fun id=>Bd.andThen (fun N=>Bd.each f N l) (fun ids N=>(N,id::ids,0)) []) [] N:=rfl
theorem Bd.each_st {f:List Nd→Sx→Bans}:∀ (l:List Sx) (N:List Nd),Tm.Inv N→(∀ y∈l,∀ M,Tm.Inv M→N<+:M→Bd.St (fun N=>f N y) M∧Bd.Ok (f M y))→
  Bd.St (fun N=>Bd.each f N l) N∧((Bd.each f N l).2.2=0→Bd.In (Bd.each f N l).1 (Bd.each f N l).2.1∧(Bd.each f N l).2.1.length=l.length)∧((Bd.each f N l).2.2≠0→(Bd.each f N l).2.1=[])
 |[],N,hI,_=>⟨Bd.St.pure [] hI,fun _=>⟨fun p hp=>(List.not_mem_nil hp).elim,rfl⟩,fun e=>absurd rfl e⟩
 |x::l,N,hI,h=>by
  obtain⟨hs,hk⟩:=h x List.mem_cons_self N hI (List.prefix_refl _)
  have hrest:∀ N' id,f N x=(N',id,0)→_:=fun N' id e=>
   Bd.each_st (f:=f) l N' (by have:=hs.1;simp only[e] at this;exact this) fun y hy M hM hp=>
    h y (List.mem_cons_of_mem _ hy) M hM (by have:=hs.2.1;simp only[e] at this;exact this.trans hp)
  refine⟨?_,?_⟩
  ·refine Bd.St.congr (Bd.St.andThen hs fun N' id e=>Bd.St.andThen (hrest N' id e).1 fun N'' ids e2=>Bd.St.pure _ ?_) fun M _=>Bd.each_cons f x l M
   have:=(hrest N' id e).1.1
   simp only[e2] at this
   exact this
  ·rw[Bd.each_cons]
   cases ho:f N x with
   |mk N' r=>
    obtain⟨id,e⟩:=r
    by_cases he:e=0
    ·subst he
     obtain⟨r1,r2,r3⟩:=hrest N' id ho
     rw[Bd.andThen_ok (o:=fun N=>f N x) ho]
     cases ho2:Bd.each f N' l with
     |mk N'' r=>
      obtain⟨ids,e⟩:=r
      rw[ho2] at r2 r3
      by_cases he:e=0
      ·subst he
       rw[Bd.andThen_ok (o:=fun N=>Bd.each f N l) ho2]
       refine⟨fun _=>⟨fun p hp=>?_,by simp[(r2 rfl).2]⟩,fun e=>absurd rfl e⟩
       rcases List.mem_cons.1 hp with rfl|hp
       ·have h1:=hk.1 (by rw[ho])
        have h2:=r1.2.1.length_le
        rw[ho] at h1
        simp only[ho2] at h2
        simp only at h1 ⊢
        omega
       ·exact(r2 rfl).1 p hp
      ·rw[Bd.andThen_err (o:=fun N=>Bd.each f N l) ho2 he]
       exact⟨fun e0=>absurd e0 he,fun _=>rfl⟩
    ·rw[Bd.andThen_err (o:=fun N=>f N x) ho he]
     exact⟨fun e0=>absurd e0 he,fun _=>rfl⟩
theorem Bd.bound_in:∀ {sc:Sc} {s:ByteArray} {i:Int},Bd.bound sc s=some i→i∈sc.map (·.2)
 |[],_,_,h=>by cases h
 |x::l,s,i,h=>by
  rw[Bd.bound] at h
  cases hb:Bd.bound l s with
  |some j=>rw[hb] at h;cases h;exact List.mem_cons_of_mem _ (Bd.bound_in hb)
  |none=>
   rw[hb] at h
   simp only at h
   split at h
   ·cases h;simp
   ·cases h
theorem Bd.zip_in {N:List Nd} {l:List ByteArray} {A:List Int} (h:Bd.In N A):Bd.In N ((List.zip l A).map (·.2)):=fun p hp=>by
 obtain⟨q,hq,rfl⟩:=List.mem_map.1 hp
 exact h _ (List.of_mem_zip hq).2
theorem Bd.sortAt_ext {N M:List Nd} (hp:N<+:M) {p:Int} (h:0≤p∧p<N.length):Bd.sortAt M p=Bd.sortAt N p:=by
 obtain⟨m,rfl⟩:=hp
 unfold Bd.sortAt
 rw[Tm.get_ext h.2 h.1]
theorem Bd.sorts_ext {N M:List Nd} (hp:N<+:M) {A:List Int} (h:Bd.In N A) (P:List (ByteArray×Int)):
  (List.zip A P).any (fun q=>decide (Bd.sortAt M q.1≠q.2.2))=(List.zip A P).any (fun q=>decide (Bd.sortAt N q.1≠q.2.2)):=by
 rw[Bool.eq_iff_iff,List.any_eq_true,List.any_eq_true]
 constructor
 ·rintro⟨q,hq,h2⟩
  exact⟨q,hq,by rw[←Bd.sortAt_ext hp (h _ (List.of_mem_zip hq).1)];exact h2⟩
 ·rintro⟨q,hq,h2⟩
  exact⟨q,hq,by rw[Bd.sortAt_ext hp (h _ (List.of_mem_zip hq).1)];exact h2⟩
end Go.Proofs.YtcgaeknikfaghaaGreatDoor
