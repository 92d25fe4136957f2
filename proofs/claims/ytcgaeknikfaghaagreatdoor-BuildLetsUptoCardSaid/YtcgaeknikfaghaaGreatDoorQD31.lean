/- What the proofs of this claim use, text by text. -/
import Derived.Test.YtcgaeknikfaghaaGreatDoorQD27
import Derived.Deep.Slices
import Derived.Test.YtcgaeknikfaghaaGreatDoorQD29
set_option linter.unusedSimpArgs false
set_option linter.unusedVariables false
set_option maxRecDepth 100000
set_option maxHeartbeats 25600000
namespace Go.Proofs.YtcgaeknikfaghaaGreatDoor
open Go.RowKit Go.ChangeShapes Go.WideShapes Go.Deep
theorem size_list (T:ByteArray):T.size=T.data.toList.length:=by rw[Array.length_toList];rfl
theorem param_cells {H:Type} {enc:TypeId×Value→H} {W:World} {fuel:Nat} {cs:List Value} {y:DataW H×List MemPlace} (h:DataW.trod enc Tryz.prog W 0 (fun _=>true) true fuel 94 cs=some y):
  ∃ p:ByteArray×Int,cs=[.string p.1,.int .i64 p.2]∧p.1.size≤Rows.uptoBulk y.1:=by
 obtain⟨xs,k,_,hy,hlen,hxl,hf⟩:=DataW.trod_struct Tryz.underlying94 h
 rw[show Tryz.prog.cellsOf 94=2 by kernel_rfl] at hlen
 match xs,hxl,cs,hlen with
 |[y0,y1],_,[v0,v1],_=>
  have e0:DataW.trod enc Tryz.prog W 0 (fun _=>true) true k 9 [v0]=some y0:=hf 0 _ rfl
  have e1:DataW.trod enc Tryz.prog W 0 (fun _=>true) true k 3 [v1]=some y1:=hf 1 _ rfl
  obtain⟨s,hs,hy0,_⟩:=DataW.trod_string Tryz.underlying9 e0
  obtain⟨z,hz,_⟩:=DataW.trod_int Tryz.underlying3 e1
  injection hs with hs
  injection hz with hz
  subst hs hz
  refine⟨(s,z),rfl,?_⟩
  have:=size_list s
  rw[hy]
  simp only[Rows.uptoBulk,Rows.uptoBulkAll,List.map_cons,List.map_nil,hy0]
  omega
theorem open_params {H:Type} {enc:TypeId×Value→H} {W:World} {fuel:Nat} {v:Value} {y:DataW H×List MemPlace} (h:DataW.trod enc Tryz.prog W 0 (fun _=>true) true fuel 54 [v]=some y):
  ∃ A c l,v=.slice A l.length c∧ParS W (fun _=>True) A l∧∀ p∈l,p.1.size≤Rows.uptoBulk y.1:=by
 rcases DataW.trod_slice Tryz.underlying54 h with⟨hcs,_⟩|⟨a,len,cap,elems,rest,n2,hn2,hcs,h3,_,hl,hm,hel,hi,_,_⟩
 ·injection hcs with hcs
  subst hcs
  exact⟨none,0,[],rfl,⟨fun hn=>absurd hn (by decide)⟩,fun _ hp=>(List.not_mem_nil hp).elim⟩
 ·injection hcs with hcs
  subst hcs
  have each:∀ i,i<len→∃ p:ByteArray×Int,W.cell? (a.add (i*2))=some (.string p.1)∧W.cell? ((a.add (i*2)).add 1)=some (.int .i64 p.2)∧p.1.size≤Rows.uptoBulk y.1:=fun i hlt=>by
   have hii:=hi i hlt
   rw[show Tryz.prog.cellsOf 94=2 by kernel_rfl] at hii
   obtain⟨q,hq⟩:∃ q,elems[i]?=some q:=⟨_,List.getElem?_eq_getElem (by omega)⟩
   rw[hq] at hii
   obtain⟨cs',h1,h2⟩:=Option.bind_eq_some_iff.1 hii
   obtain⟨p,rfl,hp⟩:=param_cells h2
   obtain⟨_,_,hcell⟩:=World.cells?_some h1
   have g0:=hcell 0 (by omega)
   have g1:=hcell 1 (by omega)
   refine⟨p,by simpa [Addr.add] using g0,by simpa using g1,Nat.le_trans hp ?_⟩
   rw[h3]
   simp only[Rows.uptoBulk]
   have:=bulk_le (List.mem_map_of_mem (f:=(·.1)) (List.mem_of_getElem? hq))
   omega
  haveI:Inhabited (ByteArray×Int):=⟨(ByteArray.empty,0)⟩
  obtain⟨q,hq⟩:=choose_lt each
  refine⟨some a,cap,(List.range len).map q,by simp,⟨fun hn=>?_⟩,fun p hp=>?_⟩
  ·have hn0:0<len:=by simpa using hn
   have hc0:=(hq 0 hn0).1
   obtain⟨b,off,spot⟩:=a
   have hspot:spot=none:=by simpa [Addr.add] using World.cell?_spot hc0
   subst hspot
   have hb:b<W.heap.size:=by
    have:=World.block_lt_of_cell? W _ hc0
    simpa [Addr.add] using this
   refine⟨b,off,rfl,trivial,hb,fun i o ho=>?_⟩
   obtain⟨hil,rfl⟩:=get_range ho
   obtain⟨k1,k2,_⟩:=hq i hil
   rw[addr_add] at k1
   rw[addr_add,addr_add] at k2
   exact⟨k1,k2⟩
  ·obtain⟨i,hir,rfl⟩:=List.mem_map.1 hp
   exact(hq i (List.mem_range.1 hir)).2.2
structure DcB (B:Nat) (d:Dc):Prop where
 name:d.name.size≤B
 par:∀ p∈d.par,p.1.size≤B
 size:d.body.size≤B
 wide:d.body.wide≤B
theorem decl_cells {H:Type} {enc:TypeId×Value→H} {W:World} {fuel:Nat} {cs:List Value} {y:DataW H×List MemPlace} (h:DataW.trod enc Tryz.prog W 0 (fun _=>true) true fuel 56 cs=some y):
  ∃ (P:DcP) (d:Dc),cs=dcells P d∧DcAs W (fun _=>True) P d∧DcB (Rows.uptoBulk y.1) d:=by
 obtain⟨xs,k,_,hy,hlen,hxl,hf⟩:=DataW.trod_struct Tryz.underlying56 h
 rw[show Tryz.prog.cellsOf 56=10 by kernel_rfl] at hlen
 match xs,hxl,cs,hlen with
 |[y0,y1,y2,y3,y4],_,[v0,v1,v2,v3,v4,v5,v6,v7,v8,v9],_=>
  have e0:DataW.trod enc Tryz.prog W 0 (fun _=>true) true k 9 [v0]=some y0:=hf 0 _ rfl
  have e1:DataW.trod enc Tryz.prog W 0 (fun _=>true) true k 3 [v1]=some y1:=hf 1 _ rfl
  have e2:DataW.trod enc Tryz.prog W 0 (fun _=>true) true k 4 [v2]=some y2:=hf 2 _ rfl
  have e3:DataW.trod enc Tryz.prog W 0 (fun _=>true) true k 54 [v3]=some y3:=hf 3 _ rfl
  have e4:DataW.trod enc Tryz.prog W 0 (fun _=>true) true k 27 [v4,v5,v6,v7,v8,v9]=some y4:=hf 4 _ rfl
  obtain⟨s,hs,hy0,_⟩:=DataW.trod_string Tryz.underlying9 e0
  obtain⟨z,hz,_⟩:=DataW.trod_int Tryz.underlying3 e1
  obtain⟨b,hb,_⟩:=DataW.trod_bool Tryz.underlying4 e2
  obtain⟨A,c,l,hA,hl,hlp⟩:=open_params e3
  obtain⟨x,B,d,hB,hT,hs1,hs2⟩:=open_sx k k _ _ (Nat.le_refl _) e4
  injection hs with hs
  injection hz with hz
  injection hb with hb
  subst hs hz hb hA
  injection hB with b0 hB
  injection hB with b1 hB
  injection hB with b2 hB
  injection hB with b3 hB
  injection hB with b4 hB
  injection hB with b5 _
  subst b0 b1 b2 b3 b4 b5
  have hbk:Rows.uptoBulk y.1=Rows.uptoBulk y0.1+(Rows.uptoBulk y1.1+(Rows.uptoBulk y2.1+(Rows.uptoBulk y3.1+(Rows.uptoBulk y4.1+0))))+1:=by
   rw[hy]
   simp only[Rows.uptoBulk,Rows.uptoBulkAll,List.map_cons,List.map_nil]
  have hsz:=size_list s
  have hb0:Rows.uptoBulk y0.1=s.data.toList.length+1:=by rw[hy0];rfl
  exact⟨⟨A,c,B,d⟩,⟨s,z,b,l,x⟩,rfl,⟨hl,⟨hT.le,hT.tree.mono fun _ _ _ _=>trivial⟩⟩,⟨by simp only;omega,fun p hp=>by have:=hlp p hp;omega,by simp only;omega,by simp only;omega⟩⟩
theorem open_decls {H:Type} {enc:TypeId×Value→H} {W:World} {fuel:Nat} {v:Value} {y:DataW H×List MemPlace} (h:DataW.trod enc Tryz.prog W 0 (fun _=>true) true fuel 22 [v]=some y):
  ∃ A n c L,v=.slice A n c∧DcS W (fun _=>True) A n c L∧n≤c∧c≤maxLen∧n≤Rows.uptoBulk y.1∧∀ q∈L,DcB (Rows.uptoBulk y.1) q.2:=by
 rcases DataW.trod_slice Tryz.underlying22 h with⟨hcs,_⟩|⟨a,len,cap,elems,rest,n2,hn2,hcs,h3,_,hl,hm,hel,hi,_,_⟩
 ·injection hcs with hcs
  subst hcs
  exact⟨none,0,0,[],rfl,⟨rfl,fun _=>⟨rfl,rfl⟩,fun hn=>absurd hn (by decide)⟩,Nat.le_refl _,Nat.zero_le _,Nat.zero_le _,fun _ hp=>(List.not_mem_nil hp).elim⟩
 ·injection hcs with hcs
  subst hcs
  have each:∀ i,i<len→∃ q:DcP×Dc,(∀ j u,(dcells q.1 q.2)[j]?=some u→W.cell? ((a.add (i*10)).add j)=some u)∧DcAs W (fun _=>True) q.1 q.2∧DcB (Rows.uptoBulk y.1) q.2:=fun i hlt=>by
   have hii:=hi i hlt
   rw[show Tryz.prog.cellsOf 56=10 by kernel_rfl] at hii
   obtain⟨q,hq⟩:∃ q,elems[i]?=some q:=⟨_,List.getElem?_eq_getElem (by omega)⟩
   rw[hq] at hii
   obtain⟨cs',h1,h2⟩:=Option.bind_eq_some_iff.1 hii
   obtain⟨P,d,rfl,hd,hb⟩:=decl_cells h2
   obtain⟨_,_,hcell⟩:=World.cells?_some h1
   have hle:Rows.uptoBulk q.1≤Rows.uptoBulk y.1:=by
    rw[h3]
    simp only[Rows.uptoBulk]
    have:=bulk_le (List.mem_map_of_mem (f:=(·.1)) (List.mem_of_getElem? hq))
    omega
   refine⟨(P,d),fun j u hu=>?_,hd,⟨Nat.le_trans hb.name hle,fun p hp=>Nat.le_trans (hb.par p hp) hle,Nat.le_trans hb.size hle,Nat.le_trans hb.wide hle⟩⟩
   have hj:j<10:=(List.getElem?_eq_some_iff.1 hu).1
   rw[hcell j hj]
   exact hu
  haveI:Inhabited (DcP×Dc):=⟨(⟨none,0,none,0⟩,⟨ByteArray.empty,0,false,[],Sx.zero⟩)⟩
  obtain⟨q,hq⟩:=choose_lt each
  refine⟨some a,len,cap,(List.range len).map q,rfl,⟨by simp,(fun e=>by cases e),fun hn=>?_⟩,hl,hm,?_,fun p hp=>?_⟩
  ·have hc0:=(hq 0 hn).1 0 _ rfl
   obtain⟨b,off,spot⟩:=a
   have hspot:spot=none:=by simpa [Addr.add] using World.cell?_spot hc0
   subst hspot
   have hb:b<W.heap.size:=by
    have:=World.block_lt_of_cell? W _ hc0
    simpa [Addr.add] using this
   refine⟨b,off,rfl,trivial,hb,fun i o ho=>?_⟩
   obtain⟨hil,rfl⟩:=get_range ho
   refine⟨fun j u hu=>?_,(hq i hil).2.1⟩
   have:=(hq i hil).1 j u hu
   rw[addr_add,addr_add] at this
   exact this
  ·have hlb:∀ l:List (DataW H),l.length≤Rows.uptoBulkAll l:=fun l=>by
    induction l with
    |nil=>exact Nat.le_refl _
    |cons d l ih=>
     have:1≤Rows.uptoBulk d:=by
      cases d with
      |lit x=>cases x <;> simp[Rows.uptoBulk]
      |_=>simp[Rows.uptoBulk]
     rw[Rows.uptoBulkAll,List.length_cons]
     omega
   have:=hlb (elems.map (·.1))
   rw[List.length_map] at this
   rw[h3]
   simp only[Rows.uptoBulk]
   omega
  ·obtain⟨i,hir,rfl⟩:=List.mem_map.1 hp
   exact(hq i (List.mem_range.1 hir)).2.2
end Go.Proofs.YtcgaeknikfaghaaGreatDoor
namespace Go.Proofs.YtcgaeknikfaghaaGreatDoor
open Go.RowKit
def Bd.sizes (D:List Dc):Nat:=(D.map (·.body.size)).sum
def Bd.macs (D:List Dc):Nat:=(D.filter (·.mac)).length
structure Bd.Few (D:List Dc) (x:Sx):Prop where
 n:D.length≤60
 size:x.size≤600
 dep:Sx.dep 65 x≤64
 par:∀ d∈D,d.par.length≤3
 deps:∀ d∈D,Sx.dep 65 d.body≤64
 sizes:Bd.sizes D≤600
 macs:Bd.macs D≤8
def FewSaid (D:List Dc) (x:Sx) (e:Ending):Prop:=∃ b,e=.returned (.bool b)∧(b=true→Bd.Few D x)
theorem Bd.sizes_take {D:List Dc} {i:Nat} {d:Dc} (h:D[i]?=some d):Bd.sizes (D.take (i+1))=Bd.sizes (D.take i)+d.body.size:=by
 unfold Bd.sizes
 rw[take_one h,List.map_append,List.sum_append]
 simp
theorem Bd.macs_take {D:List Dc} {i:Nat} {d:Dc} (h:D[i]?=some d):Bd.macs (D.take (i+1))=Bd.macs (D.take i)+if d.mac=true then 1 else 0:=by
 unfold Bd.macs
 rw[take_one h,List.filter_append,List.length_append]
 cases hm:d.mac <;> simp[hm]
theorem kfew10 (w:World) (A:Option Addr) (n c:Nat) (L:List (DcP×Dc)) (x:Sx) (xA:Option Addr) (xc:Nat) {G:Nat→Prop} (h:DcS w G A n c L) (hx:STree w AnyP x xA xc) (hn:n≤1000000000) (hxs:x.size≤1000000000) (hL:∀ q∈L,q.2.body.size≤1000000000):
  Calls Tryz.prog 11 #[.slice A n c,sval x xA xc] w fun e w'=>FewSaid (L.map (·.2)) x e∧Below w.heap.size w w':=by
 obtain⟨W0,hW0⟩:∃ W0,w.alloc (sbox x xA xc)=W0:=⟨_,rfl⟩
 have hB0:Below w.heap.size w W0:=by rw[←hW0];exact(Below.refl _ w).alloc (Nat.le_refl _) _
 have hbx:SAt W0 w.heap.size 0 x xA xc:=by rw[←hW0];exact sbox_at w x xA xc
 have HSz:=Lib.hid (rsize x.size x xA xc W0 (Nat.le_refl _) hxs (hx.kept hB0))
 have HDp:=Lib.hid fun W (hW:Below W0.heap.size W0 W)=>rDepth x xA xc W ((hx.kept hB0).kept hW)
 have HCx:Hid (∀ W,Below W0.heap.size W0 W→SAt W w.heap.size 0 x xA xc∧Below w.heap.size w W):=fun W hW=>⟨hbx.below hW,hB0.trans (hW.mono hB0.size)⟩
 have HC:Hid (∀ i,i<n→∃ b off P d,A=some ⟨b,off,none⟩∧(L.map (·.2))[i]?=some d∧STree w AnyP d.body P.B P.d∧d.body.size≤1000000000∧∀ W,Below w.heap.size w W→b<W.heap.size∧∀ j u,(dcells P d)[j]?=some u→W.cell? ⟨b,off+i*10+j,none⟩=some u):=fun i hi=>by
  obtain⟨b,off,P,d,e,_,hLi,hD,hda,hc⟩:=h.get hi
  exact⟨b,off,P,d,e,hD,⟨hda.body.le,hda.body.tree.mono fun _ _ _ _=>trivial⟩,hL _ (List.mem_of_getElem? hLi),fun W hW=>hc W (Turn.of_below hW)⟩
 have HLen:Hid ((L.map (·.2)).length=n):=by show _=_;rw[List.length_map,h.len]
 obtain⟨D,hD⟩:∃ D,L.map (·.2)=D:=⟨_,rfl⟩
 rw[hD] at HC HLen ⊢
 obtain⟨X,hX⟩:∃ X,x.size=X:=⟨_,rfl⟩
 obtain⟨dx,hdx⟩:∃ dx,Sx.dep 65 x=dx:=⟨_,rfl⟩
 have HX:=Lib.hid (And.intro hX hdx)
 rw[hX] at HSz
 rw[hdx] at HDp
 obtain⟨_,a0,a1,a2,a3,a4,a5⟩:=hbx
 simp only[Nat.zero_add] at a0 a1 a2 a3 a4 a5
 obtain⟨xn,hxn⟩:∃ xn,x.L.length=xn:=⟨_,rfl⟩
 unfold sval at HSz HDp ⊢
 rw[hxn] at HSz HDp a5 ⊢
 have hW0':w.alloc (.cells #[.bool x.list,.int .i64 x.k,.string x.T,.int .i64 x.ta,.int .i64 x.at_,.slice xA xn xc] 27)=W0:=by rw[←hW0,←hxn]
 have HXn:=Lib.hid hxn
 clear h hx hxs hL hD hX hdx hW0 hxn hB0
 by_cases h60:60<n
 ·have d1:decide ((60:Int)<(n:Int))=true:=decide_eq_true (by omega)
  have HE:=Lib.hid (HCx.out W0 (Below.refl _ _)).2
  clear HSz HDp HC HLen HX h60
  go_enter Tryz.func11,Tryz.ntmps11
  go_wp2
  go_ret
  exact⟨⟨false,rfl,fun e=>by cases e⟩,HE.out⟩
 have d1:decide ((60:Int)<(n:Int))=false:=decide_eq_false (by omega)
 have HN:Hid (n≤60):=by show n≤60;omega
 clear h60 hn
 go_enter Tryz.func11,Tryz.ntmps11
 go_wp2_with fail
 refine HSz.out.mono ?_
 rintro e w2 ⟨⟨z,rfl,z1,z2,z3⟩,b2⟩
 by_cases hz:600<z
 ·have d2:decide ((600:Int)<(z:Int))=true:=decide_eq_true (by omega)
  have HE:=Lib.hid (HCx.out w2 b2).2
  obtain⟨_,c0,c1,c2,c3,c4,c5⟩:=(HCx.out w2 b2).1
  simp only[Nat.zero_add] at c0 c1 c2 c3 c4 c5
  rw[HXn.out] at c5
  clear HSz HDp HC HLen HX z1 z2 z3 b2 hz HCx a0 a1 a2 a3 a4 a5 hW0'
  go_wp2
  go_ret
  exact⟨⟨false,rfl,fun e=>by cases e⟩,HE.out⟩
 have d2:decide ((600:Int)<(z:Int))=false:=decide_eq_false (by omega)
 have HZ:Hid (X≤600):=by show X≤600;omega
 obtain⟨_,c0,c1,c2,c3,c4,c5⟩:=(HCx.out w2 b2).1
 simp only[Nat.zero_add] at c0 c1 c2 c3 c4 c5
 rw[HXn.out] at c5
 have HD2:=Lib.hid (HDp.out w2 b2)
 have HB2:=Lib.hid b2
 clear HSz HDp z1 z2 z3 b2 hz a0 a1 a2 a3 a4 a5 hW0'
 go_wp2_with fail
 refine HD2.out.mono ?_
 rintro e w3 ⟨rfl,b3⟩
 have HB3:=Lib.hid (HCx.out w3 (HB2.out.trans (b3.mono HB2.out.size))).2
 clear HD2 b3 c0 c1 c2 c3 c4 c5 HB2 HCx HXn
 by_cases h64:64<dx
 ·have d3:decide ((64:Int)<(dx:Int))=true:=decide_eq_true (by omega)
  clear HC HLen HX h64
  go_wp2
  go_ret
  exact⟨⟨false,rfl,fun e=>by cases e⟩,HB3.out⟩
 have d3:decide ((64:Int)<(dx:Int))=false:=decide_eq_false (by omega)
 have HDx:Hid (dx≤64):=by show dx≤64;omega
 clear h64
 go_wp2
 go_loopw [5,6,7] (fun zv fv iv wr=>∃ i z f:Nat,i≤n∧z≤600∧f≤8∧iv=.int .i64 (i:Nat)∧zv=.int .i64 (z:Nat)∧fv=.int .i64 (f:Nat)∧Hid (Below w.heap.size w wr∧z=Bd.sizes (D.take i)∧f=Bd.macs (D.take i)∧∀ (j:Nat) d,j<i→D[j]?=some d→d.par.length≤3∧Sx.dep 65 d.body≤64)) (fun _ _ iv _=>n-(intOf iv).toNat)
 case atStart=>exact⟨0,0,0,Nat.zero_le _,Nat.zero_le _,Nat.zero_le _,rfl,rfl,rfl,HB3.out,rfl,rfl,fun _ _ h=>absurd h (Nat.not_lt_zero _)⟩
 case round=>
  obtain⟨i,z,f,hi,hz,hf,rfl,rfl,rfl,HI⟩:=hrel
  by_cases hlt:i<n
  ·obtain⟨b,off,P,d,rfl,hd,hT,hs,hc⟩:=HC.out i hlt
   obtain⟨hblt,hcc⟩:=hc wr HI.out.1
   have HCC:Hid (∀ W,Below wr.heap.size wr W→Below w.heap.size w W∧b<W.heap.size∧W.cell? ⟨b,off+i*10+2,none⟩=some (.bool d.mac)∧W.cell? ⟨b,off+i*10+3,none⟩=some (.slice P.A d.par.length P.c)∧W.cell? ⟨b,off+i*10+4,none⟩=some (.bool d.body.list)∧W.cell? ⟨b,off+i*10+5,none⟩=some (.int .i64 d.body.k)∧W.cell? ⟨b,off+i*10+6,none⟩=some (.string d.body.T)∧W.cell? ⟨b,off+i*10+7,none⟩=some (.int .i64 d.body.ta)∧W.cell? ⟨b,off+i*10+8,none⟩=some (.int .i64 d.body.at_)∧W.cell? ⟨b,off+i*10+9,none⟩=some (.slice P.B d.body.L.length P.d)):=fun W hW=>by
    have hw:=HI.out.1.trans (hW.mono HI.out.1.size)
    obtain⟨q1,q2⟩:=hc W hw
    exact⟨hw,q1,q2 2 _ rfl,q2 3 _ rfl,q2 4 _ rfl,q2 5 _ rfl,q2 6 _ rfl,q2 7 _ rfl,q2 8 _ rfl,q2 9 _ rfl⟩
   have HSd:=Lib.hid (rsize d.body.size d.body P.B P.d wr (Nat.le_refl _) hs (hT.kept HI.out.1))
   have HDd:=Lib.hid fun W (hW:Below wr.heap.size wr W)=>rDepth d.body P.B P.d W (hT.kept (HCC.out W hW).1)
   obtain⟨sd,hsd⟩:∃ sd,d.body.size=sd:=⟨_,rfl⟩
   obtain⟨dd,hdd⟩:∃ dd,Sx.dep 65 d.body=dd:=⟨_,rfl⟩
   obtain⟨pn,hpn⟩:∃ pn,d.par.length=pn:=⟨_,rfl⟩
   obtain⟨mac,hmac⟩:∃ mac,d.mac=mac:=⟨_,rfl⟩
   obtain⟨xl,hxl⟩:∃ xl,d.body.list=xl:=⟨_,rfl⟩
   obtain⟨xk,hxk⟩:∃ xk,d.body.k=xk:=⟨_,rfl⟩
   obtain⟨xT,hxT⟩:∃ xT,d.body.T=xT:=⟨_,rfl⟩
   obtain⟨xta,hxta⟩:∃ xta,d.body.ta=xta:=⟨_,rfl⟩
   obtain⟨xa,hxa⟩:∃ xa,d.body.at_=xa:=⟨_,rfl⟩
   obtain⟨ln,hln⟩:∃ ln,d.body.L.length=ln:=⟨_,rfl⟩
   have HNext:Hid (pn≤3→dd≤64→∀ (W:World) (z' f':Nat),Below w.heap.size w W→z'=z+sd→f'=f+(if mac=true then 1 else 0)→Below w.heap.size w W∧z'=Bd.sizes (D.take (i+1))∧f'=Bd.macs (D.take (i+1))∧∀ (j:Nat) d,j<i+1→D[j]?=some d→d.par.length≤3∧Sx.dep 65 d.body≤64):=fun p1 p2 W z' f' hW e1 e2=>by
    obtain⟨_,g1,g2,g3⟩:=HI.out
    refine⟨hW,by rw[Bd.sizes_take hd,←g1,hsd,e1],by rw[Bd.macs_take hd,←g2,hmac,e2],fun j d' hj hd'=>?_⟩
    rcases Nat.lt_or_ge j i with e|e
    ·exact g3 j d' e hd'
    ·obtain rfl:j=i:=by omega
     rw[hd] at hd'
     injection hd' with hd'
     rw[←hd',hpn,hdd]
     exact⟨p1,p2⟩
   unfold sval at HSd HDd
   rw[hxl,hxk,hxT,hxta,hxa,hln] at HSd HDd
   rw[hsd] at HSd
   rw[hdd] at HDd
   rw[hmac,hpn,hxl,hxk,hxT,hxta,hxa,hln] at HCC
   obtain⟨_,_,k2,k3,k4,k5,k6,k7,k8,k9⟩:=HCC.out wr (Below.refl _ _)
   have hlt':(i:Int)<(n:Int):=by omega
   have hi0:(0:Int)≤(i:Int):=by omega
   rw[hsd] at hs
   clear hd hT hc hcc hsd hdd hpn hmac hxl hxk hxT hxta hxa hln HI HC
   go_wp2_with fail
   refine HSd.out.mono ?_
   rintro e w4 ⟨⟨v,rfl,v1,v2,v3⟩,b4⟩
   obtain⟨q0,q1,q2,q3,q4,q5,q6,q7,q8,q9⟩:=HCC.out w4 b4
   have HB4:=Lib.hid b4
   have HD4:=Lib.hid (HDd.out w4 b4)
   have HV:Hid (v≤600→v=sd):=fun e=>by omega
   have hv9:v≤2000000000:=by
    by_cases e:v≤5000
    ·omega
    ·omega
   clear HSd HDd b4 v1 v2 v3 hs k2 k3 k4 k5 k6 k7 k8 k9 hblt
   obtain⟨zz,hzz⟩:∃ zz,z+v=zz:=⟨_,rfl⟩
   have hzi:(z:Int)+(v:Int)=(zz:Int):=by omega
   have hzw:IntKind.i64.wrap ((z:Int)+(v:Int))=(zz:Int):=by rw[hzi];exact IntWalk.i64_in _ (by omega)
   obtain⟨ff,hff⟩:∃ ff,f+1=ff:=⟨_,rfl⟩
   have hfi:(f:Int)+1=(ff:Int):=by omega
   have hfw:IntKind.i64.wrap ((f:Int)+1)=(ff:Int):=by rw[hfi];exact IntWalk.i64_in _ (by omega)
   have hiw:IntKind.i64.wrap ((i:Int)+1)=(i:Int)+1:=IntWalk.i64_in _ (by have:=HN.out;omega)
   have HZF:=Lib.hid (And.intro hzz hff)
   have hB4w:=(HCC.out w4 HB4.out).1
   have HB4w:=Lib.hid hB4w
   clear hzz hff hB4w
   by_cases p1:3<pn
   ·have e1:decide ((3:Int)<(pn:Int))=true:=decide_eq_true (by omega)
    clear HD4 HNext p1 HV HZF HCC
    cases mac
    all_goals
     go_wp2
     go_ret
     exact⟨⟨false,rfl,fun e=>by cases e⟩,HB4w.out⟩
   have e1:decide ((3:Int)<(pn:Int))=false:=decide_eq_false (by omega)
   have HP1:Hid (pn≤3):=by show pn≤3;omega
   have HB5:Hid (∀ w5,Below w4.heap.size w4 w5→Below w.heap.size w w5):=fun w5 b5=>HB4w.out.trans (b5.mono HB4w.out.size)
   clear p1 HCC HB4
   by_cases p2:64<dd
   ·have e2:decide ((64:Int)<(dd:Int))=true:=decide_eq_true (by omega)
    clear HNext p2 HV HZF
    cases mac
    all_goals
     go_wp2_with fail
     refine HD4.out.mono ?_
     rintro e w5 ⟨rfl,b5⟩
     have HE:=Lib.hid (HB5.out w5 b5)
     clear HD4 b5
     go_wp2
     go_ret
     exact⟨⟨false,rfl,fun e=>by cases e⟩,HE.out⟩
   have e2:decide ((64:Int)<(dd:Int))=false:=decide_eq_false (by omega)
   have HP2:Hid (dd≤64):=by show dd≤64;omega
   clear p2
   by_cases p3:600<zz
   ·have e3:decide ((600:Int)<(zz:Int))=true:=decide_eq_true (by omega)
    clear HNext p3 HV HZF
    cases mac
    all_goals
     go_wp2_with fail
     refine HD4.out.mono ?_
     rintro e w5 ⟨rfl,b5⟩
     have HE:=Lib.hid (HB5.out w5 b5)
     clear HD4 b5
     go_wp2
     go_ret
     exact⟨⟨false,rfl,fun e=>by cases e⟩,HE.out⟩
   have e3:decide ((600:Int)<(zz:Int))=false:=decide_eq_false (by omega)
   have hzz6:zz≤600:=by omega
   have HVV:Hid (zz=z+sd):=by
    have h1:=HZF.out.1
    have h2:=HV.out (by omega)
    show zz=z+sd
    omega
   have hff9:ff≤9:=by have:=HZF.out.2;omega
   have HFF:Hid (ff=f+1):=HZF.out.2.symm
   clear p3 HV HZF
   cases mac with
   |false=>
    have e4:decide ((8:Int)<(f:Int))=false:=decide_eq_false (by omega)
    go_wp2_with fail
    refine HD4.out.mono ?_
    rintro e w5 ⟨rfl,b5⟩
    have HE:=Lib.hid (HNext.out HP1.out HP2.out w5 zz f (HB5.out w5 b5) HVV.out (by simp))
    clear HD4 b5 HNext
    go_wp2
    go_roundw
    case rel=>exact⟨i+1,zz,f,by omega,hzz6,hf,by go_num,rfl,rfl,HE.out⟩
    case measure=>simp[intOf];omega
   |true=>
    by_cases p4:8<ff
    ·have e4:decide ((8:Int)<(ff:Int))=true:=decide_eq_true (by omega)
     clear HNext p4
     go_wp2_with fail
     refine HD4.out.mono ?_
     rintro e w5 ⟨rfl,b5⟩
     have HE:=Lib.hid (HB5.out w5 b5)
     clear HD4 b5
     go_wp2
     go_ret
     exact⟨⟨false,rfl,fun e=>by cases e⟩,HE.out⟩
    ·have e4:decide ((8:Int)<(ff:Int))=false:=decide_eq_false (by omega)
     have hf8:ff≤8:=by omega
     go_wp2_with fail
     refine HD4.out.mono ?_
     rintro e w5 ⟨rfl,b5⟩
     have HE:=Lib.hid (HNext.out HP1.out HP2.out w5 zz ff (HB5.out w5 b5) HVV.out (by have:=HFF.out;simp;omega))
     clear HD4 b5 HNext
     go_wp2
     go_roundw
     case rel=>exact⟨i+1,zz,ff,by omega,hzz6,hf8,by go_num,rfl,rfl,HE.out⟩
     case measure=>simp[intOf];omega
  ·obtain rfl:i=n:=by omega
   have hlt':¬(i:Int)<(i:Int):=by omega
   have HE:Hid (Bd.Few D x∧Below w.heap.size w wr):=by
    obtain⟨g0,g1,g2,g3⟩:=HI.out
    have ht:D.take i=D:=List.take_of_length_le (by rw[HLen.out];exact Nat.le_refl _)
    rw[ht] at g1 g2
    have hall:∀ d∈D,d.par.length≤3∧Sx.dep 65 d.body≤64:=fun d hd=>by
     obtain⟨j,hj,e⟩:=List.getElem_of_mem hd
     exact g3 j d (by rw[←HLen.out];exact hj) (by rw[List.getElem?_eq_getElem hj,e])
    exact⟨⟨by rw[HLen.out];exact HN.out,by rw[HX.out.1];exact HZ.out,by rw[HX.out.2];exact HDx.out,fun d hd=>(hall d hd).1,fun d hd=>(hall d hd).2,by omega,by omega⟩,g0⟩
   clear HI HC HLen HX
   go_wp2
   go_ret
   exact⟨⟨true,rfl,fun _=>HE.out.1⟩,HE.out.2⟩
end Go.Proofs.YtcgaeknikfaghaaGreatDoor
namespace Go.Proofs.YtcgaeknikfaghaaGreatDoor
open Go.RowKit
theorem text_eq (a b:ByteArray):(a.toList == b.toList)=decide (a=b):=by
 rw[ByteArray.toList_eq,ByteArray.toList_eq]
 by_cases e:a=b
 ·subst e
  rw[decide_eq_true rfl,beq_iff_eq.2 rfl]
 ·rw[decide_eq_false e,beq_eq_false_iff_ne]
  exact fun h=>e (bytes_eq h)
def Bd.sort (x:Sx):Int×Int:=if x.list=false∧x.k=3 then(if x.T.data.toList=[66,111,111,108] then(1,0) else if x.T.data.toList=[73,110,116] then(2,0) else if x.T.data.toList=[83,116,114,105,110,103] then(3,0) else(0,101)) else(0,101)
theorem ksort10 (w:World) (x:Sx) (A:Option Addr) (c:Nat):
  Calls Tryz.prog 19 #[sval x A c] w fun e w'=>e=.returned (.tuple #[.int .i64 (Bd.sort x).1,.int .i64 (Bd.sort x).2])∧Below w.heap.size w w':=by
 obtain⟨W0,hW0⟩:∃ W0,w.alloc (sbox x A c)=W0:=⟨_,rfl⟩
 have hB0:Below w.heap.size w W0:=by rw[←hW0];exact(Below.refl _ w).alloc (Nat.le_refl _) _
 obtain⟨_,b0,b1,b2,b3,b4,b5⟩:SAt W0 w.heap.size 0 x A c:=by rw[←hW0];exact sbox_at w x A c
 simp only[Nat.zero_add] at b0 b1 b2 b3 b4 b5
 obtain⟨xn,hxn⟩:∃ xn,x.L.length=xn:=⟨_,rfl⟩
 have HNm:=Lib.hid (knameOf W0 x A c)
 obtain⟨T,hT⟩:∃ T:ByteArray,(if x.list=false∧x.k=3 then x.T else⟨#[]⟩)=T:=⟨_,rfl⟩
 have hs:Bd.sort x=(if T.data.toList=[66,111,111,108] then((1:Int),(0:Int)) else if T.data.toList=[73,110,116] then(2,0) else if T.data.toList=[83,116,114,105,110,103] then(3,0) else(0,101)):=by
  unfold Bd.sort
  split
  ·rename_i h
   rw[if_pos h] at hT
   rw[hT]
  ·rename_i h
   rw[if_neg h] at hT
   rw[←hT]
   rfl
 rw[hs]
 rw[hT] at HNm
 obtain⟨is,his⟩:∃ is,decide (x.list=false∧x.k=3)=is:=⟨_,rfl⟩
 rw[his] at HNm
 unfold sval at HNm ⊢
 rw[hxn] at HNm b5 ⊢
 have hW0':w.alloc (.cells #[.bool x.list,.int .i64 x.k,.string x.T,.int .i64 x.ta,.int .i64 x.at_,.slice A xn c] 27)=W0:=by rw[←hW0,←hxn]
 have HB:=Lib.hid hB0
 clear hT hs his hB0 hW0 hxn
 by_cases t1:T.data.toList=[66,111,111,108]
 ·rw[if_pos t1]
  have e1:=lit_yes t1
  clear t1
  go_enter Tryz.func19,Tryz.ntmps19
  go_wp2_with fail
  refine HNm.out.mono ?_
  rintro e w1 ⟨rfl,b1⟩
  have HE:=Lib.hid (HB.out.trans (b1.mono HB.out.size))
  clear HNm b1 HB b0 b2 b3 b4 b5
  go_wp2
  go_ret2
  exact⟨rfl,HE.out⟩
 rw[if_neg t1]
 have e1:=lit_no t1
 clear t1
 by_cases t2:T.data.toList=[73,110,116]
 ·rw[if_pos t2]
  have e2:=lit_yes t2
  clear t2
  go_enter Tryz.func19,Tryz.ntmps19
  go_wp2_with fail
  refine HNm.out.mono ?_
  rintro e w1 ⟨rfl,b1⟩
  have HE:=Lib.hid (HB.out.trans (b1.mono HB.out.size))
  clear HNm b1 HB b0 b2 b3 b4 b5
  go_wp2
  go_ret2
  exact⟨rfl,HE.out⟩
 rw[if_neg t2]
 have e2:=lit_no t2
 clear t2
 by_cases t3:T.data.toList=[83,116,114,105,110,103]
 ·rw[if_pos t3]
  have e3:=lit_yes t3
  clear t3
  go_enter Tryz.func19,Tryz.ntmps19
  go_wp2_with fail
  refine HNm.out.mono ?_
  rintro e w1 ⟨rfl,b1⟩
  have HE:=Lib.hid (HB.out.trans (b1.mono HB.out.size))
  clear HNm b1 HB b0 b2 b3 b4 b5
  go_wp2
  go_ret2
  exact⟨rfl,HE.out⟩
 rw[if_neg t3]
 have e3:=lit_no t3
 clear t3
 go_enter Tryz.func19,Tryz.ntmps19
 go_wp2_with fail
 refine HNm.out.mono ?_
 rintro e w1 ⟨rfl,b1⟩
 have HE:=Lib.hid (HB.out.trans (b1.mono HB.out.size))
 clear HNm b1 HB b0 b2 b3 b4 b5
 go_wp2
 go_ret2
 exact⟨rfl,HE.out⟩
structure OneSaid (w:World) (x:Sx) (e:Ending) (w':World):Prop where
 val:∃ A c,e=.returned (sval x A c)∧STree w' (fun b _=>w.heap.size≤b) x A c
 bel:Below w.heap.size w w'
theorem kRead10 (w:World) (s:ByteArray) (x:Sx) (hs:s.size≤4000000) (h:ReadOf s [⟨x,0,0⟩]):
  Calls Tryz.prog 29 #[.string s] w fun e w'=>OneSaid w x e w':=by
 obtain⟨W0,hW0⟩:∃ W0,w.alloc (.cells #[.bool false,.int .i64 0,.string ⟨#[]⟩,.int .i64 0,.int .i64 0,.slice none 0 0] 27)=W0:=⟨_,rfl⟩
 have hB0:Below w.heap.size w W0:=by rw[←hW0];exact(Below.refl _ w).alloc (Nat.le_refl _) _
 have hL0:Lies W0 w.heap.size 27 #[.bool false,.int .i64 0,.string ByteArray.empty,.int .i64 0,.int .i64 0,.slice none 0 0]:=by rw[←hW0];exact Lies.new w _ _
 have hW0s:W0.heap.size=w.heap.size+1:=by rw[←hW0];simp
 have HR:=Lib.hid (rread s W0 hs)
 have HH:=Lib.hid h
 have HB:=Lib.hid (And.intro hB0 (And.intro hL0 hW0s))
 obtain⟨Post,hPost⟩:∃ Post:Ending→World→Prop,Post=fun e w'=>OneSaid w x e w':=⟨_,rfl⟩
 rw[←hPost]
 have HPo:=Lib.hid hPost
 clear hs h hB0 hL0 hW0s hPost
 go_enter Tryz.func29,Tryz.ntmps29
 go_wp2_with fail
 refine HR.out.mono ?_
 rintro e w1 ⟨⟨A1,c1,li,rfl,_,ho,hr⟩,b1⟩
 have hI:=hr.uniq HH.out
 have hl:li.length=1:=by have:=congrArg List.length hI;rw[List.length_map] at this;exact this
 obtain⟨m,rfl⟩:=List.length_eq_one_iff.1 hl
 have hm:m.pure=⟨x,0,0⟩:=by simpa using hI
 obtain⟨mx,mA,mc,mE,ma⟩:=m
 simp only[MItem.pure,SItem.mk.injEq] at hm
 obtain⟨rfl,rfl,rfl⟩:=hm
 obtain⟨hB0,hL0,hs0⟩:=HB.out
 have hT:=ho.trees _ (List.mem_singleton.2 rfl)
 simp only at hT
 obtain⟨b,rfl,hb,hc⟩:∃ b,A1=some ⟨b,0,none⟩∧b<w1.heap.size∧∀ j u,(icells ⟨mx,mA,mc,0,0⟩)[j]?=some u→w1.cell? ⟨b,j,none⟩=some u:=by
  have hrow:=ho.row
  rcases hrow.2 with⟨_,e⟩|⟨g,cap,cur,e,_,hg,_⟩
  ·cases e
  ·injection e with e1 _ _
   refine⟨g,e1,(Array.getElem?_eq_some_iff.1 hg).1,fun j u hu=>?_⟩
   have:=hrow.cells (g:=g) (by rw[e1];rfl) j u (by simpa [icellsOf] using hu)
   simpa [addr_add] using this
 have i0:=hc 0 _ rfl
 have i1:=hc 1 _ rfl
 have i2:=hc 2 _ rfl
 have i3:=hc 3 _ rfl
 have i4:=hc 4 _ rfl
 have i5:=hc 5 _ rfl
 have i6:=hc 6 _ rfl
 have hL1:=(b1.block _ hL0.lt).trans hL0
 have hL1':Lies w1 w.heap.size 27 #[.bool false,.int .i64 0,.string ⟨#[]⟩,.int .i64 0,.int .i64 0,.slice none 0 0]:=hL1
 have fz:=fun j=>hL1'.free j
 have hlt:=hL1'.lt
 have HE:Hid (∀ W,Below w.heap.size w W→TreeL W (fun b _=>w.heap.size≤b) mA mx.L→OneSaid w mx (.returned (sval mx mA mc)) W):=fun W hW hWT=>⟨⟨mA,mc,rfl,hT.le,hWT⟩,hW⟩
 have HT:Hid (TreeL w1 (fun b _=>w.heap.size<b) mA mx.L):=hT.tree.mono fun b _ _ h=>by have:=h.1;omega
 have HB1:Hid (Below w.heap.size w w1):=hB0.trans (b1.mono hB0.size)
 have HL1:=Lib.hid hL1'
 obtain⟨xn,hxn⟩:∃ xn,mx.L.length=xn:=⟨_,rfl⟩
 obtain⟨xl,hxl⟩:∃ xl,mx.list=xl:=⟨_,rfl⟩
 obtain⟨xk,hxk⟩:∃ xk,mx.k=xk:=⟨_,rfl⟩
 obtain⟨xT,hxT⟩:∃ xT,mx.T=xT:=⟨_,rfl⟩
 obtain⟨xta,hxta⟩:∃ xta,mx.ta=xta:=⟨_,rfl⟩
 obtain⟨xa,hxa⟩:∃ xa,mx.at_=xa:=⟨_,rfl⟩
 simp only at i0 i1 i2 i3 i4 i5 i6
 unfold sval at HE
 rw[hxl,hxk,hxT,hxta,hxa,hxn] at HE
 rw[hxl] at i0
 rw[hxk] at i1
 rw[hxT] at i2
 rw[hxta] at i3
 rw[hxa] at i4
 rw[hxn] at i5
 have f0:=fz 0
 have f1:=fz 1
 have f2:=fz 2
 have f3:=fz 3
 have f4:=fz 4
 have f5:=fz 5
 have r0:w1.cell? ⟨w.heap.size,0,none⟩=some (.bool false):=by rw[hL1'.cell];rfl
 have r1:w1.cell? ⟨w.heap.size,1,none⟩=some (.int .i64 0):=by rw[hL1'.cell];rfl
 have r2:w1.cell? ⟨w.heap.size,2,none⟩=some (.string ⟨#[]⟩):=by rw[hL1'.cell];rfl
 have r3:w1.cell? ⟨w.heap.size,3,none⟩=some (.int .i64 0):=by rw[hL1'.cell];rfl
 have r4:w1.cell? ⟨w.heap.size,4,none⟩=some (.int .i64 0):=by rw[hL1'.cell];rfl
 have r5:w1.cell? ⟨w.heap.size,5,none⟩=some (.slice none 0 0):=by rw[hL1'.cell];rfl
 have hne:b≠w.heap.size:=fun e=>by
  have h1:=ho.row.lt b rfl
  omega
 clear hL1 hL1' hT hB0 hL0 hs0 b1 hl hI hr ho HH HB HR hc fz hxl hxk hxT hxta hxa hxn
 have hl6:=(((((HL1.out.put 0 (.bool xl)).put 1 (.int .i64 xk)).put 2 (.string xT)).put 3 (.int .i64 xta)).put 4 (.int .i64 xa)).put 5 (.slice mA xn mc)
 have s0:=hl6.cell 0
 have s1:=hl6.cell 1
 have s2:=hl6.cell 2
 have s3:=hl6.cell 3
 have s4:=hl6.cell 4
 have s5:=hl6.cell 5
 simp at s0 s1 s2 s3 s4 s5
 have t6:∀ F:Nat→Prop,F w.heap.size→∀ v,Turn F v w1→Turn F v ((((((w1.setCell ⟨w.heap.size,0,none⟩ (.bool xl)).setCell ⟨w.heap.size,1,none⟩ (.int .i64 xk)).setCell ⟨w.heap.size,2,none⟩ (.string xT)).setCell ⟨w.heap.size,3,none⟩ (.int .i64 xta)).setCell ⟨w.heap.size,4,none⟩ (.int .i64 xa)).setCell ⟨w.heap.size,5,none⟩ (.slice mA xn mc)):=fun F hF v h=>
  (((((h.put (p:=⟨w.heap.size,0,none⟩) (.inl hF) _).put (p:=⟨w.heap.size,1,none⟩) (.inl hF) _).put (p:=⟨w.heap.size,2,none⟩) (.inl hF) _).put (p:=⟨w.heap.size,3,none⟩) (.inl hF) _).put (p:=⟨w.heap.size,4,none⟩) (.inl hF) _).put (p:=⟨w.heap.size,5,none⟩) (.inl hF) _
 have HFin:=Lib.hid (HE.out _ ((t6 (fun k=>w.heap.size≤k) (Nat.le_refl _) w (Turn.of_below HB1.out)).below (Nat.le_refl _) fun _ h=>h) (HT.out.turn9 (G':=fun b=>w.heap.size≤b) (t6 (fun k=>k=w.heap.size) rfl w1 (Turn.refl _ _)) fun k _ hk=>⟨by omega,by omega⟩))
 clear HE HT HB1 HL1 hl6 t6
 go_wp2
 rw[HPo.out]
 exact bodyPost_ret (v:=.agg #[.bool xl,.int .i64 xk,.string xT,.int .i64 xta,.int .i64 xa,.slice mA xn mc]) (by simp[results,Tryz.results29,go_sem,s0,s1,s2,s3,s4,s5]) rfl HFin.out
end Go.Proofs.YtcgaeknikfaghaaGreatDoor
