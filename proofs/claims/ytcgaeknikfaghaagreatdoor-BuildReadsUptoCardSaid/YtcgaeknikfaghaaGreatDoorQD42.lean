/- What the proofs of this claim use, text by text. -/
import Derived.Test.YtcgaeknikfaghaaGreatDoorQD36
import Derived.Test.YtcgaeknikfaghaaGreatDoorQD39
import Derived.Test.YtcgaeknikfaghaaGreatDoorQD41
set_option linter.unusedSimpArgs false
set_option linter.unusedVariables false
set_option maxRecDepth 100000
set_option maxHeartbeats 25600000
namespace Go.Proofs.YtcgaeknikfaghaaGreatDoor
open Go.RowKit
theorem buildReads_walk (w:World) (A:Option Addr) (n c:Nat) (L:List (DcP×Dc)) (x:Sx) (xA:Option Addr) (xc:Nat) (h:Came w A n c L x xA xc) (hT:Pow9 w) (hK:Ask9 w) (hG:Gl w):
  Calls Tryz.prog 8 #[.slice A n c,sval x xA xc] w fun e w'=>e=.returned (.bool true)∧Below w.heap.size w w':=by
 obtain⟨W0,hW0⟩:∃ W0,w.alloc (sbox x xA xc)=W0:=⟨_,rfl⟩
 have hB0:Below w.heap.size w W0:=by rw[←hW0];exact(Below.refl _ w).alloc (Nat.le_refl _) _
 have HBox:Hid (∀ W,Below W0.heap.size W0 W→XCells W w.heap.size x xA xc):=fun W hW=>xbox w x xA xc (by rw[hW0];exact hW)
 have h0:=h.below hB0
 have hT0:=hT.on hB0
 have hK0:=hK.below hB0
 have hG0:=hG.below hB0
 have HA:=Lib.hid (kawake10 W0 hT0 hK0 hG0)
 have HF:=Lib.hid fun(W:World) (hW:Below W0.heap.size W0 W)=>(h0.below hW).few
 have HPr:=Lib.hid fun(W:World) (hW:Below W0.heap.size W0 W)=>kPrintB x xA xc W (by have:=h0.size;omega) (by have:=h0.wide;omega) (h0.tree.kept hW) (MaxL.below hG0.max hW)
 have HRd:=Lib.hid fun(W:World) (hW:Below W0.heap.size W0 W) (s:ByteArray) (hs:s.size≤100000000)=>kread s W hs (MaxL.below hG0.max hW)
 have HLater:Hid (∀ W,Below W0.heap.size W0 W→Came W A n c L x xA xc∧Pow9 W∧Ask9 W∧Gl W):=fun W hW=>⟨h0.below hW,hT0.on hW,hK0.below hW,hG0.below hW⟩
 have HB0:=Lib.hid hB0
 have HAg:=Lib.hid (Bd.again (L.map (·.2)) n [] [] x Tm.Inv.nil (fun _ h=>(List.not_mem_nil h).elim))
 have HSt:=Lib.hid (Bd.good (L.map (·.2)) n x [] [] Tm.Inv.nil (fun _ h=>(List.not_mem_nil h).elim))
 have HLe:=Lib.hid (Bd.tm_len (L.map (·.2)) n x [] [] (Nat.zero_le _))
 obtain⟨_,b0,b1,b2,b3,b4,b5⟩:=(sbox_at w x xA xc)
 rw[hW0] at b0 b1 b2 b3 b4 b5
 simp only[Nat.zero_add] at b0 b1 b2 b3 b4 b5
 clear h h0 hT hK hG hT0 hK0 hG0 hB0
 obtain⟨xn,hxn⟩:∃ xn,x.L.length=xn:=⟨_,rfl⟩
 have HXn:=Lib.hid hxn
 have hsv:sval x xA xc=.agg #[.bool x.list,.int .i64 x.k,.string x.T,.int .i64 x.ta,.int .i64 x.at_,.slice xA xn xc]:=by unfold sval;rw[hxn]
 have HSv:=Lib.hid hsv
 rw[hsv]
 rw[hxn] at b5
 have hW0':w.alloc (.cells #[.bool x.list,.int .i64 x.k,.string x.T,.int .i64 x.ta,.int .i64 x.at_,.slice xA xn xc] 27)=W0:=by rw[←hW0,←hxn]
 clear hW0 hxn hsv
 go_enter Tryz.func8,Tryz.ntmps8
 go_wp2_with fail
 refine HA.out.mono ?_
 rintro e w1 ⟨rfl,b1'⟩
 have HB1:=Lib.hid b1'
 clear HA b1' b0 b1 b2 b3 b4 b5 hW0'
 obtain⟨c0,c1,c2,c3,c4,c5⟩:=HBox.out w1 HB1.out
 rw[HXn.out] at c5
 have HF1:=Lib.hid (HF.out w1 HB1.out)
 rw[HSv.out] at HF1
 clear HF
 go_wp2_with fail
 refine HF1.out.mono ?_
 rintro e w2 ⟨⟨bb,rfl,hb⟩,b2'⟩
 have hb2:=HB1.out.trans (b2'.mono HB1.out.size)
 have HB2:=Lib.hid hb2
 have HP2:=Lib.hid (HPr.out w2 hb2)
 rw[HSv.out] at HP2
 clear HF1 HB1 b2' c0 c1 c2 c3 c4 c5 hb2 HPr
 obtain⟨c0,c1,c2,c3,c4,c5⟩:=HBox.out w2 HB2.out
 rw[HXn.out] at c5
 cases hpr:x.print with
 |none=>
  rw[hpr] at HP2
  clear hb hpr HRd HLater HAg HSt HLe HSv HXn
  go_wp2_with fail
  refine HP2.out.mono ?_
  rintro e w3 ⟨rfl,b3'⟩
  have HE:=Lib.hid (HB0.out.trans ((HB2.out.trans (b3'.mono HB2.out.size)).mono HB0.out.size))
  clear HP2 b3' HB0 HB2 HBox c0 c1 c2 c3 c4 c5
  cases bb
  all_goals
   go_wp2
   go_ret
   exact⟨rfl,HE.out⟩
 |some t=>
  rw[hpr] at HP2
  go_wp2_with fail
  refine HP2.out.mono ?_
  rintro e w3 ⟨⟨V,rfl,hV⟩,b3'⟩
  have hb3:=HB2.out.trans (b3'.mono HB2.out.size)
  have HB3:=Lib.hid hb3
  have HE:=Lib.hid (HB0.out.trans (hb3.mono HB0.out.size))
  clear HP2 b3' HB2 c0 c1 c2 c3 c4 c5 hb3
  cases bb with
  |false=>
   clear hb hpr HRd HLater HAg HSt HLe HSv HXn hV HB0 HB3 HBox
   go_wp2
   go_ret
   exact⟨rfl,HE.out⟩
  |true=>
   have hf:=hb rfl
   obtain⟨vz,hvz⟩:∃ vz,V.size=vz:=⟨_,rfl⟩
   by_cases hlong:16000<vz
   ·have d1:decide ((16000:Int)<(vz:Int))=true:=decide_eq_true (by omega)
    clear hb hf hpr HRd HLater HAg HSt HLe HSv HXn hV HB0 HB3 HBox hlong
    go_wp2
    go_ret
    exact⟨rfl,HE.out⟩
   have d1:decide ((16000:Int)<(vz:Int))=false:=decide_eq_false (by omega)
   have hR:=HRd.out w3 HB3.out V (by omega)
   have HR3:=Lib.hid hR
   have htx:¬64<Sx.dep 65 x∧x.text=some V.data.toList:=by
    have h1:x.print=if 64<Sx.dep 65 x then none else x.text:=rfl
    rw[hpr] at h1
    split at h1
    ·cases h1
    ·rename_i h2
     exact⟨h2,by rw[hV];exact h1.symm⟩
   have HBack:=Lib.hid fun(R:List SItem) (hr:ReadOf V R)=>Sx.back htx.1 htx.2 (by have:=hf.size;omega) (by omega) hr
   have HFew:=Lib.hid hf
   clear hb hf hpr hV hR htx HRd hlong HE
   go_wp2_with fail
   refine HR3.out.mono ?_
   rintro e w4 ⟨⟨A1,c1,li,rfl,_,ho,hr⟩,b4'⟩
   obtain⟨X,a,hX,hkey⟩:=HBack.out _ hr
   have hpl:=hr.plain ⟨X,0,a⟩ (by rw[hX];simp)
   simp only at hpl
   have hl:li.length=1:=by have:=congrArg List.length hX;rw[List.length_map] at this;exact this
   obtain⟨m,rfl⟩:=List.length_eq_one_iff.1 hl
   obtain⟨mx,mA,mc,mE,ma⟩:=m
   have hm:(MItem.mk mx mA mc mE ma).pure=⟨X,0,a⟩:=by simpa using hX
   simp only[MItem.pure,SItem.mk.injEq] at hm
   obtain⟨rfl,rfl,rfl⟩:=hm
   have hTr:=ho.trees _ (List.mem_singleton.2 rfl)
   simp only at hTr
   obtain⟨gb,rfl,hgb,hgc⟩:∃ b,A1=some ⟨b,0,none⟩∧b<w4.heap.size∧∀ j u,(icells ⟨mx,mA,mc,0,ma⟩)[j]?=some u→w4.cell? ⟨b,j,none⟩=some u:=by
    have hrow:=ho.row
    rcases hrow.2 with⟨_,e⟩|⟨g,cap,cur,e,_,hg,_⟩
    ·cases e
    ·injection e with e1 _ _
     refine⟨g,e1,(Array.getElem?_eq_some_iff.1 hg).1,fun j u hu=>?_⟩
     have:=hrow.cells (g:=g) (by rw[e1];rfl) j u (by simpa [icellsOf] using hu)
     simpa [addr_add] using this
   have hb4:=HB3.out.trans (b4'.mono HB3.out.size)
   obtain⟨hc4,hT4,hK4,hG4⟩:=HLater.out w4 hb4
   have hbeg:=hc4.begin HFew.out hT4 hK4 (Below.refl _ w4)
   obtain⟨f1,f2⟩:=Sx.Plain.fits mx.size mx x (Nat.le_refl _) hpl hkey
   have hfin:Sx.Fine x:=Sx.Fine.of _ x (Nat.le_refl _) (by have:=HFew.out.size;omega) hc4.wide
   have hroom:Mk.room (L.map (·.2)) n≤660:=(HFew.out.ok fun d hd=>by
    obtain⟨q,hq,rfl⟩:=List.mem_map.1 hd
    exact hc4.dcs q hq).2 n (by rw[List.length_map,hc4.dc.len];exact Nat.le_refl _)
   have HTx:=Lib.hid fun(W:World) (b:Nat) (F:Nat→Prop) (N:List Nd) (hB:Mk.Begin w4 W b F N A n c L) (hI:Tm.Inv N) (hN:N.length≤20000)=>hc4.term HFew.out hG4 hB hI hN
   have HTX:=Lib.hid fun(W:World) (b:Nat) (F:Nat→Prop) (N:List Nd) (hB:Mk.Begin w4 W b F N A n c L) (hI:Tm.Inv N) (hN:N.length≤20000)=>kTerm w4 W b F N A n c L mx mA mc hB hG4 hI hN ⟨hTr.le,hTr.tree.imp hB.base.size (fun b off hlt _ j _=>hB.base.cell (p:=⟨b,off+j,none⟩) hlt) fun b off hlt _ e=>by have:=hB.low b e;omega⟩ (f2 hfin) (by have:=HFew.out.size;omega)
   have HSame:=Lib.hid fun(N:List Nd)=>Bd.key_same (L.map (·.2)) n mx.size mx x (Nat.le_refl _) hkey [] N
   have HCell:Hid (∀ W,Below w4.heap.size w4 W→XCells W gb mx mA mc∧gb<W.heap.size):=fun W hW=>by
    have k:=fun j u hu=>(hW.cell (p:=⟨gb,j,none⟩) hgb).trans (hgc j u hu)
    exact⟨⟨k 0 _ rfl,k 1 _ rfl,k 2 _ rfl,k 3 _ rfl,k 4 _ rfl,k 5 _ rfl⟩,Nat.lt_of_lt_of_le hgb hW.size⟩
   have HB4:=Lib.hid hb4
   obtain⟨W5,hW5⟩:∃ W5,w4.alloc (.cells Z9 37)=W5:=⟨_,rfl⟩
   rw[hW5] at hbeg
   have HT1:=Lib.hid (HTx.out W5 w4.heap.size _ [] hbeg Tm.Inv.nil (Nat.zero_le _))
   rw[HSv.out] at HT1
   obtain⟨c0,c1',c2,c3,c4,c5⟩:=HBox.out W5 (hb4.trans (hbeg.base.mono hb4.size))
   rw[HXn.out] at c5
   have HBeg:=Lib.hid hbeg
   have hli:([MItem.mk mx mA mc 0 ma]:List MItem).length=1:=rfl
   rw[hli]
   obtain⟨T,hTT⟩:∃ T,Bd.tm (L.map (·.2)) n [] [] x=T:=⟨_,rfl⟩
   rw[hTT] at HT1 HSt HAg HLe
   obtain⟨N1,idz,er⟩:=T
   simp only at HAg HLe
   obtain⟨⟨hI1,_⟩,_⟩:=HSt.out
   simp only[hTT] at hI1
   have HI1:Hid (Tm.Inv N1):=hI1
   clear hX hkey hpl hl ho hr hTr hgb hgc hb4 hc4 hT4 hK4 hG4 hbeg f1 f2 hfin hroom hTT hI1 HSt hli HBack HR3 HLater HFew b4' HB3
   go_wp2_with fail
   refine HT1.out.mono ?_
   rintro e w6 ⟨rfl,F6,k6,t6,f6⟩
   have hb6:=HBeg.out.next k6 t6 f6
   have HT2:=Lib.hid (HTX.out w6 w4.heap.size F6 N1 hb6 HI1.out HLe.out)
   rw[HSame.out,HAg.out] at HT2
   obtain⟨xn2,hxn2⟩:∃ xn2,mx.L.length=xn2:=⟨_,rfl⟩
   obtain⟨⟨g0,g1,g2,g3,g4,g5⟩,hgl⟩:=HCell.out w6 hb6.base
   unfold sval at HT2
   rw[hxn2] at HT2 g5
   have HB6:=Lib.hid hb6
   clear HT1 HBeg k6 t6 f6 hb6 HTx HTX HSame HAg HLe HI1 HCell c0 c1' c2 c3 c4 c5 hxn2 HBox
   go_wp2_with fail
   refine HT2.out.mono ?_
   rintro e w7 ⟨rfl,F7,k7,t7,f7⟩
   have hb7:=(HB6.out.next k7 t7 f7).base
   have HE:=Lib.hid (HB0.out.trans ((HB4.out.trans (hb7.mono HB4.out.size)).mono HB0.out.size))
   clear HT2 k7 t7 f7 hb7 HB6 g0 g1 g2 g3 g4 g5 HB4 HB0
   go_wp2
   go_ret
   exact⟨rfl,HE.out⟩
end Go.Proofs.YtcgaeknikfaghaaGreatDoor
