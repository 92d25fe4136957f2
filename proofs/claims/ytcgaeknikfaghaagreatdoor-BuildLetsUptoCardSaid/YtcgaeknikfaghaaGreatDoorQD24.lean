/- What the proofs of this claim use, text by text. -/
import Derived.Test.YtcgaeknikfaghaaGreatDoorQD23
import Derived.Test.YtcgaeknikfaghaaGreatDoorQD19
import Derived.StillTailTactics
import Derived.Deep.RegionHeld3
set_option linter.unusedSimpArgs false
set_option linter.unusedVariables false
set_option maxRecDepth 100000
set_option maxHeartbeats 25600000
namespace Go.Proofs.YtcgaeknikfaghaaGreatDoor
open Go.RowKit Go.Shelf
theorem Rd.str {w:World} {G:Nat→Prop} {A:Option Addr} {n c i:Nat} {l:List ByteArray} (h:Rd w G A n c (l.map .string)) (hi:i<n):∃ b off s,A=some ⟨b,off,none⟩∧l[i]?=some s∧∀ W,Below w.heap.size w W→b<W.heap.size∧W.cell? ⟨b,off+i,none⟩=some (.string s):=by
 obtain⟨b,off,e,_,hb,hc⟩:=h.at_ (by omega)
 have hl:=h.len
 rw[List.length_map] at hl
 obtain⟨s,hs⟩:∃ s,l[i]?=some s:=⟨_,List.getElem?_eq_getElem (by omega)⟩
 exact⟨b,off,s,e,hs,fun W hW=>⟨Nat.lt_of_lt_of_le hb hW.size,(hW.cell (p:=⟨b,off+i,none⟩) hb).trans (hc i _ (by rw[List.getElem?_map,hs];rfl))⟩⟩
theorem knameOf (w:World) (x:Sx) (A:Option Addr) (c:Nat):
  Calls Tryz.prog 52 #[sval x A c] w fun e w'=>e=.returned (.tuple #[.string (if x.list=false∧x.k=3 then x.T else⟨#[]⟩),.bool (decide (x.list=false∧x.k=3))])∧Below w.heap.size w w':=by
 obtain⟨xl,xk,xT,xta,xa,xL⟩:=x
 unfold sval
 simp only
 obtain⟨n,hn⟩:∃ n,xL.length=n:=⟨_,rfl⟩
 rw[hn]
 clear hn
 cases xl with
 |true=>
  rw[if_neg (by simp),decide_eq_false (by simp)]
  go_enter Tryz.func52,Tryz.ntmps52
  go_wp2
  go_ret2
  exact⟨rfl,(Below.refl _ w).alloc (Nat.le_refl _) _⟩
 |false=>
  by_cases h3:xk=3
  ·subst h3
   rw[if_pos (by simp),decide_eq_true (by simp)]
   go_enter Tryz.func52,Tryz.ntmps52
   go_wp2
   go_ret2
   exact⟨rfl,(Below.refl _ w).alloc (Nat.le_refl _) _⟩
  ·rw[if_neg (by simp[h3]),decide_eq_false (by simp[h3])]
   have hb:(xk != 3)=true:=by simp[h3]
   clear h3
   go_enter Tryz.func52,Tryz.ntmps52
   go_wp2
   go_ret2
   exact⟨rfl,(Below.refl _ w).alloc (Nat.le_refl _) _⟩
def anyRes (l:List ByteArray):Bool:=l.any fun s=>Bd.reserved s.data.toList
theorem kindexS (w:World) {G:Nat→Prop} (A:Option Addr) (n c:Nat) (l:List ByteArray) (h:Rd w G A n c (l.map .string)) (hn:n≤1000000):
  Calls Tryz.prog 76 #[.slice A n c,.func (.func 21) #[] #[]] w fun e w'=>(∃ r:Int,e=.returned (.int .i64 r)∧decide (0≤r)=anyRes l)∧w'=w:=by
 have HH:=Lib.hid h
 obtain⟨X,HX⟩:∃ X,Hid (anyRes l=X):=⟨_,rfl⟩
 rw[HX.out]
 have HL:Hid (l.length=n):=by have:=h.len;rwa [List.length_map] at this
 clear h
 go_enter Tryz.func76,Tryz.ntmps76
 go_wp2
 go_loopw [8] (fun iv wr=>∃ i:Nat,i≤n∧iv=.int .i64 (i:Nat)∧wr=w∧Hid (∀ z∈l.take i,Bd.reserved z.data.toList=false)) (fun iv _=>n-(intOf iv).toNat)
 case atStart=>exact⟨0,Nat.zero_le _,rfl,rfl,fun _ hz=>absurd hz List.not_mem_nil⟩
 case round=>
  obtain⟨i,hi,rfl,rfl,HI⟩:=hrel
  by_cases hlt:i<n
  ·obtain⟨b,off,z,rfl,hz,hc⟩:=HH.out.str hlt
   obtain⟨q1,q2⟩:=hc wr (Below.refl _ _)
   have hlt':(i:Int)<(n:Int):=by omega
   have h0:(0:Int)≤(i:Int):=by omega
   have HPt:=Lib.hid (kreserved z wr)
   cases hp:Bd.reserved z.data.toList with
   |true=>
    obtain rfl:X=true:=by rw[←HX.out];exact List.any_eq_true.2 ⟨z,List.mem_of_getElem? hz,hp⟩
    rw[hp] at HPt
    clear HI hz hc hp HX HH HL
    go_wp2_with fail
    refine HPt.out.mono ?_
    rintro e w1 ⟨rfl,rfl⟩
    go_wp2
    go_ret
    exact⟨⟨_,rfl,by simp⟩,by trivial⟩
   |false=>
    rw[hp] at HPt
    have HAll:Hid (∀ y∈l.take (i+1),Bd.reserved y.data.toList=false):=by
     intro y hy
     rw[take_one hz] at hy
     rcases List.mem_append.1 hy with hy|hy
     ·exact HI.out y hy
     ·rw[List.mem_singleton.1 hy]
      exact hp
    clear HI hz hc hp HX HH HL
    go_wp2_with fail
    refine HPt.out.mono ?_
    rintro e w1 ⟨rfl,rfl⟩
    go_wp2
    go_roundw
    case rel=>exact⟨i+1,by omega,by go_num,by trivial,HAll.out⟩
    case measure=>simp[intOf];omega
  ·obtain rfl:i=n:=by omega
   obtain rfl:X=false:=by
    rw[←HX.out]
    have:=HI.out
    rw[List.take_of_length_le (by rw[HL.out];exact Nat.le_refl _)] at this
    exact List.any_eq_false.2 fun z hz=>by rw[this z hz];decide
   clear HI HX HH HL
   go_wp2
   go_ret
   exact⟨⟨_,rfl,by decide⟩,by trivial⟩
theorem kcontS (w:World) {G:Nat→Prop} (A:Option Addr) (n c:Nat) (l:List ByteArray) (h:Rd w G A n c (l.map .string)) (hn:n≤1000000):
  Calls Tryz.prog 42 #[.slice A n c,.func (.func 21) #[] #[]] w fun e w'=>e=.returned (.bool (anyRes l))∧w'=w:=by
 have HI:=Lib.hid (kindexS w A n c l h hn)
 generalize anyRes l=X at HI
 clear h
 go_enter Tryz.func42,Tryz.ntmps42
 go_wp2_with (go_at_call 76;refine HI.out.mono ?_;rintro e w1 ⟨⟨r,rfl,hr⟩,rfl⟩)
 go_ret
 exact⟨by first|rfl|rw[hr],rfl⟩
theorem lookS1 {w:World} {b q:Nat} {D:DataW Unit} {g:ByteArray→Option Int} (ho:w.ownsMap Tryz.prog 9 (plainElem Tryz.prog 3) b q D) (ht:TellS D g) (s:ByteArray) (hs:s.size≤maxLen):
  (Instr.lookup 98 (.map (some b)) (.string s) false).run Tryz.prog w=.ok (.int .i64 ((g s).getD 0)) w:=by
 obtain⟨c,hrun,hat,_⟩:=ho.lookup_int lawS Tryz.underlying98 Tryz.underlying3 (zeroInt w) (WideMaps.keyOf_string_mk (P:=Tryz.prog) Tryz.underlying9 hs)
 rw[hrun]
 obtain⟨t1,t2⟩:=ht s hs
 cases hg:g s with
 |none=>
  have e:=t1 hg
  rw[Maps.atKey_of_not_has e] at hat
  rw[←lit_i64 hat]
  rfl
 |some i=>
  obtain⟨e1,e2⟩:=t2 i hg
  rw[e2] at hat
  rw[←lit_i64 hat]
  rfl
theorem Bd.twice_nodup:∀ l:List ByteArray,Bd.twice l=decide (¬l.Nodup)
 |[]=>by simp[Bd.twice]
 |s::l=>by
  rw[Bd.twice,Bd.twice_nodup l,Bool.eq_iff_iff]
  simp only[Bool.or_eq_true,List.contains_iff_mem,decide_eq_true_eq,List.nodup_cons]
  constructor
  ·rintro(h|h)
   ·exact fun e=>e.1 h
   ·exact fun e=>h e.2
  ·intro h
   by_cases hm:s∈l
   ·exact .inl hm
   ·exact .inr fun e=>h ⟨hm,e⟩
theorem ktwice10 (w:World) {G:Nat→Prop} (A:Option Addr) (n c:Nat) (l:List ByteArray) (h:Rd w G A n c (l.map .string)) (hn:n≤1000000) (hs:∀ s∈l,s.size≤maxLen):
  Calls Tryz.prog 41 #[.slice A n c] w fun e w'=>e=.returned (.bool (Bd.twice l))∧Below w.heap.size w w':=by
 have hmm:∀ W:World,(Instr.makeMap 98 none).run Tryz.prog W=.ok (.map (some W.heap.size)) (W.alloc (.map #[] 0)):=fun W=>run_makeMap _ W
 have HH:=Lib.hid h
 have HS:=Lib.hid hs
 have HL:Hid (l.length=n):=by have:=h.len;rwa [List.length_map] at this
 obtain⟨X,HX⟩:∃ X,Hid (Bd.twice l=X):=⟨_,rfl⟩
 rw[HX.out]
 clear h hs
 go_enter Tryz.func41,Tryz.ntmps41
 go_wp2
 go_loopw [9] (fun iv wr=>∃ i:Nat,i≤n∧iv=.int .i64 (i:Nat)∧Hid (Below w.heap.size w wr∧(l.take i).Nodup∧∃ D,wr.ownsMap Tryz.prog 9 (plainElem (H:=Unit) Tryz.prog 3) w.heap.size i D∧TellS D (fun s=>if s∈l.take i then some 1 else none))) (fun iv _=>n-(intOf iv).toNat)
 case atStart=>exact⟨0,Nat.zero_le _,rfl,(Below.refl _ _).alloc (Nat.le_refl _) _,List.nodup_nil,_,World.ownsMap_made _ _ _ _,TellS.none_.congr fun s=>by simp⟩
 case round=>
  obtain⟨i,hin,rfl,HI⟩:=hrel
  obtain⟨hB,hN,D,ho,hT⟩:=HI.out
  by_cases hlt:i<n
  ·obtain⟨b,off,s,rfl,hz,hc⟩:=HH.out.str hlt
   obtain⟨q1,q2⟩:=hc wr hB
   have hlt':(i:Int)<(n:Int):=by omega
   have h0:(0:Int)≤(i:Int):=by omega
   have hiw:IntKind.i64.wrap ((i:Int)+1)=(i:Int)+1:=IntWalk.i64_in _ (by omega)
   have hss:=HS.out s (List.mem_of_getElem? hz)
   have hl1:=lookS1 ho hT s hss
   have hkey:=WideMaps.keyOf_string_mk (P:=Tryz.prog) Tryz.underlying9 hss
   have HO:=Lib.hid ho
   have hnm:i<maxLen:=by unfold maxLen;omega
   by_cases hm:s∈l.take i
   ·have hX:X=true:=by
     rw[←HX.out,Bd.twice_nodup,decide_eq_true_eq]
     intro e
     have:=(List.take_sublist (i+1) l).nodup e
     rw[take_one hz,List.nodup_append] at this
     exact this.2.2 s hm s (by simp) rfl
    subst hX
    simp only[if_pos hm,Option.getD_some] at hl1
    have HK:Hid (∀ w',w'.ownsMap Tryz.prog 9 (plainElem (H:=Unit) Tryz.prog 3) w.heap.size (i+1) (D.put (slit s) (.lit (.int .i64 2)))→wr.grownBy w' (some w.heap.size)→Below w.heap.size w w'∧(Instr.lookup 98 (.map (some w.heap.size)) (.string s) false).run Tryz.prog w'=.ok (.int .i64 2) w'):=fun w' p1 p2=>
     ⟨hB.grown p2 hB.size (fun k hk=>by have:=Option.some.inj hk;omega),by have:=lookS1 p1 (hT.put (ho.tidy lawS) s 2) s hss;simpa using this⟩
    clear HI hB hN ho hT hz hc HH HS HL HX hss hm
    go_wp2_with (at_mapUpdate;refine wpList_mapUpdate_own _ rfl _ _ _ 98 rfl 9 3 lawS Tryz.underlying98 _ w.heap.size i _ rfl HO.out hnm _ _ _ rfl rfl hkey _ [] (plainElem_int Tryz.underlying3 (show(Lit.int .i64 2).wf=true by decide)) ?_;intro w1 hown1 hgrow1;obtain⟨b1,l1⟩:=HK.out w1 hown1 hgrow1;have B1:=Lib.hid b1;clear hown1 hgrow1 b1)
    go_ret
    exact⟨rfl,B1.out⟩
   ·simp only[if_neg hm,Option.getD_none] at hl1
    have HK:Hid (∀ w',w'.ownsMap Tryz.prog 9 (plainElem (H:=Unit) Tryz.prog 3) w.heap.size (i+1) (D.put (slit s) (.lit (.int .i64 1)))→wr.grownBy w' (some w.heap.size)→(Below w.heap.size w w'∧(l.take (i+1)).Nodup∧∃ D,w'.ownsMap Tryz.prog 9 (plainElem (H:=Unit) Tryz.prog 3) w.heap.size (i+1) D∧TellS D (fun s=>if s∈l.take (i+1) then some 1 else none))∧(Instr.lookup 98 (.map (some w.heap.size)) (.string s) false).run Tryz.prog w'=.ok (.int .i64 1) w'):=fun w' p1 p2=>by
     have hT2:=hT.put (ho.tidy lawS) s 1
     refine⟨⟨hB.grown p2 hB.size (fun k hk=>by have:=Option.some.inj hk;omega),?_,_,p1,hT2.congr fun t=>?_⟩,by have:=lookS1 p1 hT2 s hss;simpa using this⟩
     ·rw[take_one hz,List.nodup_append]
      exact⟨hN,by simp,fun a ha b hb e=>hm (by rw[List.mem_singleton.1 hb] at e;exact e▸ha)⟩
     ·rw[take_one hz]
      by_cases e:t=s
      ·subst e;simp
      ·simp[e]
    clear HI hB hN ho hT hz hc HH HS HL HX hss hm
    go_wp2_with (at_mapUpdate;refine wpList_mapUpdate_own _ rfl _ _ _ 98 rfl 9 3 lawS Tryz.underlying98 _ w.heap.size i _ rfl HO.out hnm _ _ _ rfl rfl hkey _ [] (plainElem_int Tryz.underlying3 (show(Lit.int .i64 1).wf=true by decide)) ?_;intro w1 hown1 hgrow1;obtain⟨v1,l1⟩:=HK.out w1 hown1 hgrow1;have V1:=Lib.hid v1;clear hown1 hgrow1 v1)
    go_roundw
    case rel=>exact⟨i+1,by omega,by go_num,V1.out⟩
    case measure=>simp[intOf];omega
  ·obtain rfl:i=n:=by omega
   have hX:X=false:=by
    rw[←HX.out,Bd.twice_nodup]
    rw[List.take_of_length_le (by rw[HL.out];exact Nat.le_refl _)] at hN
    simpa using hN
   subst hX
   have HB:=Lib.hid hB
   clear HI hB hN ho hT HH HS HL HX hlt
   go_wp2
   go_ret
   exact⟨rfl,HB.out⟩
end Go.Proofs.YtcgaeknikfaghaaGreatDoor
namespace Go.Proofs.YtcgaeknikfaghaaGreatDoor
open Go.RowKit
theorem infoStr:(Tryz.prog.info? 9).map (fun i=>(i.zero,i.size,i.bytes))=some (some (.string ByteArray.empty),1,16):=by kernel_rfl
theorem ParS.get {w:World} {G:Nat→Prop} {A:Option Addr} {l:List (ByteArray×Int)} {i:Nat} (h:ParS w G A l) (hi:i<l.length):∃ b off p,A=some ⟨b,off,none⟩∧l[i]?=some p∧∀ W,Turn (fun k=>¬G k) w W→b<W.heap.size∧W.cell? ⟨b,off+i*2,none⟩=some (.string p.1)∧W.cell? ⟨b,off+i*2+1,none⟩=some (.int .i64 p.2):=by
 obtain⟨b,off,e,hg,hb,hc⟩:=h.at_ (by omega)
 exact⟨b,off,l[i],e,List.getElem?_eq_getElem hi,fun W hW=>⟨Nat.lt_of_lt_of_le hb hW.size,(hW.cell (p:=⟨b,off+i*2,none⟩) hb fun e=>e hg).trans (hc i _ (List.getElem?_eq_getElem hi)).1,(hW.cell (p:=⟨b,off+i*2+1,none⟩) hb fun e=>e hg).trans (hc i _ (List.getElem?_eq_getElem hi)).2⟩⟩
theorem kparamNames (w:World) (A:Option Addr) (c:Nat) (l:List (ByteArray×Int)) {G:Nat→Prop} (h:ParS w G A l) (hn:l.length≤100000):
  Calls Tryz.prog 40 #[.slice A l.length c] w fun e w'=>(∃ A' c',e=.returned (.slice A' l.length c')∧Rd w' (fun k=>w.heap.size≤k) A' l.length c' ((l.map (·.1)).map .string))∧Below w.heap.size w w':=by
 obtain⟨i0,hi,hz0,hz1,hz2⟩:=info_parts infoStr
 obtain⟨n,hln⟩:∃ n,l.length=n:=⟨_,rfl⟩
 have HH:=Lib.hid h
 have HL:=Lib.hid hln
 rw[hln] at hn ⊢
 clear h hln
 go_enter Tryz.func40,Tryz.ntmps40
 go_wp2
 go_loopw [3,8] (fun sv iv wr=>∃ (i d:Nat) (B:Option Addr),i≤n∧sv=.slice B i d∧iv=.int .i64 (i:Nat)∧Hid (Below w.heap.size w wr∧wr.ownsRow w.heap.size 9 1 (.slice B i d) i (((l.take i).map (·.1)).map .string))) (fun _ iv _=>n-(intOf iv).toNat)
 case atStart=>exact⟨0,0,none,Nat.zero_le _,rfl,rfl,Below.refl _ _,World.ownsRow_nil _ _ _ _⟩
 case round=>
  obtain⟨i,d,B,hin,rfl,rfl,HI⟩:=hrel
  by_cases hlt:i<n
  ·obtain⟨b,off,p,rfl,hp,hc⟩:=HH.out.get (i:=i) (by rw[HL.out];exact hlt)
   obtain⟨q1,q2,q3⟩:=hc wr (Turn.of_below HI.out.1)
   obtain⟨p1,p2⟩:=p
   simp only at q2 q3
   have hlt':(i:Int)<(n:Int):=by omega
   have h0:(0:Int)≤(i:Int):=by omega
   have hiw:IntKind.i64.wrap ((i:Int)+1)=(i:Int)+1:=IntWalk.i64_in _ (by omega)
   have hm1:i+1≤maxLen:=by unfold maxLen;omega
   have hm8:(i+1)*16≤140737488355328:=by omega
   have hbs:=HI.out.1.size
   have HO:Hid (∀ o o',((wr.alloc o).alloc o').ownsRow w.heap.size 9 1 (.slice B i d) i (((l.take i).map (·.1)).map .string)):=fun o o'=>(HI.out.2.alloc o).alloc o'
   have HS:Hid (∀ o o' A2 c2 w2,((wr.alloc o).alloc o').grownBy w2 (Value.slice B i d).ownBlock→w2.ownsRow w.heap.size 9 1 (.slice A2 (i+1) c2) (i+1) (((l.take i).map (·.1)).map .string++[.string p1])→Below w.heap.size w w2∧w2.ownsRow w.heap.size 9 1 (.slice A2 (i+1) c2) (i+1) (((l.take (i+1)).map (·.1)).map .string)):=fun o o' A2 c2 w2 g1 g2=>by
    refine⟨((HI.out.1.alloc hbs o).alloc (by simp;omega) o').grown g1 (by simp;omega) (fun k hk=>(HI.out.2.lt k hk).1),?_⟩
    rw[take_one hp,List.map_append,List.map_append]
    exact g2
   clear hp hc HH HI HL
   go_wp2_with (at_builtin;refine append_row _ rfl (.tmp 12) (.tmp 15) 88 rfl w.heap.size 9 i0 (.string ByteArray.empty) 16 Tryz.underlying88 hi hz0 hz1 hz2 rfl (.slice B i d) i _ (by simp[Act.eval]) (HO.out _ _) _ 1 1 [.string p1] (by simp[Act.eval]) rfl (new_at rfl) (by intro u hu;simp at hu;subst hu;rfl) hm1 hm8 (by simp;omega) ?_;intro A2 c2 w2 o2 g2 a2;have S2:=Lib.hid (HS.out _ _ A2 c2 w2 g2 o2);clear o2 g2 a2)
   clear HO HS q2 q3
   go_wp2
   go_roundw
   case rel=>exact⟨i+1,c2,A2,by omega,by go_num,by go_num,S2.out⟩
   case measure=>simp[intOf];omega
  ·obtain rfl:i=n:=by omega
   have hI:=HI.out
   rw[List.take_of_length_le (by rw[HL.out];exact Nat.le_refl _)] at hI
   have HV:Hid (Rd wr (fun k=>w.heap.size≤k) B i d ((l.map (·.1)).map .string)∧Below w.heap.size w wr):=⟨Rd.of_own hI.2,hI.1⟩
   clear hI HI HH HL hlt
   go_wp2
   go_ret
   exact⟨⟨B,d,rfl,HV.out.1⟩,HV.out.2⟩
theorem ksortOf (w:World) (b:Nat) (F:Nat→Prop) (l:List Nd) (p:Int) (h:Bk w b F l) (hp:0≤p):
  Calls Tryz.prog 48 #[.pointer (some ⟨b,0,none⟩),.int .i64 p] w fun e w'=>e=.returned (.int .i64 (Bd.sortAt l p))∧Below w.heap.size w w':=by
 obtain⟨i,rfl⟩:∃ i:Nat,p=i:=⟨p.toNat,by omega⟩
 by_cases hi:i<l.length
 ·obtain⟨x,hx⟩:∃ x,l[i]?=some x:=⟨_,List.getElem?_eq_getElem hi⟩
  have HA:=Lib.hid (kat9 w b F l i x h hx)
  have e:Bd.sortAt l (i:Int)=x.sort:=by unfold Bd.sortAt;rw[Int.toNat_natCast,hx];rfl
  rw[e]
  clear h hp hi hx e
  go_enter Tryz.func48,Tryz.ntmps48
  go_wp2_with fail
  refine HA.out.mono ?_
  rintro e w1 ⟨⟨P,rfl,_⟩,b1⟩
  have HB:=Lib.hid (b1.alloc b1.size (.cells (P.cells x) 50))
  clear HA b1
  go_wp2
  go_ret
  exact⟨rfl,HB.out⟩
 ·have HA:=Lib.hid (katno9 w b F l (i:Int) h (.inr (by omega)))
  have e:Bd.sortAt l (i:Int)=0:=by unfold Bd.sortAt;rw[Int.toNat_natCast,List.getElem?_eq_none (by omega)];rfl
  rw[e]
  clear h hp hi e
  go_enter Tryz.func48,Tryz.ntmps48
  go_wp2_with fail
  refine HA.out.mono ?_
  rintro e w1 ⟨rfl,b1⟩
  have HB:=Lib.hid (b1.alloc b1.size (.cells #[.int .i64 0,.int .i64 0,.slice none 0 0,.string ⟨#[]⟩,.bool false,.slice none 0 0,.slice none 0 0] 50))
  clear HA b1
  go_wp2
  go_ret
  exact⟨rfl,HB.out⟩
end Go.Proofs.YtcgaeknikfaghaaGreatDoor
namespace Go.Proofs.YtcgaeknikfaghaaGreatDoor
open Go.RowKit
theorem Mk.Rep.input {E:Mk.Env} {w:World} {M:Nat} {Y:Mk.Lay} {s:Ms} (h:Mk.Rep E w M Y s) {A:Option Addr} {l:List Sx} (ht:TreeL E.v (fun b _=>E.P b) A l):TreeL w (fun b _=>¬Mk.foot M Y b) A l:=
 ht.turn9 h.pl fun k hk hp=>⟨fun e=>e hp,h.plx k hp hk⟩
structure Mk.Small (s:Ms):Prop where
 fr:s.fr.length≤4900
 sc:s.sc.length≤4900
 ids:∀ f∈s.fr,f.ids.length≤1000∧f.dp≤4900
 N:s.N.length≤20000
theorem Mk.Rep.pow {E:Mk.Env} (hE:E.Ok) {w:World} {M:Nat} {Y:Mk.Lay} {s:Ms} (h:Mk.Rep E w M Y s):Pow9 w:=hE.T.on h.base
theorem Mk.Rep.ask {E:Mk.Env} (hE:E.Ok) {w:World} {M:Nat} {Y:Mk.Lay} {s:Ms} (h:Mk.Rep E w M Y s):Ask9 w:=hE.K.below h.base
theorem Mk.banked {E:Mk.Env} {w w1:World} {M:Nat} {Y:Mk.Lay} {s:Ms} {r:Bans} {e:Ending} (h:Mk.Rep E w M Y s) (hb:BAns w E.bk Y.Fb r e w1):e=.returned (.tuple #[.int .i64 r.2.1,.int .i64 r.2.2])∧Mk.Left E w M Y { s with N:=r.1 } w1:=by
 obtain⟨h1,F',h2,h3,h4⟩:=hb
 exact⟨h1,h.bankd h3 h2 h4⟩
theorem Mk.given {E:Mk.Env} {w w1:World} {M:Nat} {Y:Mk.Lay} {s:Ms} {bs:List Fr} {f:Fr} {r:Bans} (hl:Mk.Left E w M Y { s with N:=r.1 } w1) (hf:s.fr=bs++[f]) (hs:Mk.Small s):
  Calls Tryz.prog 162 #[.pointer (some ⟨M,0,none⟩),.int .i64 r.2.1,.int .i64 r.2.2] w1 fun x w'=>Mk.Ans E w M Y (Mk.bank s r) x w':=by
 obtain⟨Y',h1,h2,h3⟩:=hl
 have hb:bs.length≤5000:=by have:=hs.fr;rw[hf,List.length_append] at this;omega
 have hn:f.ids.length≤100000:=by have:=(hs.ids f (by rw[hf];simp)).1;omega
 exact(kgive E w1 M Y' _ bs f r.2.1 r.2.2 h1 hf hb hn).mono fun x w' ⟨q1,q2⟩=>⟨q1,q2.after h2 h3⟩
theorem Mk.lies_left {E:Mk.Env} {w w1:World} {M:Nat} {Y:Mk.Lay} {s:Ms} (hl:Mk.Left E w M Y s w1) {b:Nat} {t:TypeId} {cs:Array Value} (hL:Lies w b t cs) (hb:¬Mk.foot M Y b):Lies w1 b t cs:=by
 obtain⟨Y',h1,h2,h3⟩:=hl
 exact h2.lies hL hb
theorem kopEnds (E:Mk.Env) (hE:E.Ok) (w:World) (M:Nat) (Y:Mk.Lay) (s:Ms) (bs:List Fr) (f:Fr) (o:Int) (b1 b2:Nat) (A:Option Addr) (n c:Nat) (l:List Int) (h:Mk.Rep E w M Y s) (hf:s.fr=bs++[f]) (hs:Mk.Small s) (hI:Tm.Inv s.N)
  (g1:¬Mk.foot M Y b1) (g2:¬Mk.foot M Y b2) (l1:Lies w b1 74 #[.pointer (some ⟨M,0,none⟩)]) (l2:Lies w b2 3 #[.int .i64 o]) (hA:NumS w A n l) (hw:∀ z∈l,(Lit.int .i64 z).wf=true) (hg:Gs (fun k=>¬Mk.foot M Y k) A n) (hn:n≤1000):
  Calls Tryz.prog 161 #[.slice A n c,.pointer (some ⟨b1,0,none⟩),.pointer (some ⟨b2,0,none⟩)] w fun x w'=>Mk.Ans E w M Y (Mk.ends E.D s (.op o) l) x w':=by
 have c1:w.cell? ⟨b1,0,none⟩=some (.pointer (some ⟨M,0,none⟩)):=by rw[l1.cell];rfl
 have c2:w.cell? ⟨b2,0,none⟩=some (.int .i64 o):=by rw[l2.cell];rfl
 have c0:w.cell? ⟨M,0,none⟩=some (.pointer (some ⟨E.bk,0,none⟩)):=by rw[h.own.cell];rfl
 have z1:=l1.lt
 have z2:=l2.lt
 have zM:=h.own.lt
 have hd:Mk.Rep E w.drew M Y s:=h.drew
 have HA:Hid (Calls Tryz.prog 163 #[.pointer (some ⟨E.bk,0,none⟩),.int .i64 o,.slice A n c] w.drew fun e w1=>e=.returned (.tuple #[.int .i64 (Tm.app s.N o l).2.1,.int .i64 (Tm.app s.N o l).2.2])∧(w1.cell? ⟨b1,0,none⟩=some (.pointer (some ⟨M,0,none⟩))∧w1.cell? ⟨b2,0,none⟩=some (.int .i64 o)∧w1.cell? ⟨M,0,none⟩=some (.pointer (some ⟨E.bk,0,none⟩)))∧Calls Tryz.prog 162 #[.pointer (some ⟨M,0,none⟩),.int .i64 (Tm.app s.N o l).2.1,.int .i64 (Tm.app s.N o l).2.2] w1 fun x w'=>Mk.Ans E w M Y (Mk.ends E.D s (.op o) l) x w'∧(w'.cell? ⟨b1,0,none⟩=some (.pointer (some ⟨M,0,none⟩))∧w'.cell? ⟨b2,0,none⟩=some (.int .i64 o)∧w'.cell? ⟨M,0,none⟩=some (.pointer (some ⟨E.bk,0,none⟩)))):=by
  refine(kapp9 w.drew E.bk Y.Fb s.N hd.bank hI o A n c l (hA.below ⟨rfl,rfl,rfl,Nat.le_refl _,fun _ _=>rfl⟩) hw hg (fun k hk e=>hk (.inr (.inl e))) hn (by have:=hs.N;omega) (hd.pow hE) (hd.ask hE)).mono ?_
  intro e w1 hb
  obtain⟨e1,e2⟩:=Mk.banked hd hb
  obtain⟨_,_,_,ht,_⟩:=hb
  exact⟨e1,⟨by rw[(ht.lies (show Lies w.drew b1 _ _ from l1) (fun e=>g1 (.inr (.inl e)))).cell];rfl,by rw[(ht.lies (show Lies w.drew b2 _ _ from l2) (fun e=>g2 (.inr (.inl e)))).cell];rfl,by rw[(ht.lies hd.own hd.xM).cell];rfl⟩,(Mk.given e2 hf hs).mono fun x w' q=>⟨q.up ⟨rfl,rfl,rfl,Nat.le_refl _,fun _ _=>rfl⟩,by rw[(Mk.lies_left q.2 (show Lies w.drew b1 _ _ from l1) g1).cell];rfl,by rw[(Mk.lies_left q.2 (show Lies w.drew b2 _ _ from l2) g2).cell];rfl,by
   obtain⟨Y',r1,_⟩:=q.2
   rw[r1.own.cell]
   rfl⟩⟩
 obtain⟨r,hr⟩:∃ r,Mk.ends E.D s (.op o) l=r:=⟨_,rfl⟩
 obtain⟨q,hq⟩:∃ q,Tm.app s.N o l=q:=⟨_,rfl⟩
 rw[hr] at HA ⊢
 rw[hq] at HA
 obtain⟨q0,q1,q2⟩:=q
 obtain⟨bk,hbk⟩:∃ bk,E.bk=bk:=⟨_,rfl⟩
 rw[hbk] at HA c0
 clear h hf hs hI g1 g2 l1 l2 hA hw hg hd hr hq hbk
 go_enter Tryz.func161,Tryz.ntmps161
 go_wp2_with fail
 have HS:Hid (w.drew.cell? ⟨b1,0,none⟩=some (.pointer (some ⟨M,0,none⟩))∧w.drew.cell? ⟨b2,0,none⟩=some (.int .i64 o)∧w.drew.cell? ⟨M,0,none⟩=some (.pointer (some ⟨bk,0,none⟩))):=⟨c1,c2,c0⟩
 go_region_held3 (fun W=>W.cell? ⟨b1,0,none⟩=some (.pointer (some ⟨M,0,none⟩))∧W.cell? ⟨b2,0,none⟩=some (.int .i64 o)∧W.cell? ⟨M,0,none⟩=some (.pointer (some ⟨bk,0,none⟩)))
  (first|exact HS.out|assumption)
  (first|(go_at_call 163;refine HA.out.mono ?_;rintro e w1 ⟨rfl,hk1,hg⟩)|(go_at_call 162;refine Calls.mono (by assumption) ?_;rintro e w2 ⟨⟨rfl,v⟩,hk2⟩))
 all_goals
  have V:=Lib.hid v
  clear v
  go_wp2
  go_ret
  exact⟨rfl,V.out⟩
end Go.Proofs.YtcgaeknikfaghaaGreatDoor
namespace Go.Proofs.YtcgaeknikfaghaaGreatDoor
open Go.RowKit
theorem MadeM.put {w w':World} {b:Nat} {m:List (Nat×List Int×Int)} {D:DataW Unit} {j:Nat} {A:List Int} {id:Int} (hk:Mk.Keys m) (ho:w.ownsMap Tryz.prog 9 (plainElem (H:=Unit) Tryz.prog 3) b m.length D) (ht:TellM D m) (hsz:Maps.size D=m.length)
  (h':w'.ownsMap Tryz.prog 9 (plainElem (H:=Unit) Tryz.prog 3) b (m.length+1) (D.put (slit (Mk.key j A)) (.lit (.int .i64 id)))):MadeM w' b (Mk.put m j A id):=by
 have htd:=ho.tidy lawS
 have hs:Maps.size (D.put (slit (Mk.key j A)) (.lit (.int .i64 id)))=(Mk.put m j A id).length:=by
  rw[Maps.size_put htd,Mk.put_len hk,hsz]
  obtain⟨h1,h2⟩:=ht j A
  cases hh:Mk.hit m j A with
  |none=>rw[h1 hh];rfl
  |some i=>rw[(h2 i hh).1];rfl
 exact⟨⟨_,ownsMap_tight h' (by rw[hs];exact Nat.le_refl _),ht.put htd j A id,hs⟩,hk.put j A id⟩
theorem kmemoEnds (E:Mk.Env) (w:World) (M:Nat) (Y:Mk.Lay) (s:Ms) (bs:List Fr) (f:Fr) (j:Nat) (A0:List Int) (b1 b2:Nat) (A:Option Addr) (n c:Nat) (l:List Int) (h:Mk.Rep E w M Y s) (hf:s.fr=bs++[f]) (hs:Mk.Small s)
  (g1:¬Mk.foot M Y b1) (l1:Lies w b1 74 #[.pointer (some ⟨M,0,none⟩)]) (l2:Lies w b2 9 #[.string (Mk.key j A0)]) (hA:NumS w A n l) (hg:Gs (fun k=>¬Mk.foot M Y k) A n) (hw:∀ z∈l,(Lit.int .i64 z).wf=true) (h0:0<n) (hks:(Mk.key j A0).size≤maxLen) (hm:s.made.length<maxLen):
  Calls Tryz.prog 195 #[.slice A n c,.pointer (some ⟨b1,0,none⟩),.pointer (some ⟨b2,0,none⟩)] w fun x w'=>Mk.Ans E w M Y (Mk.ends E.D s (.memo j A0) l) x w':=by
 obtain⟨b,off,z,rfl,hz,hzm,_,hc⟩:=hA.get h0
 rw[Nat.add_zero] at hc
 have hz0:l.headD 0=z:=by
  cases l with
  |nil=>simp at hz
  |cons y l=>simpa using hz
 obtain⟨hbl,c0⟩:=hc w (Below.refl _ w)
 have hgb:¬Mk.foot M Y b:=hg _ rfl h0
 have c1:w.cell? ⟨b1,0,none⟩=some (.pointer (some ⟨M,0,none⟩)):=by rw[l1.cell];rfl
 have c2:w.cell? ⟨b2,0,none⟩=some (.string (Mk.key j A0)):=by rw[l2.cell];rfl
 have c3:w.cell? ⟨M,3,none⟩=some (.map (some Y.mb)):=by rw[h.own.cell];rfl
 have hd:Mk.Rep E w.drew M Y s:=h.drew
 obtain⟨⟨D,ho,ht,hsz⟩,hk⟩:=hd.made
 have hkey:=WideMaps.keyOf_string_mk (P:=Tryz.prog) Tryz.underlying9 hks
 have hwf:=hw z hzm
 have HK:Hid (∀ w',w'.ownsMap Tryz.prog 9 (plainElem (H:=Unit) Tryz.prog 3) Y.mb (s.made.length+1) (D.put (slit (Mk.key j A0)) (.lit (.int .i64 z)))→w.drew.grownBy w' (some Y.mb)→
   w'.cell? ⟨b1,0,none⟩=some (.pointer (some ⟨M,0,none⟩))∧w'.cell? ⟨b,off,none⟩=some (.int .i64 z)∧Calls Tryz.prog 162 #[.pointer (some ⟨M,0,none⟩),.int .i64 z,.int .i64 0] w'.drew fun x w'=>Mk.Ans E w M Y (Mk.ends E.D s (.memo j A0) l) x w'):=fun w' q1 q2=>by
  have hl:=hd.note q2 (MadeM.put hk ho ht hsz q1)
  have e1:=Mk.lies_left hl (show Lies w.drew b1 _ _ from l1) g1
  refine⟨by rw[e1.cell];rfl,?_,?_⟩
  ·obtain⟨Y',_,t,_⟩:=hl
   exact(t.cell (p:=⟨b,off,none⟩) hbl hgb).trans c0
  ·obtain⟨Y',r1,t1,y1⟩:=hl
   have hb:bs.length≤5000:=by have:=hs.fr;rw[hf,List.length_append] at this;omega
   have hn2:f.ids.length≤100000:=by have:=(hs.ids f (by rw[hf];simp)).1;omega
   refine(kgive E w'.drew M Y' _ bs f z 0 r1.drew hf hb hn2).mono fun x w2 ⟨k1,k2⟩=>⟨by rw[k1];show Ending.returned (Value.int .i64 _)=.returned (.int .i64 (Mk.give _ (l.headD 0) 0).2);rw[hz0],?_⟩
   have k3:=((k2.up (w:=w') ⟨rfl,rfl,rfl,Nat.le_refl _,fun _ _=>rfl⟩).after (Y:=Y) t1 y1).up (w:=w) ⟨rfl,rfl,rfl,Nat.le_refl _,fun _ _=>rfl⟩
   show Mk.Left E w M Y (Mk.give _ (l.headD 0) 0).1 w2
   rw[hz0]
   exact k3
 have HO:Hid (w.drew.ownsMap Tryz.prog 9 (plainElem (H:=Unit) Tryz.prog 3) Y.mb s.made.length D):=ho
 obtain⟨r,hr⟩:∃ r,Mk.ends E.D s (.memo j A0) l=r:=⟨_,rfl⟩
 rw[hr] at HK ⊢
 obtain⟨ml,hml⟩:∃ ml,s.made.length=ml:=⟨_,rfl⟩
 rw[hml] at HK HO hm
 obtain⟨mb,hmb⟩:∃ mb,Y.mb=mb:=⟨_,rfl⟩
 rw[hmb] at HK HO c3
 have hni:(0:Int)<(n:Int):=by omega
 have z1:=l1.lt
 have z2:=l2.lt
 have zM:=h.own.lt
 clear h hf hs g1 l1 l2 hA hg hw hz hzm hc hgb hd ho ht hsz hk hr hml hmb hz0
 go_enter Tryz.func195,Tryz.ntmps195
 go_wp2_with fail
 go_still_tail 8,(by kernel_rfl)
 change wpList _ _ _ _ _ w.drew
 refine wpList_mapUpdate_own _ rfl _ _ _ 98 rfl 9 3 lawS Tryz.underlying98 _ mb ml _ rfl HO.out hm _ _ _ rfl rfl hkey _ [] (plainElem_int Tryz.underlying3 hwf) ?_
 intro w1 hown1 hgrow1
 obtain⟨k1,k2,k3⟩:=HK.out w1 hown1 hgrow1
 have hbl1:b<w1.heap.size:=Nat.lt_of_lt_of_le hbl hgrow1.size
 have HG:=Lib.hid k3
 clear hown1 hgrow1 k3 HK HO c0 c1 c2 c3
 go_wp2_with fail
 go_still_tail 4,(by kernel_rfl)
 change wpList _ _ _ _ _ w1.drew
 generalize w1.drew=W2 at HG ⊢
 go_wp2_with fail
 refine HG.out.mono ?_
 rintro e w2 ⟨rfl,v⟩
 have V:=Lib.hid v
 clear HG v
 go_wp2
 go_ret
 exact⟨rfl,V.out⟩
end Go.Proofs.YtcgaeknikfaghaaGreatDoor
