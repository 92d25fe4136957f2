/- What the proofs of this claim use, text by text. -/
import Derived.Test.YtcgaeknikfaghaaGreatDoorQD30
set_option linter.unusedSimpArgs false
set_option linter.unusedVariables false
set_option maxRecDepth 100000
set_option maxHeartbeats 25600000
namespace Go.Proofs.YtcgaeknikfaghaaGreatDoor
open Go.RowKit Go.Shelf
theorem kbarred (s:ByteArray) (w:World) (hs:s.size≤1000000) (h0:0<s.size) (h124:s[0].toNat=124):
  Calls Tryz.prog 116 #[.string s] w (PSaid s (Lx.one s.data.toList) w):=by
 obtain⟨k,hk,hk1,hk2,HS⟩:=span_end _ enter_clos2 (Lx.but 124) kclos2 s 1 (by unfold maxLen;omega) h0
 replace HS:=Lib.hid HS
 have hsl:=slice_from s 1 (by omega)
 have HR:=Lib.hid fun(w4:World) b4=>pc_store w (w4:=w4) b4
 obtain⟨T,hT⟩:∃ T,(s.data.toList.drop 1).takeWhile (Lx.but 124)=T:=⟨_,rfl⟩
 have hq:=Lx.quo_span 124 (s.data.toList.drop 1)
 rw[show(124:UInt8).toNat=124 from rfl,←hk2,hT] at hq
 obtain⟨e,he⟩:∃ e,1+k=e:=⟨_,rfl⟩
 rw[he] at hk1 hk2 hq
 have hki:(1:Int)+(k:Int)=(e:Int):=by omega
 have he1:1≤e:=by omega
 have hs0:s[0]=124:=Lx.byte_eq h124
 have hone:Lx.one s.data.toList=if(Lx.quo 124 (s.data.toList.drop 1)).2.1=0 then(if(Lx.quo 124 (s.data.toList.drop 1)).1.any (fun d=>decide (d.toNat=92)) then((0:Int),[],(8:Int),s.data.toList) else(3,(Lx.quo 124 (s.data.toList.drop 1)).1,0,(Lx.quo 124 (s.data.toList.drop 1)).2.2)) else if(Lx.quo 124 (s.data.toList.drop 1)).2.1=50 then(0,[],50,(Lx.quo 124 (s.data.toList.drop 1)).2.2) else(0,[],51,s.data.toList):=by
  have hw:=whole_head s h0
  rw[hs0] at hw
  generalize s.data.toList.drop 1=L at hw
  rw[hw]
  rfl
 rw[hq] at hone
 rw[hone]
 clear hone
 by_cases hes:e=s.size
 ·rw[hes,drop_end]
  have hX:Lx.quo 124 []=([],51,[]):=rfl
  rw[hX]
  have HW:=Lib.hid fun W=>kwrong 51 0 W
  have hb:((e:Int) == (s.size:Int))=true:=beq_iff_eq.2 (by omega)
  clear hq hX hk hk2 hT h124 hs0 he
  show Calls _ _ _ _ (PSaid s (0,[],51,s.data.toList) w)
  go_enter Tryz.func116,Tryz.ntmps116
  go_wp2_with (first
   |(go_at_call 112;refine(HS.out _).mono ?_;rintro e w1 ⟨rfl,rfl⟩)
   |(go_at_call 123;refine(HW.out _).mono ?_;rintro e w4 ⟨rfl,b4⟩;obtain⟨z0,y0,y1,y2,y3,f0,f1,f2,f3,hl,hb⟩:=HR.out _ b4))
  obtain⟨_,e0,e1,e2,e3⟩:=pc_cells hl.out (.int .i64 0) (.string ⟨#[]⟩) (.int .i64 0) (.int .i64 51)
  exact bodyPost_ret (v:=piece 0 ⟨#[]⟩ 0 51) (by simp[results,Tryz.results116,go_sem,e0,e1,e2,e3]) rfl (PSaid.at_start (hb.out _ _ _ _) (by decide) h0)
 have hlt:e<s.size:=by omega
 have hlt':(e:Int)<(s.size:Int):=by omega
 have hb:((e:Int) == (s.size:Int))=false:=beq_eq_false_iff_ne.2 (by omega)
 have hDe:=drop_at s hlt
 by_cases hc:s[e].toNat=124
 ·have hb2:((s[e].toNat:Int) != 124)=false:=by rw[bne,beq_iff_eq.2 (by omega:(s[e].toNat:Int)=124)];rfl
  have hX:Lx.quo 124 (s.data.toList.drop e)=([],0,s.data.toList.drop (e+1)):=by
   rw[hDe,Lx.byte_eq hc]
   exact Lx.quo_last _ (by decide) (fun h=>absurd h.1 (by decide))
  rw[hX,List.append_nil]
  obtain⟨z,hz⟩:∃ z,(T.any fun d=>decide (d.toNat=92))=z:=⟨_,rfl⟩
  have hTl:T.length=e-1:=by rw[←hT,←hk];omega
  have hcut:(s.extract 1 e).data.toList=T:=by
   rw[(cut_bytes s 1 e hk1 he1).1,←hTl]
   have h3:=congrArg (List.take T.length) (Lx.take_drop (Lx.but 124) (s.data.toList.drop 1))
   rw[hT,List.take_left] at h3
   exact h3.symm
  have HC:=Lib.hid fun W=>Tryz.strings_Contains_one (s.extract 0 e) 92 W
  have hidx:decide (0≤Lib.indexByte (s.extract 0 e).data.toList 92)=z:=by
   rw[Lx.index_any,(cut_bytes s 0 e hk1 (Nat.zero_le _)).1,List.drop_zero,whole_head s h0,show e-0=(e-1)+1 by omega,List.take_succ_cons,List.any_cons,hs0]
   have h3:=(cut_bytes s 1 e hk1 he1).1
   rw[hcut] at h3
   rw[←h3,←hz]
   rfl
  rw[hidx] at HC
  have hsl2:=slice_to s e hk1
  obtain⟨U,hU⟩:∃ U,s.extract 0 e=U:=⟨_,rfl⟩
  rw[hU] at HC hsl2
  have HT:=Lib.hid hcut
  have HW:=Lib.hid fun W=>kwrong 8 0 W
  clear hq hX hk hk2 hT h124 hs0 he hTl hidx hDe hc hcut hU hes
  cases z with
  |true=>
   show Calls _ _ _ _ (PSaid s (if(0:Int)=0 then(if T.any (fun d=>decide (d.toNat=92)) then((0:Int),[],(8:Int),s.data.toList) else(3,T,0,s.data.toList.drop (e+1))) else _) w)
   rw[if_pos rfl,if_pos hz]
   clear hz
   go_enter Tryz.func116,Tryz.ntmps116
   go_wp2_with (first
    |(go_at_call 112;refine(HS.out _).mono ?_;rintro e w1 ⟨rfl,rfl⟩)
    |(go_at_call 146;refine(HC.out _).mono ?_;rintro e w1 ⟨rfl,rfl⟩)
    |(go_at_call 123;refine(HW.out _).mono ?_;rintro e w4 ⟨rfl,b4⟩;obtain⟨z0,y0,y1,y2,y3,f0,f1,f2,f3,hl,hb⟩:=HR.out _ b4))
   obtain⟨_,e0,e1,e2,e3⟩:=pc_cells hl.out (.int .i64 0) (.string ⟨#[]⟩) (.int .i64 0) (.int .i64 8)
   exact bodyPost_ret (v:=piece 0 ⟨#[]⟩ 0 8) (by simp[results,Tryz.results116,go_sem,e0,e1,e2,e3]) rfl (PSaid.at_start (hb.out _ _ _ _) (by decide) h0)
  |false=>
   show Calls _ _ _ _ (PSaid s (if(0:Int)=0 then(if T.any (fun d=>decide (d.toNat=92)) then((0:Int),[],(8:Int),s.data.toList) else(3,T,0,s.data.toList.drop (e+1))) else _) w)
   rw[if_pos rfl,if_neg (by rw[hz];decide)]
   clear hz HW
   obtain⟨m,hm⟩:∃ m,e+1=m:=⟨_,rfl⟩
   have hmi:(e:Int)+1=(m:Int):=by omega
   have hm1:0<m∧m≤s.size:=by omega
   rw[hm]
   clear hm
   go_enter Tryz.func116,Tryz.ntmps116
   go_wp2_with (first
    |(go_at_call 112;refine(HS.out _).mono ?_;rintro e w1 ⟨rfl,rfl⟩)
    |(go_at_call 146;refine(HC.out _).mono ?_;rintro e w1 ⟨rfl,rfl⟩))
   exact bodyPost_ret (v:=piece 3 (s.extract 1 e) (m:Nat) 0) (by simp[results,Tryz.results116,go_sem]) rfl ⟨(Below.refl _ w).alloc (Nat.le_refl _) _,fun _=>⟨_,m,rfl,HT.out,hm1.1,hm1.2,rfl⟩,fun h=>absurd rfl h⟩
 ·have hg:Lx.good s[e]=false:=by
   rcases Lx.but_stops (hk2.symm.trans hDe) with h|h
   ·exact absurd h hc
   ·exact h
  have hb2:((s[e].toNat:Int) != 124)=true:=bne_iff_ne.2 (by omega)
  have hX:Lx.quo 124 (s.data.toList.drop e)=([],50,s.data.toList.drop e):=by rw[hDe,Lx.quo_bad _ hg]
  rw[hX]
  have HW:=Lib.hid fun W=>kwrong 50 (e:Nat) W
  clear hq hX hk hk2 hT h124 hs0 he hDe hc hes hg
  show Calls _ _ _ _ (PSaid s (0,[],50,s.data.toList.drop e) w)
  go_enter Tryz.func116,Tryz.ntmps116
  go_wp2_with (first
   |(go_at_call 112;refine(HS.out _).mono ?_;rintro e w1 ⟨rfl,rfl⟩)
   |(go_at_call 123;refine(HW.out _).mono ?_;rintro e w4 ⟨rfl,b4⟩;obtain⟨z0,y0,y1,y2,y3,f0,f1,f2,f3,hl,hb⟩:=HR.out _ b4))
  obtain⟨_,e0,e1,e2,e3⟩:=pc_cells hl.out (.int .i64 0) (.string ⟨#[]⟩) (.int .i64 (e:Nat)) (.int .i64 50)
  exact bodyPost_ret (v:=piece 0 ⟨#[]⟩ (e:Nat) 50) (by simp[results,Tryz.results116,go_sem,e0,e1,e2,e3]) rfl ⟨hb.out _ _ _ _,fun h=>absurd h (by simp),fun _=>⟨e,rfl,hlt,rfl⟩⟩
end Go.Proofs.YtcgaeknikfaghaaGreatDoor
namespace Go.Proofs.YtcgaeknikfaghaaGreatDoor
open Go.RowKit Go.Shelf
def MaxL (w:World):Prop:=∃ m:Int,w.cell? ⟨1,0,none⟩=some (.int .i64 m)
theorem MaxL.below {w w':World} (h:MaxL w) (hb:Below w.heap.size w w'):MaxL w':=by
 obtain⟨m,hm⟩:=h
 exact⟨m,(hb.cell (p:=⟨1,0,none⟩) (World.block_lt_of_cell? w _ hm)).trans hm⟩
theorem MaxL.alloc {w:World} (h:MaxL w) (o:Obj):MaxL (w.alloc o):=h.below ((Below.refl _ w).alloc (Nat.le_refl _) o)
theorem count_room (s:ByteArray) (sub:ByteArray) (n:Nat) (hn:n≤2) (hs:s.size≤4000000):s.size+Lib.countB s sub*n≤140737488355328:=by
 have h:Lib.countB s sub≤s.size+1:=by
  have:=Lib.count_le s.data.toList sub.data.toList
  rw[len_bytes] at this
  exact this
 have h2:Lib.countB s sub*n≤(s.size+1)*2:=Nat.mul_le_mul h hn
 omega
theorem kdouble (V:ByteArray) (W:World) (hm:MaxL W) (hs:V.size≤4000000):
  Calls Tryz.prog 148 #[.string V,.string ⟨#[34]⟩,.string ⟨#[34,34]⟩] W fun e w'=>e=.returned (.string ⟨(Lx.dbl V.data.toList).toArray⟩)∧Below W.heap.size W w':=by
 obtain⟨m,hm⟩:=hm
 have:=Tryz.strings_ReplaceAll V ⟨#[34]⟩ ⟨#[34,34]⟩ m W (by omega) hm (by decide) (count_room _ _ _ (by decide) hs)
 rw[show(⟨#[34]⟩:ByteArray).data.toList=[34] from rfl,show(⟨#[34,34]⟩:ByteArray).data.toList=[34,34] from rfl,Lx.rep_all _ _ _ (by decide),Lx.rep_dbl] at this
 exact this
theorem ksingle (V:ByteArray) (l:List UInt8) (hV:V.data.toList=Lx.dbl l) (W:World) (hm:MaxL W) (hs:V.size≤4000000):
  Calls Tryz.prog 148 #[.string V,.string ⟨#[34,34]⟩,.string ⟨#[34]⟩] W fun e w'=>e=.returned (.string ⟨l.toArray⟩)∧Below W.heap.size W w':=by
 obtain⟨m,hm⟩:=hm
 have:=Tryz.strings_ReplaceAll V ⟨#[34,34]⟩ ⟨#[34]⟩ m W (by omega) hm (by decide) (count_room _ _ _ (by decide) hs)
 rw[show(⟨#[34]⟩:ByteArray).data.toList=[34] from rfl,show(⟨#[34,34]⟩:ByteArray).data.toList=[34,34] from rfl,Lx.rep_all _ _ _ (by decide),hV,Lx.rep_undbl] at this
 exact this
theorem khas (V:ByteArray) (W:World) (hs:V.size≤1000000):
  Calls Tryz.prog 54 #[.string V,.string ⟨#[34,34]⟩] W fun e w'=>e=.returned (.bool (decide (2≤V.size)&&(V.data.toList.take 2 == [34,34])))∧w'=W:=by
 have hl:Calls Tryz.prog 81 #[.string V,.string ⟨#[34,34]⟩] W fun e w'=>e=.returned (.bool (decide (2≤V.size)&&(V.data.toList.take 2 == [34,34])))∧w'=W:=by
  by_cases h2:2≤V.size
  ·have h2':(2:Int)≤(V.size:Int):=by omega
   have hsl:=slice_to V 2 h2
   have hc:((V.extract 0 2).toList == [34,34])=(V.data.toList.take 2 == [34,34]):=by
    rw[ByteArray.toList_eq,(cut_bytes V 0 2 h2 (Nat.zero_le _)).1]
    rfl
   obtain⟨b,hb⟩:∃ b,(V.data.toList.take 2 == [34,34])=b:=⟨_,rfl⟩
   rw[hb] at hc
   rw[hb,decide_eq_true h2]
   clear hb h2
   go_enter Tryz.func81,Tryz.ntmps81
   go_wp2
   go_ret
   exact⟨by cases b <;> rfl,rfl⟩
  ·have h2':¬(2:Int)≤(V.size:Int):=by omega
   rw[decide_eq_false h2]
   clear h2
   go_enter Tryz.func81,Tryz.ntmps81
   go_wp2
   go_ret
   exact⟨rfl,rfl⟩
 have HL:=Lib.hid hl
 obtain⟨b,hb⟩:∃ b,(decide (2≤V.size)&&(V.data.toList.take 2 == [34,34]))=b:=⟨_,rfl⟩
 rw[hb] at HL ⊢
 clear hl hb
 go_enter Tryz.func54,Tryz.ntmps54
 go_wp2_with (go_at_call 81;refine HL.out.mono ?_;rintro e w1 ⟨rfl,rfl⟩)
 go_ret
 exact⟨rfl,rfl⟩
theorem kquoted (s:ByteArray) (w:World) (hs:s.size≤1000000) (h0:0<s.size) (h34:s[0].toNat=34) (hm:MaxL w):
  Calls Tryz.prog 117 #[.string s] w (PSaid s (Lx.one s.data.toList) w):=by
 have HR:=Lib.hid fun(w4:World) b4=>pc_store w (w4:=w4) b4
 have HM:=Lib.hid (hm.alloc (.cells ZP 158))
 have hs0:s[0]=34:=Lx.byte_eq h34
 obtain⟨X,hX⟩:∃ X,Lx.quo 34 (s.data.toList.drop 1)=X:=⟨_,rfl⟩
 have hone:Lx.one s.data.toList=if X.2.1=0 then((6:Int),X.1,(0:Int),X.2.2) else if X.2.1=50 then(0,[],50,X.2.2) else(0,[],51,s.data.toList):=by
  have hw:=whole_head s h0
  rw[hs0] at hw
  rw[←hX]
  generalize s.data.toList.drop 1=L at hw
  rw[hw]
  rfl
 obtain⟨Y,hY⟩:∃ Y,Y=if X.2.1=0 then((6:Int),X.1,(0:Int),X.2.2) else if X.2.1=50 then(0,[],50,X.2.2) else(0,[],51,s.data.toList):=⟨_,rfl⟩
 rw[hone,←hY]
 have HY:=Lib.hid hY
 have hX0:Hid (X=([]++(Lx.quo 34 (s.data.toList.drop 1)).1,(Lx.quo 34 (s.data.toList.drop 1)).2)):=by
  show _=_
  rw[hX]
  rfl
 clear hone hX hs0 h34 hm hY
 go_enter Tryz.func117,Tryz.ntmps117
 go_wp2
 go_loopw [3] (fun iv wr=>∃ i:Nat,1≤i∧i≤s.size∧iv=.int .i64 (i:Nat)∧wr=w.alloc (.cells ZP 158)∧
  Hid (∃ l,(s.data.toList.drop 1).take (i-1)=Lx.dbl l∧X=(l++(Lx.quo 34 (s.data.toList.drop i)).1,(Lx.quo 34 (s.data.toList.drop i)).2))) (fun iv _=>s.size-(intOf iv).toNat)
 case atStart=>exact⟨1,Nat.le_refl _,h0,by first|rfl|go_num,rfl,⟨[],by rw[Nat.sub_self,List.take_zero];rfl,hX0.out⟩⟩
 case round=>
  clear hX0
  obtain⟨i,hi1,hi,rfl,rfl,HI⟩:=hrel
  obtain⟨l,hl,hX⟩:=HI.out
  obtain⟨k,hk,hk1,hk2,HS⟩:=span_end _ enter_clos3 (Lx.but 34) kclos3 s i (by unfold maxLen;omega) hi
  replace HS:=Lib.hid HS
  have hsl:=slice_from s i hi
  obtain⟨T,hT⟩:∃ T,(s.data.toList.drop i).takeWhile (Lx.but 34)=T:=⟨_,rfl⟩
  have hq:=Lx.quo_span 34 (s.data.toList.drop i)
  rw[show(34:UInt8).toNat=34 from rfl,←hk2,hT] at hq
  rw[hq] at hX
  obtain⟨e,he⟩:∃ e,i+k=e:=⟨_,rfl⟩
  rw[he] at hk1 hk2 hX
  have hki:(i:Int)+(k:Int)=(e:Int):=by omega
  have he1:1≤e:=by omega
  clear HI hq
  by_cases hes:e=s.size
  ·rw[hes,drop_end] at hX
   have hX1:X.2.1=51:=by rw[hX];rfl
   obtain rfl:Y=(0,[],51,s.data.toList):=by rw[HY.out,hX1,if_neg (by decide),if_neg (by decide)]
   have HW:=Lib.hid fun W=>kwrong 51 0 W
   have hb:((e:Int) == (s.size:Int))=true:=beq_iff_eq.2 (by omega)
   clear hX hX1 hk hk2 hT he hl hes HY
   go_wp2_with (first
    |(go_at_call 112;refine(HS.out _).mono ?_;rintro e w1 ⟨rfl,rfl⟩)
    |(go_at_call 123;refine(HW.out _).mono ?_;rintro e w4 ⟨rfl,b4⟩;obtain⟨z0,y0,y1,y2,y3,f0,f1,f2,f3,hl,hb⟩:=HR.out _ b4))
   obtain⟨_,e0,e1,e2,e3⟩:=pc_cells hl.out (.int .i64 0) (.string ⟨#[]⟩) (.int .i64 0) (.int .i64 51)
   exact bodyPost_ret (v:=piece 0 ⟨#[]⟩ 0 51) (by simp[results,Tryz.results117,go_sem,e0,e1,e2,e3]) rfl (PSaid.at_start (hb.out _ _ _ _) (by decide) h0)
  have hlt:e<s.size:=by omega
  have hlt':(e:Int)<(s.size:Int):=by omega
  have hb:((e:Int) == (s.size:Int))=false:=beq_eq_false_iff_ne.2 (by omega)
  have hDe:=drop_at s hlt
  by_cases hc:s[e].toNat=34
  ·have hb2:((s[e].toNat:Int) != 34)=false:=by rw[bne,beq_iff_eq.2 (by omega:(s[e].toNat:Int)=34)];rfl
   have hse:s[e]=34:=Lx.byte_eq hc
   have hTd:Lx.dbl (l++T)=(s.data.toList.drop 1).take (e-1):=by
    have hTl:T.length=e-i:=by rw[←hT,←hk];omega
    have h3:=congrArg (List.take T.length) (Lx.take_drop (Lx.but 34) (s.data.toList.drop i))
    rw[hT,List.take_left,hTl] at h3
    have h4:s.data.toList.drop i=(s.data.toList.drop 1).drop (i-1):=by rw[List.drop_drop];congr 1;omega
    rw[Lx.dbl_app,←hl,Lx.dbl_none T (by rw[←hT];exact Lx.but_take 34 _),show e-1=(i-1)+(e-i) by omega,List.take_add,←h4,←h3]
   obtain⟨c1,c2⟩:=cut_bytes s e s.size (Nat.le_refl _) (by omega)
   rw[List.take_of_length_le (by rw[List.length_drop,len_bytes];exact Nat.le_refl _)] at c1
   have hsl2:=slice_from s e hk1
   have HP:=Lib.hid fun W=>khas (s.extract e s.size) W (by omega)
   by_cases ht:∃ u,s.data.toList.drop (e+1)=34::u
   ·obtain⟨u,hu⟩:=ht
    have he2:e+1<s.size:=by
     have:=congrArg List.length hu
     rw[List.length_drop,len_bytes,List.length_cons] at this
     omega
    have hu2:u=s.data.toList.drop (e+2):=by
     have:=drop_at s he2
     rw[hu] at this
     injection this
    have hpre:(decide (2≤(s.extract e s.size).size)&&((s.extract e s.size).data.toList.take 2 == [34,34]))=true:=by
     rw[decide_eq_true (by omega),c1,hDe,hu,hse]
     rfl
    rw[hpre] at HP
    rw[hDe,hse,hu,Lx.quo_twice _ (by decide) (by decide)] at hX
    have HN:Hid (∃ l,(s.data.toList.drop 1).take (e+2-1)=Lx.dbl l∧X=(l++(Lx.quo 34 (s.data.toList.drop (e+2))).1,(Lx.quo 34 (s.data.toList.drop (e+2))).2)):=by
     refine⟨l++T++[34],?_,by rw[hX,←hu2];simp⟩
     have h4:s.data.toList.drop e=(s.data.toList.drop 1).drop (e-1):=by rw[List.drop_drop];congr 1;omega
     rw[Lx.dbl_app,hTd,show e+2-1=(e-1)+2 by omega,List.take_add,←h4,hDe,hu,hse]
     rfl
    clear hX hk hk2 hT he hl hes hTd hpre c1 c2 hDe hc hu hu2 hse HY
    go_wp2_with (first
     |(go_at_call 112;refine(HS.out _).mono ?_;rintro e w1 ⟨rfl,rfl⟩)
     |(go_at_call 54;refine(HP.out _).mono ?_;rintro e w1 ⟨rfl,rfl⟩))
    go_roundw
    case rel=>exact⟨e+2,by omega,by omega,by go_num,by trivial,HN⟩
    case measure=>simp[intOf];omega
   ·have hpre:(decide (2≤(s.extract e s.size).size)&&((s.extract e s.size).data.toList.take 2 == [34,34]))=false:=by
     rw[Bool.and_eq_false_iff]
     refine .inr (beq_eq_false_iff_ne.2 fun h=>ht ?_)
     rw[c1,hDe] at h
     cases hr:s.data.toList.drop (e+1) with
     |nil=>rw[hr] at h;simp at h
     |cons d u=>rw[hr] at h;simp at h;exact⟨u,by rw[h.2]⟩
    rw[hpre] at HP
    rw[hDe,hse,Lx.quo_last _ (by decide) (fun h=>ht h.2),List.append_nil] at hX
    obtain⟨m,hm⟩:∃ m,e+1=m:=⟨_,rfl⟩
    have hmi:(e:Int)+1=(m:Int):=by omega
    have hm1:0<m∧m≤s.size:=by omega
    obtain rfl:Y=(6,l++T,0,s.data.toList.drop m):=by rw[HY.out,hX,if_pos rfl,hm]
    have HU:=Lib.hid fun W hW=>ksingle (s.extract 1 e) (l++T) (by rw[(cut_bytes s 1 e hk1 he1).1,hTd]) W hW (by rw[(cut_bytes s 1 e hk1 he1).2];omega)
    clear hX hk hk2 hT he hl hes hTd hpre c1 c2 hDe hc hse ht HY hm
    go_wp2_with (first
     |(go_at_call 112;refine(HS.out _).mono ?_;rintro e w1 ⟨rfl,rfl⟩)
     |(go_at_call 54;refine(HP.out _).mono ?_;rintro e w1 ⟨rfl,rfl⟩)
     |(go_at_call 148;refine(HU.out _ HM.out).mono ?_;rintro e w4 ⟨rfl,b4⟩;obtain⟨z0,y0,y1,y2,y3,f0,f1,f2,f3,hl,hb⟩:=HR.out _ b4))
    obtain⟨_,e0,e1,e2,e3⟩:=pc_cells hl.out (.int .i64 6) (.string ⟨(l++T).toArray⟩) (.int .i64 (m:Nat)) (.int .i64 0)
    exact bodyPost_ret (v:=piece 6 ⟨(l++T).toArray⟩ (m:Nat) 0) (by simp[results,Tryz.results117,go_sem,e0,e1,e2,e3]) rfl ⟨hb.out _ _ _ _,fun _=>⟨_,m,rfl,rfl,hm1.1,hm1.2,rfl⟩,fun h=>absurd rfl h⟩
  ·have hg:Lx.good s[e]=false:=by
    rcases Lx.but_stops (hk2.symm.trans hDe) with h|h
    ·exact absurd h hc
    ·exact h
   have hb2:((s[e].toNat:Int) != 34)=true:=bne_iff_ne.2 (by omega)
   rw[hDe,Lx.quo_bad _ hg,←hDe] at hX
   obtain rfl:Y=(0,[],50,s.data.toList.drop e):=by rw[HY.out,hX];rfl
   have HW:=Lib.hid fun W=>kwrong 50 (e:Nat) W
   clear hX hk hk2 hT he hl hes hDe hc hg HY
   go_wp2_with (first
    |(go_at_call 112;refine(HS.out _).mono ?_;rintro e w1 ⟨rfl,rfl⟩)
    |(go_at_call 123;refine(HW.out _).mono ?_;rintro e w4 ⟨rfl,b4⟩;obtain⟨z0,y0,y1,y2,y3,f0,f1,f2,f3,hl,hb⟩:=HR.out _ b4))
   obtain⟨_,e0,e1,e2,e3⟩:=pc_cells hl.out (.int .i64 0) (.string ⟨#[]⟩) (.int .i64 (e:Nat)) (.int .i64 50)
   exact bodyPost_ret (v:=piece 0 ⟨#[]⟩ (e:Nat) 50) (by simp[results,Tryz.results117,go_sem,e0,e1,e2,e3]) rfl ⟨hb.out _ _ _ _,fun h=>absurd h (by simp),fun _=>⟨e,rfl,hlt,rfl⟩⟩
end Go.Proofs.YtcgaeknikfaghaaGreatDoor
namespace Go.Proofs.YtcgaeknikfaghaaGreatDoor
open Go.RowKit Go.Shelf
theorem PSaid.form {s:ByteArray} {X:Int×List UInt8×Int×List UInt8} {w w':World} {e:Ending} (q:PSaid s X w e w'):
  ∃ k T n E,e=.returned (piece k T n E)∧Hid (∀ W0 w0',Below W0.heap.size W0 w0'→PSaid s X W0 (.returned (piece k T n E)) w0'):=by
 by_cases h:X.2.2.1=0
 ·obtain⟨T,b,rfl,h1,h2,h3,h4⟩:=q.ok h
  exact⟨_,_,_,_,rfl,fun W0 w0' hb=>⟨hb,fun _=>⟨T,b,rfl,h1,h2,h3,h4⟩,fun h'=>absurd h h'⟩⟩
 ·obtain⟨p,rfl,h1,h2⟩:=q.bad h
  exact⟨_,_,_,_,rfl,fun W0 w0' hb=>⟨hb,fun h'=>absurd h' h,fun _=>⟨p,rfl,h1,h2⟩⟩⟩
theorem kfirst (s:ByteArray) (w:World) (hs:s.size≤1000000) (h0:0<s.size) (hm:MaxL w):
  Calls Tryz.prog 88 #[.string s] w (PSaid s (Lx.one s.data.toList) w):=by
 have HR:=Lib.hid fun(w4:World) b4=>pc_store w (w4:=w4) b4
 have HM:=Lib.hid (hm.alloc (.cells ZP 158))
 have hw:=rune_c s[0]
 have h0':(0:Int)<(s.size:Int):=by omega
 clear hm
 by_cases h40:s[0].toNat=40
 ·have c40:((s[0].toNat:Int) == 40)=true:=beq_iff_eq.2 (by omega)
  have hX:Lx.one s.data.toList=((1:Int),[s[0]],(0:Int),s.data.toList.drop 1):=by
   conv=>lhs;rw[whole_head s h0]
   simp[Lx.one,h40]
  have hT:(s.extract 0 1).data.toList=[s[0]]:=by
   rw[(cut_bytes s 0 1 h0 (Nat.zero_le _)).1,List.drop_zero,whole_head s h0]
   rfl
  have HP:=Lib.hid fun W=>(kupTo s 1 1 W h0).mono fun e w' (h:e=.returned (piece 1 (s.extract 0 1) (1:Nat) 0)∧Below W.heap.size W w')=>(show PSaid s (1,[s[0]],0,s.data.toList.drop 1) W e w' from⟨h.2,fun _=>⟨_,1,h.1,hT,Nat.zero_lt_one,h0,rfl⟩,fun h=>absurd rfl h⟩)
  rw[hX]
  clear hX hT h40
  go_enter Tryz.func88,Tryz.ntmps88
  go_wp2_with (go_at_call 115;refine(HP.out _).mono ?_;rintro e w4 q;obtain⟨k,T,n,E,rfl,HQ⟩:=q.form;obtain⟨z0,y0,y1,y2,y3,f0,f1,f2,f3,hl,hb⟩:=HR.out _ q.below;clear q)
  obtain⟨_,e0,e1,e2,e3⟩:=pc_cells hl.out (.int .i64 k) (.string T) (.int .i64 n) (.int .i64 E)
  exact bodyPost_ret (v:=piece k T n E) (by simp[results,Tryz.results88,go_sem,e0,e1,e2,e3]) rfl (HQ.out _ _ (hb.out _ _ _ _))
 by_cases h41:s[0].toNat=41
 ·have c40:((s[0].toNat:Int) == 40)=false:=beq_eq_false_iff_ne.2 (by omega)
  have c41:((s[0].toNat:Int) == 41)=true:=beq_iff_eq.2 (by omega)
  have hX:Lx.one s.data.toList=((2:Int),[s[0]],(0:Int),s.data.toList.drop 1):=by
   conv=>lhs;rw[whole_head s h0]
   simp[Lx.one,h41]
  have hT:(s.extract 0 1).data.toList=[s[0]]:=by
   rw[(cut_bytes s 0 1 h0 (Nat.zero_le _)).1,List.drop_zero,whole_head s h0]
   rfl
  have HP:=Lib.hid fun W=>(kupTo s 1 2 W h0).mono fun e w' (h:e=.returned (piece 2 (s.extract 0 1) (1:Nat) 0)∧Below W.heap.size W w')=>(show PSaid s (2,[s[0]],0,s.data.toList.drop 1) W e w' from⟨h.2,fun _=>⟨_,1,h.1,hT,Nat.zero_lt_one,h0,rfl⟩,fun h=>absurd rfl h⟩)
  rw[hX]
  clear hX hT h40 h41
  go_enter Tryz.func88,Tryz.ntmps88
  go_wp2_with (go_at_call 115;refine(HP.out _).mono ?_;rintro e w4 q;obtain⟨k,T,n,E,rfl,HQ⟩:=q.form;obtain⟨z0,y0,y1,y2,y3,f0,f1,f2,f3,hl,hb⟩:=HR.out _ q.below;clear q)
  obtain⟨_,e0,e1,e2,e3⟩:=pc_cells hl.out (.int .i64 k) (.string T) (.int .i64 n) (.int .i64 E)
  exact bodyPost_ret (v:=piece k T n E) (by simp[results,Tryz.results88,go_sem,e0,e1,e2,e3]) rfl (HQ.out _ _ (hb.out _ _ _ _))
 by_cases h124:s[0].toNat=124
 ·have c40:((s[0].toNat:Int) == 40)=false:=beq_eq_false_iff_ne.2 (by omega)
  have c41:((s[0].toNat:Int) == 41)=false:=beq_eq_false_iff_ne.2 (by omega)
  have c124:((s[0].toNat:Int) == 124)=true:=beq_iff_eq.2 (by omega)
  have HP:=Lib.hid fun W=>kbarred s W hs h0 h124
  clear h40 h41 h124
  go_enter Tryz.func88,Tryz.ntmps88
  go_wp2_with (go_at_call 116;refine(HP.out _).mono ?_;rintro e w4 q;obtain⟨k,T,n,E,rfl,HQ⟩:=q.form;obtain⟨z0,y0,y1,y2,y3,f0,f1,f2,f3,hl,hb⟩:=HR.out _ q.below;clear q)
  obtain⟨_,e0,e1,e2,e3⟩:=pc_cells hl.out (.int .i64 k) (.string T) (.int .i64 n) (.int .i64 E)
  exact bodyPost_ret (v:=piece k T n E) (by simp[results,Tryz.results88,go_sem,e0,e1,e2,e3]) rfl (HQ.out _ _ (hb.out _ _ _ _))
 by_cases h34:s[0].toNat=34
 ·have c40:((s[0].toNat:Int) == 40)=false:=beq_eq_false_iff_ne.2 (by omega)
  have c41:((s[0].toNat:Int) == 41)=false:=beq_eq_false_iff_ne.2 (by omega)
  have c124:((s[0].toNat:Int) == 124)=false:=beq_eq_false_iff_ne.2 (by omega)
  have c34:((s[0].toNat:Int) == 34)=true:=beq_iff_eq.2 (by omega)
  have HP:=Lib.hid fun W=>fun hW=>kquoted s W hs h0 h34 hW
  clear h40 h41 h124 h34
  go_enter Tryz.func88,Tryz.ntmps88
  go_wp2_with (go_at_call 117;refine(HP.out _ HM.out).mono ?_;rintro e w4 q;obtain⟨k,T,n,E,rfl,HQ⟩:=q.form;obtain⟨z0,y0,y1,y2,y3,f0,f1,f2,f3,hl,hb⟩:=HR.out _ q.below;clear q)
  obtain⟨_,e0,e1,e2,e3⟩:=pc_cells hl.out (.int .i64 k) (.string T) (.int .i64 n) (.int .i64 E)
  exact bodyPost_ret (v:=piece k T n E) (by simp[results,Tryz.results88,go_sem,e0,e1,e2,e3]) rfl (HQ.out _ _ (hb.out _ _ _ _))
 by_cases h58:s[0].toNat=58
 ·have c40:((s[0].toNat:Int) == 40)=false:=beq_eq_false_iff_ne.2 (by omega)
  have c41:((s[0].toNat:Int) == 41)=false:=beq_eq_false_iff_ne.2 (by omega)
  have c124:((s[0].toNat:Int) == 124)=false:=beq_eq_false_iff_ne.2 (by omega)
  have c34:((s[0].toNat:Int) == 34)=false:=beq_eq_false_iff_ne.2 (by omega)
  have c58:((s[0].toNat:Int) == 58)=true:=beq_iff_eq.2 (by omega)
  have HP:=Lib.hid fun W=>kkeyword s W hs h0 h58
  clear h40 h41 h124 h34 h58
  go_enter Tryz.func88,Tryz.ntmps88
  go_wp2_with (go_at_call 118;refine(HP.out _).mono ?_;rintro e w4 q;obtain⟨k,T,n,E,rfl,HQ⟩:=q.form;obtain⟨z0,y0,y1,y2,y3,f0,f1,f2,f3,hl,hb⟩:=HR.out _ q.below;clear q)
  obtain⟨_,e0,e1,e2,e3⟩:=pc_cells hl.out (.int .i64 k) (.string T) (.int .i64 n) (.int .i64 E)
  exact bodyPost_ret (v:=piece k T n E) (by simp[results,Tryz.results88,go_sem,e0,e1,e2,e3]) rfl (HQ.out _ _ (hb.out _ _ _ _))
 by_cases h35:s[0].toNat=35
 ·have c40:((s[0].toNat:Int) == 40)=false:=beq_eq_false_iff_ne.2 (by omega)
  have c41:((s[0].toNat:Int) == 41)=false:=beq_eq_false_iff_ne.2 (by omega)
  have c124:((s[0].toNat:Int) == 124)=false:=beq_eq_false_iff_ne.2 (by omega)
  have c34:((s[0].toNat:Int) == 34)=false:=beq_eq_false_iff_ne.2 (by omega)
  have c58:((s[0].toNat:Int) == 58)=false:=beq_eq_false_iff_ne.2 (by omega)
  have c35:((s[0].toNat:Int) == 35)=true:=beq_iff_eq.2 (by omega)
  have HP:=Lib.hid fun W=>kother s W hs h0 h35
  clear h40 h41 h124 h34 h58 h35
  go_enter Tryz.func88,Tryz.ntmps88
  go_wp2_with (go_at_call 119;refine(HP.out _).mono ?_;rintro e w4 q;obtain⟨k,T,n,E,rfl,HQ⟩:=q.form;obtain⟨z0,y0,y1,y2,y3,f0,f1,f2,f3,hl,hb⟩:=HR.out _ q.below;clear q)
  obtain⟨_,e0,e1,e2,e3⟩:=pc_cells hl.out (.int .i64 k) (.string T) (.int .i64 n) (.int .i64 E)
  exact bodyPost_ret (v:=piece k T n E) (by simp[results,Tryz.results88,go_sem,e0,e1,e2,e3]) rfl (HQ.out _ _ (hb.out _ _ _ _))
 by_cases hd:Lx.digit s[0]=true
 ·have c40:((s[0].toNat:Int) == 40)=false:=beq_eq_false_iff_ne.2 (by omega)
  have c41:((s[0].toNat:Int) == 41)=false:=beq_eq_false_iff_ne.2 (by omega)
  have c124:((s[0].toNat:Int) == 124)=false:=beq_eq_false_iff_ne.2 (by omega)
  have c34:((s[0].toNat:Int) == 34)=false:=beq_eq_false_iff_ne.2 (by omega)
  have c58:((s[0].toNat:Int) == 58)=false:=beq_eq_false_iff_ne.2 (by omega)
  have c35:((s[0].toNat:Int) == 35)=false:=beq_eq_false_iff_ne.2 (by omega)
  have HD:=Lib.hid fun W=>kdigit s[0] W
  rw[hd] at HD
  have HP:=Lib.hid fun W=>knumber s W hs h0 hd
  clear hd h40 h41 h124 h34 h58 h35
  go_enter Tryz.func88,Tryz.ntmps88
  go_wp2_with (first
   |(go_at_call 120;refine(HD.out _).mono ?_;rintro e w1 ⟨rfl,rfl⟩)
   |(go_at_call 121;refine(HP.out _).mono ?_;rintro e w4 q;obtain⟨k,T,n,E,rfl,HQ⟩:=q.form;obtain⟨z0,y0,y1,y2,y3,f0,f1,f2,f3,hl,hb⟩:=HR.out _ q.below;clear q))
  obtain⟨_,e0,e1,e2,e3⟩:=pc_cells hl.out (.int .i64 k) (.string T) (.int .i64 n) (.int .i64 E)
  exact bodyPost_ret (v:=piece k T n E) (by simp[results,Tryz.results88,go_sem,e0,e1,e2,e3]) rfl (HQ.out _ _ (hb.out _ _ _ _))
 have c40:((s[0].toNat:Int) == 40)=false:=beq_eq_false_iff_ne.2 (by omega)
 have c41:((s[0].toNat:Int) == 41)=false:=beq_eq_false_iff_ne.2 (by omega)
 have c124:((s[0].toNat:Int) == 124)=false:=beq_eq_false_iff_ne.2 (by omega)
 have c34:((s[0].toNat:Int) == 34)=false:=beq_eq_false_iff_ne.2 (by omega)
 have c58:((s[0].toNat:Int) == 58)=false:=beq_eq_false_iff_ne.2 (by omega)
 have c35:((s[0].toNat:Int) == 35)=false:=beq_eq_false_iff_ne.2 (by omega)
 have HD:=Lib.hid fun W=>kdigit s[0] W
 rw[Bool.eq_false_iff.2 hd] at HD
 have HS:=Lib.hid fun W=>kspan _ enter_named _ knamed s W (by unfold maxLen;omega)
 obtain⟨v,hv⟩:∃ v,(s.data.toList.takeWhile Lx.name).length=v:=⟨_,rfl⟩
 rw[hv] at HS
 have hq:¬(s[0].toNat=124∨s[0].toNat=34):=by omega
 have htk:=takeWhile_at Lx.name s h0
 rw[List.drop_zero] at htk
 by_cases hn:Lx.name s[0]=true
 ·have hX:Lx.one s.data.toList=((3:Int),s[0]::(s.data.toList.drop 1).takeWhile Lx.name,(0:Int),(s.data.toList.drop 1).dropWhile Lx.name):=by
   conv=>lhs;rw[whole_head s h0]
   simp[Lx.one,h40,h41,hq,hd,hn]
  rw[if_pos hn] at htk
  obtain⟨t1,t2⟩:=take_len Lx.name s 0 (Nat.zero_le _)
  rw[List.drop_zero,hv,Nat.zero_add] at t1 t2
  have t3:s.data.toList.drop v=(s.data.toList.drop 1).dropWhile Lx.name:=by
   rw[t2]
   conv=>lhs;rw[whole_head s h0]
   rw[List.dropWhile_cons,if_pos hn]
  have hv1:0<v:=by rw[←hv,htk];simp
  have hT:=text_of s 0 v h0 hv1 t1 t3
  have hv':(0:Int)<(v:Int):=by omega
  have HP:=Lib.hid fun W=>(kupTo s v 3 W t1).mono fun e w' (h:e=.returned (piece 3 (s.extract 0 v) (v:Nat) 0)∧Below W.heap.size W w')=>(show PSaid s (3,s[0]::(s.data.toList.drop 1).takeWhile Lx.name,0,(s.data.toList.drop 1).dropWhile Lx.name) W e w' from⟨h.2,fun _=>⟨_,v,h.1,hT,hv1,t1,t3⟩,fun h=>absurd rfl h⟩)
  rw[hX]
  clear hX hT t1 t2 t3 hv htk hq hn hd h40 h41 h124 h34 h58 h35 hv1
  go_enter Tryz.func88,Tryz.ntmps88
  go_wp2_with (first
   |(go_at_call 120;refine(HD.out _).mono ?_;rintro e w1 ⟨rfl,rfl⟩)
   |(go_at_call 112;refine(HS.out _).mono ?_;rintro e w1 ⟨rfl,rfl⟩)
   |(go_at_call 115;refine(HP.out _).mono ?_;rintro e w4 q;obtain⟨k,T,n,E,rfl,HQ⟩:=q.form;obtain⟨z0,y0,y1,y2,y3,f0,f1,f2,f3,hl,hb⟩:=HR.out _ q.below;clear q))
  obtain⟨_,e0,e1,e2,e3⟩:=pc_cells hl.out (.int .i64 k) (.string T) (.int .i64 n) (.int .i64 E)
  exact bodyPost_ret (v:=piece k T n E) (by simp[results,Tryz.results88,go_sem,e0,e1,e2,e3]) rfl (HQ.out _ _ (hb.out _ _ _ _))
 ·have hX:Lx.one s.data.toList=((0:Int),[],(50:Int),s.data.toList):=by
   conv=>lhs;rw[whole_head s h0]
   simp only[Lx.one,h40,h41,hq,hd,hn,h58,h35,if_false]
   rw[←whole_head s h0]
   simp
  rw[if_neg hn] at htk
  obtain rfl:v=0:=by rw[←hv,htk];rfl
  have HP:=Lib.hid fun W=>(kwrong 50 0 W).mono fun e w' (h:e=.returned (piece 0 ⟨#[]⟩ 0 50)∧Below W.heap.size W w')=>(show PSaid s (0,[],50,s.data.toList) W e w' from h.1▸PSaid.at_start h.2 (by decide) h0)
  rw[hX]
  clear hX hv htk hq hn hd h40 h41 h124 h34 h58 h35
  go_enter Tryz.func88,Tryz.ntmps88
  go_wp2_with (first
   |(go_at_call 120;refine(HD.out _).mono ?_;rintro e w1 ⟨rfl,rfl⟩)
   |(go_at_call 112;refine(HS.out _).mono ?_;rintro e w1 ⟨rfl,rfl⟩)
   |(go_at_call 123;refine(HP.out _).mono ?_;rintro e w4 q;obtain⟨k,T,n,E,rfl,HQ⟩:=q.form;obtain⟨z0,y0,y1,y2,y3,f0,f1,f2,f3,hl,hb⟩:=HR.out _ q.below;clear q))
  obtain⟨_,e0,e1,e2,e3⟩:=pc_cells hl.out (.int .i64 k) (.string T) (.int .i64 n) (.int .i64 E)
  exact bodyPost_ret (v:=piece k T n E) (by simp[results,Tryz.results88,go_sem,e0,e1,e2,e3]) rfl (HQ.out _ _ (hb.out _ _ _ _))
end Go.Proofs.YtcgaeknikfaghaaGreatDoor
namespace Go.Proofs.YtcgaeknikfaghaaGreatDoor
open Go.RowKit Go.Shelf
theorem Lx.skip_twice:∀ (l:List UInt8) (r:Bool),Lx.skip false (Lx.skip r l)=Lx.skip r l
 |[],_=>rfl
 |c::t,r=>by
  rw[Lx.skip_cons]
  split
  ·rename_i hg
   split
   ·rename_i h
    have h':=h
    simp at h'
    exact Lx.skip_stays t h'.2 h'.1.2
   ·exact Lx.skip_twice t _
  ·rename_i hg
   rw[Lx.skip_cons,if_neg hg]
theorem pass_k (s:ByteArray) (a:Nat) (hs:s.size≤1000000) (ha:a≤s.size):∃ k:Nat,a≤k∧k≤s.size∧s.data.toList.drop k=Lx.skip false (s.data.toList.drop a)∧
  ∀ w,Calls Tryz.prog 86 #[.string s,.int .i64 (a:Nat)] w fun e w'=>e=.returned (.int .i64 (k:Nat))∧w'=w:=by
 obtain⟨p,hp⟩:=Lx.skip_end (s.data.toList.drop a) false
 have hl:=congrArg List.length hp
 rw[List.length_append,List.length_drop,len_bytes] at hl
 have hk:s.data.toList.drop (a+p.length)=Lx.skip false (s.data.toList.drop a):=by
  rw[←List.drop_drop]
  have:=congrArg (List.drop p.length) hp
  rw[List.drop_left] at this
  exact this
 refine⟨a+p.length,by omega,by omega,hk,fun w=>?_⟩
 refine(kpass s a w (by unfold maxLen;omega) ha).mono ?_
 rintro e w' ⟨k',rfl,rfl,h1,h2,h3⟩
 obtain rfl:=drop_inj s h2 (by omega) (h3.trans hk.symm)
 exact⟨rfl,rfl⟩
theorem klex (s:ByteArray) (w:World) (hs:s.size≤100000000) (hm:MaxL w):
  Calls Tryz.prog 59 #[.string s] w fun e w'=>∃ A c l E p,e=.returned (.tuple #[.slice A l.length c,.int .i64 E,.int .i64 (p:Nat)])∧LSaid s w A c l E p w':=by
 by_cases hlong:16384<s.size
 ·have hl':(16384:Int)<(s.size:Int):=by omega
  go_enter Tryz.func59,Tryz.ntmps59
  go_wp2
  go_ret3
  exact⟨none,0,[],2,0,rfl,⟨OwnL.nil _ _,Below.refl _ _,fun x hx=>absurd hx List.not_mem_nil,Nat.zero_le _,by simp,fun _=>⟨rfl,rfl,rfl⟩,fun h=>absurd h (by omega)⟩⟩
 ·have hl':¬(16384:Int)<(s.size:Int):=by omega
  replace hs:s.size≤1000000:=by omega
  obtain⟨X,HX⟩:∃ X,Hid (Lx.lex 4000 s.data.toList=X):=⟨_,rfl⟩
  have HX0:=Lib.hid HX.out
  obtain⟨j,hj1,hj2,hj3,HJ⟩:=pass_k s 0 hs (Nat.zero_le _)
  rw[List.drop_zero] at hj3
  replace HJ:=Lib.hid HJ
  have HXj:Hid (Lx.skip false (s.data.toList.drop j)=s.data.toList.drop j∧X=(Lx.lex 4000 (s.data.toList.drop j))):=⟨by rw[hj3,Lx.skip_twice],by rw[←HX.out];exact Lx.lex_skip 4000 (by rw[hj3,Lx.skip_twice])⟩
  have HM:=Lib.hid hm
  clear hj1 hj3 hm
  go_enter Tryz.func59,Tryz.ntmps59
  go_wp2_with (go_at_call 86;refine(HJ.out _).mono ?_;rintro e w1 ⟨rfl,rfl⟩)
  go_loopw [5,6] (fun ov iv wr=>∃ (i m:Nat) (A:Option Addr) (c:Nat) (l:List MTok),i≤s.size∧m≤4000∧iv=.int .i64 (i:Nat)∧ov=.slice A m c∧Below w1.heap.size w1 wr∧
   Hid (Lx.skip false (s.data.toList.drop i)=s.data.toList.drop i∧OwnL wr w1.heap.size A c l∧l.length=m∧(∀ x∈l,x.2.2≤s.size)∧X=(l.map (pureTok s)++(Lx.lex (4000-m) (s.data.toList.drop i)).1,(Lx.lex (4000-m) (s.data.toList.drop i)).2))) (fun _ iv _=>s.size-(intOf iv).toNat)
  case atStart=>exact⟨j,0,none,0,[],hj2,Nat.zero_le _,rfl,rfl,by first|exact Below.refl _ _|assumption,⟨HXj.out.1,OwnL.nil _ _,rfl,fun x hx=>absurd hx List.not_mem_nil,by rw[HXj.out.2];rfl⟩⟩
  case round=>
   clear HX HXj HJ hj2
   obtain⟨i,m,A,c,l,hi,hm,rfl,rfl,hb,HI⟩:=hrel
   obtain⟨hsk,ho,hlm,hat,hX⟩:=HI.out
   clear HI
   have HB:=Lib.hid hb
   have HO:=Lib.hid ho
   have HL:=Lib.hid hlm
   have HT:=Lib.hid hat
   have hfew:Hid (l.length≤4000):=(by show _≤_;omega)
   have hnl:¬16384<s.size:=hlong
   have end_:∀ (E:Int) (p:Nat),p≤s.size→X=(l.map (pureTok s),E,s.data.toList.drop p)→Hid (∀ w',Below wr.heap.size wr w'→LSaid s w1 A c l E p w'):=fun E p hp hx=>Lib.hid fun w' b'=>
    ⟨HO.out.kept b',HB.out.trans (b'.mono HB.out.size),HT.out,hp,hfew.out,fun h=>absurd h hnl,fun _=>by rw[HX0.out,hx];exact⟨rfl,rfl,rfl⟩⟩
   have HEnd:=Lib.hid end_
   by_cases hks:i=s.size
   ·subst hks
    rw[drop_end] at hX
    rw[Lx.lex_nil _ (show Lx.skip false []=[] from rfl)] at hX
    have HZ:=Lib.hid (HEnd.out 0 s.size (Nat.le_refl _) (by rw[hX,drop_end];simp))
    clear hX hsk hb ho hlm hat end_ HEnd
    go_wp2
    go_ret3
    exact⟨A,c,l,0,s.size,by rw[HL.out];rfl,HZ.out.out _ (Below.refl _ _)⟩
   have hklt:i<s.size:=by omega
   have hklt':(i:Int)<(s.size:Int):=by omega
   have hDk:=drop_at s hklt
   rw[hDk] at hsk
   have HG:=Lib.hid fun W=>kscripts s[i] W
   have hwc:=rune_c s[i]
   obtain⟨g,hg⟩:∃ g,Lx.good s[i]=g:=⟨_,rfl⟩
   rw[hg] at HG
   rw[hDk] at hX
   cases g with
   |false=>
    rw[Lx.lex_bad _ hsk hg] at hX
    have HZ:=Lib.hid (HEnd.out 50 i hi (by rw[hX,hDk];simp))
    clear hX hb ho hlm hat end_ HEnd hsk hDk hg hks
    go_wp2_with (go_at_call 87;refine(HG.out _).mono ?_;rintro e w5 ⟨rfl,rfl⟩)
    go_ret3
    exact⟨A,c,l,50,i,by rw[HL.out];rfl,HZ.out.out _ (Below.refl _ _)⟩
   |true=>
    by_cases hm4:m=4000
    ·subst hm4
     rw[Nat.sub_self,Lx.lex_zero hsk hg] at hX
     have HZ:=Lib.hid (HEnd.out 2 i hi (by rw[hX,hDk];simp))
     clear hX hb ho hlm hat end_ HEnd hsk hDk hg hks
     go_wp2_with (go_at_call 87;refine(HG.out _).mono ?_;rintro e w5 ⟨rfl,rfl⟩)
     go_ret3
     exact⟨A,c,l,2,i,by rw[HL.out];rfl,HZ.out.out _ (Below.refl _ _)⟩
    ·obtain⟨r,hr⟩:∃ r,4000-m=r+1:=⟨4000-m-1,by omega⟩
     have hr2:4000-(m+1)=r:=by omega
     have hmb:((m:Int) == 4000)=false:=beq_eq_false_iff_ne.2 (by omega)
     rw[hr] at hX
     have hsl:=slice_from s i hi
     obtain⟨c1,c2⟩:=cut_bytes s i s.size (Nat.le_refl _) hi
     rw[List.take_of_length_le (by rw[List.length_drop,len_bytes];exact Nat.le_refl _)] at c1
     have H1:=Lib.hid fun W hW=>kfirst (s.extract i s.size) W (by omega) (by omega) hW
     obtain⟨Y,hY⟩:∃ Y,Lx.one (s.data.toList.drop i)=Y:=⟨_,rfl⟩
     rw[c1,hY] at H1
     rw[hDk] at hY
     have HMr:=Lib.hid (HM.out.below HB.out)
     have HC:=Lib.hid (And.intro c1 c2)
     by_cases he:Y.2.2.1=0
     ·rw[Lx.lex_ok r hsk hg (by rw[hY];exact he),hY] at hX
      have HE:=Lib.hid he
      have hm3:m+1≤4000:=by omega
      have HOn:Hid (∀ w2,Below wr.heap.size wr w2→∀ o,OwnL (w2.alloc o) w1.heap.size A c l∧Below w1.heap.size w1 w2∧w1.heap.size≤w2.heap.size):=fun w2 b2 o=>⟨HO.out.kept (b2.alloc b2.size o),HB.out.trans (b2.mono HB.out.size),Nat.le_trans HB.out.size b2.size⟩
      have HXn:Hid (∀ (T:ByteArray) (b k:Nat),T.data.toList=Y.2.1→s.data.toList.drop b=Y.2.2.2→s.data.toList.drop k=Lx.skip false (s.data.toList.drop b)→Lx.skip false (s.data.toList.drop k)=s.data.toList.drop k∧X=((l++[(Y.1,T,i)]).map (pureTok s)++(Lx.lex (4000-(m+1)) (s.data.toList.drop k)).1,(Lx.lex (4000-(m+1)) (s.data.toList.drop k)).2)):=fun T b k e1 e2 e3=>by
       refine⟨by rw[e3,Lx.skip_twice],?_⟩
       rw[hX,←e2,hr2,List.map_append,Lx.lex_skip r (show Lx.skip false (s.data.toList.drop b)=Lx.skip false (s.data.toList.drop k) by rw[e3,Lx.skip_twice])]
       have:(s[i]::s.data.toList.drop (i+1)).length=s.size-i:=by rw[←hDk,List.length_drop,len_bytes]
       simp only[List.map_cons,List.map_nil,pureTok,e1,this,List.append_assoc,List.cons_append,List.nil_append]
      have HO2:Hid (∀ w2 w3 o1 o2,Below w1.heap.size w1 w2→w1.heap.size≤w2.heap.size→((w2.alloc o1).grownBy w3 (Value.slice A m c).ownBlock)→(Value.slice A m c).ownBlock=o2→Below w1.heap.size w1 w3):=fun w2 w3 o1 o2 b2 z2 g3 _=>
       (b2.alloc z2 o1).grown g3 (Nat.le_trans z2 (by simp)) (fun q hq=>(HO.out.lt q (by rw[HL.out];exact hq)).1)
      have HBX:Hid (∀ w2 w3 cs,Below wr.heap.size wr w2→((w2.alloc (.cells cs 158)).grownBy w3 (Value.slice A m c).ownBlock)→Lies w3 w2.heap.size 158 cs):=fun w2 w3 cs b2 g3=>
       (Turn.of_grown (F:=fun q=>(Value.slice A m c).ownBlock=some q) g3 (fun q hq _=>hq)).lies (Lies.new w2 158 cs) (fun hq=>absurd (HO.out.lt _ (by rw[HL.out];exact hq)).2 (Nat.not_lt.2 b2.size))
      have HPK:=Lib.hid fun(b:Nat) (hb:b≤s.size)=>pass_k s b hs hb
      clear hX hb ho hlm hat end_ HEnd hsk hDk hg hks hY he hr hr2 hm4 c1 HX0
      go_wp2_with (first
       |(go_at_call 87;refine(HG.out _).mono ?_;rintro e w5 ⟨rfl,rfl⟩)
       |(go_at_call 88;refine(H1.out _ HMr.out).mono ?_;rintro e w2 q;obtain⟨T,b,rfl,hT,hb1,hb2,hb3⟩:=q.ok HE.out;have QT:=Lib.hid hT;have QB:=Lib.hid hb3;have QW:=Lib.hid q.below;clear q hT hb3;obtain⟨d,hd⟩:∃ d,i+b=d:=⟨_,rfl⟩;have hdi:(i:Int)+(b:Int)=(d:Int):=(by omega);obtain⟨k,hk1,hk2,hk3,hk4⟩:=HPK.out d (by omega);have HK4:=Lib.hid hk4;have HK3:=Lib.hid hk3;clear hk3 hk4)
       |(go_at_call 86;refine(HK4.out _).mono ?_;rintro e w6 ⟨rfl,rfl⟩)
       |(at_builtin;refine appendL _ rfl (.tmp 44) (.tmp 51) rfl w1.heap.size A c l m HL.out (Y.1,T,i) _ (by simp) rfl (HOn.out _ QW.out _).1 rfl (by omega) (Nat.le_trans (HOn.out _ QW.out (.cells #[] 0)).2.2 (by simp)) ?_;intro A3 c3 w3 o3 g3;have O3:=Lib.hid o3;have B3:=Lib.hid (HO2.out _ _ _ _ (HOn.out _ QW.out (.cells #[] 0)).2.1 (HOn.out _ QW.out (.cells #[] 0)).2.2 g3 rfl);have HLi:=HBX.out _ _ _ QW.out g3;have z2:=HLi.cell 2;simp at z2;have z3:=HLi.lt;clear o3 g3 HLi))
      go_roundw
      case rel=>exact⟨k,m+1,A3,c3,l++[(Y.1,T,i)],hk2,hm3,rfl,rfl,B3.out,⟨(HXn.out T d k QT.out (by rw[←hd,←List.drop_drop,←HC.out.1];exact QB.out) HK3.out).1,O3.out,by rw[List.length_append,HL.out];rfl,fun x hx=>(by rcases List.mem_append.1 hx with h|h;exact HT.out x h;rw[List.mem_singleton.1 h];exact hi),(HXn.out T d k QT.out (by rw[←hd,←List.drop_drop,←HC.out.1];exact QB.out) HK3.out).2⟩⟩
      case measure=>simp[intOf];omega
     ·rw[Lx.lex_err r hsk hg (by rw[hY];exact he),hY] at hX
      have HE:=Lib.hid he
      have HZ:Hid (∀ p:Nat,i+p<s.size→(s.extract i s.size).data.toList.drop p=Y.2.2.2→∀ w',Below wr.heap.size wr w'→LSaid s w1 A c l Y.2.2.1 (i+p:Nat) w'):=fun p hp e2 w' b'=>
       (HEnd.out Y.2.2.1 (i+p) (by omega) (by rw[hX,←e2,HC.out.1,List.drop_drop];simp)).out w' b'
      obtain⟨E,hE⟩:∃ E,Y.2.2.1=E:=⟨_,rfl⟩
      have hEb:(E == 0)=false:=by rw[←hE];exact beq_eq_false_iff_ne.2 he
      have hEn:(E != 0)=true:=by rw[bne,hEb];rfl
      have HEq:=Lib.hid hE
      clear hX hb ho hlm hat end_ HEnd hsk hDk hg hks hY he hr hr2 hm4 hE c1 HX0
      go_wp2_with (first
       |(go_at_call 87;refine(HG.out _).mono ?_;rintro e w5 ⟨rfl,rfl⟩)
       |(go_at_call 88;refine(H1.out _ HMr.out).mono ?_;rintro e w2 q;obtain⟨p,rfl,hp1,hp3⟩:=q.bad HE.out;rw[HEq.out];have QB:=Lib.hid hp3;have QW:=Lib.hid q.below;clear q hp3;obtain⟨d,hd⟩:∃ d,i+p=d:=⟨_,rfl⟩;have hdi:(i:Int)+(p:Int)=(d:Int):=(by omega)))
      go_quiet (fail)
      go_wp2
      go_ret3
      exact⟨A,c,l,Y.2.2.1,d,by rw[HL.out,HEq.out];rfl,hd▸HZ.out p (by omega) QB.out _ (((QW.out.alloc QW.out.size _).trans (Turn.none_ ((Turn.refl (fun _=>False) _).drewN _) (fun _=>id) |>.mono (by simp;exact Nat.le_succ_of_le QW.out.size))))⟩
end Go.Proofs.YtcgaeknikfaghaaGreatDoor
