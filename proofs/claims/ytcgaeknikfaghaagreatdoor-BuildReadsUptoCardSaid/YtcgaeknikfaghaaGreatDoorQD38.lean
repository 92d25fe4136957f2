/- What the proofs of this claim use, text by text. -/
import Derived.Test.YtcgaeknikfaghaaGreatDoorQD37
set_option linter.unusedSimpArgs false
set_option linter.unusedVariables false
set_option maxRecDepth 100000
set_option maxHeartbeats 25600000
namespace Go.Proofs.YtcgaeknikfaghaaGreatDoor
open Go.RowKit Go.Shelf
theorem kwrite (k:Int) (T:ByteArray) (at_:Int) (w:World) (hT:T.size≤1100000) (hm:MaxL w):
  Calls Tryz.prog 143 #[.agg #[.int .i64 k,.string T,.int .i64 at_]] w fun e w'=>
   ∃ V:ByteArray,e=.returned (.string V)∧V.data.toList=Lx.show k T.data.toList∧V.size≤4000000∧Below w.heap.size w w':=by
 obtain⟨X,hX⟩:∃ X,Lx.show k T.data.toList=X:=⟨_,rfl⟩
 rw[hX]
 have HX:=Lib.hid hX
 obtain⟨sm,hsm⟩:∃ b,Lx.simple T.data.toList=b:=⟨_,rfl⟩
 have HS:=Lib.hid fun W=>ksimple T W (by unfold maxLen;omega)
 rw[hsm] at HS
 have HSM:=Lib.hid hsm
 have HBa:=Lib.hid ((Below.refl _ w).alloc (Nat.le_refl _) (tbox k T at_))
 have HMa:=Lib.hid (hm.alloc (tbox k T at_))
 have hTs:T.size≤4000000:=by omega
 have hadd:∀ (a b:ByteArray) (W:World),a.size≤8388608→b.size≤8388608→(Op.stringOp .add a b).run Tryz.prog W=.ok (.string (a++b)) W:=fun a b W ha hb=>run_string_add W a b (by omega) (by omega)
 clear hX hsm hm
 have hways:(k=3∧sm=true)∨(k=3∧sm=false)∨k=6∨(k≠3∧k≠6):=by
  by_cases h3:k=3
  ·cases sm
   ·exact .inr (.inl ⟨h3,rfl⟩)
   ·exact .inl ⟨h3,rfl⟩
  ·by_cases h6:k=6
   ·exact .inr (.inr (.inl h6))
   ·exact .inr (.inr (.inr ⟨h3,h6⟩))
 rcases hways with⟨hk,rfl⟩|⟨hk,rfl⟩|hk|⟨h3,h6⟩
 ·have k3:(k == 3)=true:=beq_iff_eq.2 hk
  have k6:(k == 6)=false:=beq_eq_false_iff_ne.2 (by omega)
  have HV:Hid (T.data.toList=X):=by show _=_;rw[←HX.out,hk,Lx.show,if_pos rfl,if_pos HSM.out]
  clear hk hadd
  go_enter Tryz.func143,Tryz.ntmps143
  go_wp2_with (go_at_call 177;refine(HS.out _).mono ?_;rintro e w1 ⟨rfl,q,rfl⟩)
  go_ret
  exact⟨T,rfl,HV.out,hTs,HBa.out.trans ((Turn.none_ ((Turn.refl (fun _=>False) _).drewN _) (fun _=>id)).mono (by simp))⟩
 ·have k3:(k == 3)=true:=beq_iff_eq.2 hk
  have k6:(k == 6)=false:=beq_eq_false_iff_ne.2 (by omega)
  have a1:=fun W=>hadd ⟨#[124]⟩ T W (by decide) (by omega)
  obtain⟨V1,hV1⟩:∃ V:ByteArray,⟨#[124]⟩++T=V:=⟨_,rfl⟩
  obtain⟨q1,q2⟩:=app_bytes ⟨#[124]⟩ T
  rw[hV1] at a1 q1 q2
  have q2':V1.size≤1100001:=by rw[q2];show 1+T.size≤_;omega
  have a2:=fun W=>hadd V1 ⟨#[124]⟩ W (by omega) (by decide)
  obtain⟨V,hV⟩:∃ V:ByteArray,V1++⟨#[124]⟩=V:=⟨_,rfl⟩
  obtain⟨q3,q4⟩:=app_bytes V1 ⟨#[124]⟩
  rw[hV] at a2 q3 q4
  have HV:Hid (V.data.toList=X):=by show _=_;rw[←HX.out,hk,Lx.show,if_pos rfl,if_neg (by rw[HSM.out];decide),q3,q1];rfl
  have hVs:V.size≤4000000:=by rw[q4];show V1.size+1≤_;omega
  clear hk hadd hV1 hV q1 q2 q3 q4 q2'
  go_enter Tryz.func143,Tryz.ntmps143
  go_wp2_with (go_at_call 177;refine(HS.out _).mono ?_;rintro e w1 ⟨rfl,q,rfl⟩)
  go_ret
  exact⟨V,rfl,HV.out,hVs,HBa.out.trans ((Turn.none_ ((Turn.refl (fun _=>False) _).drewN _) (fun _=>id)).mono (by simp))⟩
 ·have k3:(k == 3)=false:=beq_eq_false_iff_ne.2 (by omega)
  have k6:(k == 6)=true:=beq_iff_eq.2 hk
  obtain⟨V0,hV0⟩:∃ V:ByteArray,(⟨(Lx.dbl T.data.toList).toArray⟩:ByteArray)=V:=⟨_,rfl⟩
  have HD:=Lib.hid fun W hW=>kdouble T W hW hTs
  have q0:V0.data.toList=Lx.dbl T.data.toList:=by rw[←hV0]
  have q0':V0.size≤2200000:=by
   have:=Lx.dbl_len T.data.toList
   rw[←len_bytes,q0]
   rw[len_bytes] at this
   omega
  rw[hV0] at HD
  have a1:=fun W=>hadd ⟨#[34]⟩ V0 W (by decide) (by omega)
  obtain⟨V1,hV1⟩:∃ V:ByteArray,⟨#[34]⟩++V0=V:=⟨_,rfl⟩
  obtain⟨q1,q2⟩:=app_bytes ⟨#[34]⟩ V0
  rw[hV1] at a1 q1 q2
  have q2':V1.size≤2200001:=by rw[q2];show 1+V0.size≤_;omega
  have a2:=fun W=>hadd V1 ⟨#[34]⟩ W (by omega) (by decide)
  obtain⟨V,hV⟩:∃ V:ByteArray,V1++⟨#[34]⟩=V:=⟨_,rfl⟩
  obtain⟨q3,q4⟩:=app_bytes V1 ⟨#[34]⟩
  rw[hV] at a2 q3 q4
  have HV:Hid (V.data.toList=X):=by show _=_;rw[←HX.out,hk,Lx.show,if_neg (by decide),if_pos rfl,q3,q1,q0];rfl
  have hVs:V.size≤4000000:=by rw[q4];show V1.size+1≤_;omega
  clear hk hadd hV0 q0 q0' hV1 hV q1 q2 q3 q4 q2'
  go_enter Tryz.func143,Tryz.ntmps143
  go_wp2_with (go_at_call 148;refine(HD.out _ HMa.out).mono ?_;rintro e w1 ⟨rfl,b1⟩)
  go_ret
  exact⟨V,rfl,HV.out,hVs,HBa.out.trans (b1.mono (by simp))⟩
 ·have k3:(k == 3)=false:=beq_eq_false_iff_ne.2 h3
  have k6:(k == 6)=false:=beq_eq_false_iff_ne.2 h6
  have HV:Hid (T.data.toList=X):=by show _=_;rw[←HX.out,Lx.show,if_neg h3,if_neg h6]
  clear h3 h6 hadd
  go_enter Tryz.func143,Tryz.ntmps143
  go_wp2
  go_ret
  exact⟨T,rfl,HV.out,hTs,HBa.out⟩
end Go.Proofs.YtcgaeknikfaghaaGreatDoor
namespace Go.Proofs.YtcgaeknikfaghaaGreatDoor
open Go.RowKit Go.Shelf
theorem kshow (k:Int) (T:ByteArray) (at_:Int) (w:World) (hT:T.size≤1100000) (hm:MaxL w):
  Calls Tryz.prog 110 #[.agg #[.int .i64 k,.string T,.int .i64 at_]] w fun e w'=>
   (if Lx.okShow k T.data.toList then ∃ V:ByteArray,e=.returned (.tuple #[.string V,.int .i64 0])∧V.data.toList=Lx.show k T.data.toList else e=.returned (.tuple #[.string ⟨#[]⟩,.int .i64 1]))∧Below w.heap.size w w':=by
 obtain⟨ok,hok⟩:∃ b,Lx.okShow k T.data.toList=b:=⟨_,rfl⟩
 obtain⟨X,hX⟩:∃ X,Lx.show k T.data.toList=X:=⟨_,rfl⟩
 rw[hok,hX]
 obtain⟨Post,hPost⟩:∃ Post:Ending→World→Prop,Post=fun e w'=>(if ok then ∃ V:ByteArray,e=.returned (.tuple #[.string V,.int .i64 0])∧V.data.toList=X else e=.returned (.tuple #[.string ⟨#[]⟩,.int .i64 1]))∧Below w.heap.size w w':=⟨_,rfl⟩
 rw[←hPost]
 have HPo:=Lib.hid hPost
 have HOK:=Lib.hid hok
 have HX:=Lib.hid hX
 have HW1:=Lib.hid ((Below.refl _ w).alloc (Nat.le_refl _) (tbox k T at_))
 have HMa:=Lib.hid (hm.alloc (tbox k T at_))
 have HWr:=Lib.hid fun W hW=>kwrite k T at_ W hT hW
 have HL:=Lib.hid fun(V:ByteArray) (hV:V.size≤4000000) W hW=>klex V W (by omega) hW
 clear hPost hok hX hm
 go_enter Tryz.func110,Tryz.ntmps110
 go_wp2_with (first
  |(go_at_call 143;refine(HWr.out _ HMa.out).mono ?_;rintro e w1 ⟨V,rfl,hV,hVs,b1⟩;rw[HX.out] at hV;have HV:=Lib.hid hV;have B1:=Lib.hid b1;have HM1:=Lib.hid (HMa.out.below b1);clear hV b1)
  |(
    go_at_call 59;refine(HL.out _ hVs _ HM1.out).mono ?_;rintro e w2 ⟨A9,c9,l9,E,p9,rfl,q⟩
    have hok:=show_ok (HV.out.trans HX.out.symm) q
    rw[HOK.out] at hok
    have hB:=B1.out.trans (q.below.mono B1.out.size)
    have hBx:=(Turn.of_below (F:=fun _=>False) hB).lies (Lies.new w 24 #[.int .i64 k,.string T,.int .i64 at_]) id
    have HB2:Hid (∀ n,Below w.heap.size w (w2.drewN n)):=fun n=>(HW1.out.trans (hB.mono HW1.out.size)).trans ((Turn.none_ ((Turn.refl (fun _=>False) w2).drewN n) (fun _=>id)).mono (HW1.out.trans (hB.mono HW1.out.size)).size)
    have z0:=hBx.lt
    have z1:=hBx.cell 0
    have z2:=hBx.cell 1
    simp at z1 z2
    have HTk:=q.own.toks
    clear hB hBx q))
 clear HL HOK HX HW1 HMa HWr B1 HM1 hVs
 by_cases hE:E=0
 ·subst hE
  rw[decide_eq_true rfl,Bool.true_and] at hok
  obtain⟨n9,hn9⟩:∃ n9,l9.length=n9:=⟨_,rfl⟩
  rw[hn9] at HTk ⊢
  by_cases h1:n9=1
  case neg=>
   obtain rfl:ok=false:=by
     rw[hok,decide_eq_false_iff_not]
     intro e
     have:=congrArg List.length e
     rw[List.length_map,hn9] at this
     exact h1 this
   have hl:(n9:Int)≠1:=by omega
   have b1:((n9:Int) != 1)=true:=bne_iff_ne.2 hl
   have b2:((n9:Int) == 1)=false:=beq_eq_false_iff_ne.2 hl
   clear hok HTk hn9 hl h1
   go_quiet (fail)
   go_wp2
   rw[HPo.out]
   exact⟨by rw[if_neg (by decide)];rfl,HB2.out _⟩
  case pos=>
   obtain⟨x,rfl⟩:∃ x,l9=[x]:=List.length_eq_one_iff.1 (hn9.trans h1)
   obtain⟨b,off,x',rfl,hx',_,hc⟩:=HTk.get (i:=0) (by omega)
   obtain rfl:x'=toI x:=by simpa using hx'.symm
   obtain⟨y0,y1,y2,_⟩:=hc _ (Below.refl _ w2)
   simp only[Nat.zero_mul,Nat.add_zero] at y1 y2
   obtain⟨xk,xt,xa⟩:=x
   simp only[toI] at y1 y2
   have b3:((n9:Int) != 1)=false:=by rw[h1];rfl
   have b4:((n9:Int) == 1)=true:=by rw[h1];rfl
   have h0:(0:Int)<(n9:Int):=by omega
   have h0':0<n9:=by omega
   clear HTk hx' hc hn9 h1
   by_cases hk:xk=k
   · subst hk
     by_cases ht:xt.data.toList=T.data.toList
     ·obtain rfl:ok=true:=by rw[hok];simp[ht]
      have b1:(xt.toList == T.toList)=true:=by rw[ByteArray.toList_eq,ByteArray.toList_eq];exact beq_iff_eq.2 ht
      have b2:(xt.toList != T.toList)=false:=by rw[bne,b1];rfl
      clear hok ht
      go_quiet (fail)
      go_wp2
      rw[HPo.out]
      exact⟨by rw[if_pos trivial];exact⟨_,rfl,HV.out⟩,HB2.out _⟩
     ·obtain rfl:ok=false:=by rw[hok];simp[ht]
      have b1:(xt.toList == T.toList)=false:=by rw[ByteArray.toList_eq,ByteArray.toList_eq];exact beq_eq_false_iff_ne.2 ht
      have b2:(xt.toList != T.toList)=true:=by rw[bne,b1];rfl
      clear hok ht
      go_quiet (fail)
      go_wp2
      rw[HPo.out]
      exact⟨by rw[if_neg (by decide)];rfl,HB2.out _⟩
   · obtain rfl:ok=false:=by rw[hok];simp[hk]
     have b1:(xk != k)=true:=bne_iff_ne.2 hk
     have b2:(xk == k)=false:=beq_eq_false_iff_ne.2 hk
     clear hok hk
     go_quiet (fail)
     go_wp2
     rw[HPo.out]
     exact⟨by rw[if_neg (by decide)];rfl,HB2.out _⟩
 ·obtain rfl:ok=false:=by rw[hok,decide_eq_false hE];rfl
  have b1:(E != 0)=true:=bne_iff_ne.2 hE
  have b2:(E == 0)=false:=beq_eq_false_iff_ne.2 hE
  obtain⟨n9,hn9⟩:∃ n9,l9.length=n9:=⟨_,rfl⟩
  rw[hn9]
  clear hok hE HTk hn9
  go_quiet (fail)
  go_wp2
  rw[HPo.out]
  exact⟨by rw[if_neg (by decide)];rfl,HB2.out _⟩
end Go.Proofs.YtcgaeknikfaghaaGreatDoor
