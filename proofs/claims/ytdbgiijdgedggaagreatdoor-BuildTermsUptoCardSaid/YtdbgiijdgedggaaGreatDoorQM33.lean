import Derived.Test.YtdbgiijdgedggaaGreatDoorQM30
set_option linter.unusedSimpArgs false
set_option linter.unusedVariables false
set_option maxRecDepth 100000
set_option maxHeartbeats 25600000
namespace Go.Proofs.YtdbgiijdgedggaaGreatDoor
open Go.RowKit
theorem ar (s:ByteArray):s.data.toList.length=s.size:=by rw[Fv];rfl
theorem kR (s:ByteArray) {k k':Nat} (h:k<=s.size) (r:k'<=s.size) (e:s.data.toList.drop k=s.data.toList.drop k'):k=k':=by
 have:=G1 List.length e
 rw[FU,FU,ar] at this
 omega
theorem tY (s:ByteArray) (a:Nat) (hs:s.size<=1000000) (ha:a<=s.size):∃ k:Nat,a<=k/\k<=s.size/\s.data.toList.drop k=(s.data.toList.drop a).dropWhile Lx.name/\
  ∀ w,Calls Tryz.prog 228 #[.string s,.int .i64 (a:Nat)] w fun e w'=>e=.returned (.int .i64 (k:Nat))/\w'=w:=by
 have h:=Lx.take_drop Lx.name (s.data.toList.drop a)
 have hl:=G1 List.length h
 rw[Gb,FU,ar] at hl
 have r:s.data.toList.drop (a+((s.data.toList.drop a).takeWhile Lx.name).length)=(s.data.toList.drop a).dropWhile Lx.name:=by
  rw[<-GF]
  have:=G1 (List.drop ((s.data.toList.drop a).takeWhile Lx.name).length) h
  rw[List.drop_left] at this
  exact this.symm
 refine⟨a+((s.data.toList.drop a).takeWhile Lx.name).length,by omega,by omega,r,fun w=>?_⟩
 refine(xK s a w (by unfold maxLen;omega) ha).mono ?_
 rintro e w' ⟨k',rfl,rfl,L,I,J⟩
 obtain rfl:=kR s I (by omega) (J.trans r.symm)
 exact⟨rfl,rfl⟩
theorem rk (s:ByteArray) (a:Nat) (w:World) (hs:s.size<=1000000) (ha:a<s.size) (I:s[a].toNat≠40) (J:s[a].toNat≠41) (r:s[a].toNat≠124) (U:s[a].toNat≠34):
  Calls Tryz.prog 177 #[.string s,.int .i64 (a:Nat)] w (tW s a (Lx.one (s.data.toList.drop a)) w):=by
 obtain⟨k,h1,h2,h3,HN⟩:=tY s (a+1) hs (by omega)
 have hT:=Ay s a k ha h1 h2 h3
 have X:=(bM s a k h2 (by omega)).2
 have ba:=cC s a k h2 (by omega)
 have bb:IntKind.i64.wrap ((a:Int)+1)=((a+1:Nat):Int):=GR _ (by omega)
 have HD:=Gn (oW s[a])
 have HM:=Gn (BN s[a])
 have HU:=Gn fun W=>Ar (s.extract a k) W (by unfold maxLen;omega)
 have HV:=Gn fun W=>Df (s.extract a k) W (by unfold maxLen;omega)
 replace HN:=Gn HN
 rw[hT] at HU HV
 have b1:((s[a].toNat:Int) == 40)=false:=Gx.2 (by omega)
 have b2:((s[a].toNat:Int) == 41)=false:=Gx.2 (by omega)
 have b3:((s[a].toNat:Int) == 124)=false:=Gx.2 (by omega)
 have b4:((s[a].toNat:Int) == 34)=false:=Gx.2 (by omega)
 obtain⟨T,a1⟩:∃ T,T=s.extract a k:=⟨_,rfl⟩
 rw[<-a1] at hT ba HU HV X
 have HT:=Gn hT
 have H3:=Gn h3
 clear a1 hT
 have hO:¬(s[a].toNat=124\/s[a].toNat=34):=by omega
 by_cases Q:Lx.digit s[a]=true
 ·rw[Q] at HD
  obtain⟨z,hz⟩:∃ z,Lx.number (s[a]::(s.data.toList.drop (a+1)).takeWhile Lx.name)=z:=⟨_,rfl⟩
  rw[hz] at HU
  by_cases av:z=0
  ·have O:Lx.one (s.data.toList.drop a)=(0,[],8,s.data.toList.drop a):=by
    rw[aD s ha]
    simp[Lx.one,I,J,hO,Q,hz,av]
   rw[O]
   subst av
   clear O hO hz h3 I J r U Q
   go_enter Tryz.func177,Tryz.ntmps177
   go_wp2_with (first
    |(go_at_call 228;refine(HN.out _).mono ?_;rintro e L ⟨rfl,rfl⟩)
    |(go_at_call 230;refine(HD.out _).mono ?_;rintro e L ⟨rfl,rfl⟩)
    |(go_at_call 231;refine(HU.out _).mono ?_;rintro e L ⟨rfl,rfl⟩))
   exact GD (v:=.tuple #[.agg #[.int .i64 0,.string ⟨#[]⟩,.int .i64 0],.int .i64 0,.int .i64 8,.int .i64 (a:Nat)]) (by simp[results,Tryz.results177,go_sem]) rfl ⟨below_alloc2 _ _ _,fun h=>absurd h (by simp),fun _=>⟨a,rfl,by omega,ha,rfl⟩⟩
  ·have O:Lx.one (s.data.toList.drop a)=(z,s[a]::(s.data.toList.drop (a+1)).takeWhile Lx.name,0,(s.data.toList.drop (a+1)).dropWhile Lx.name):=by
    rw[aD s ha]
    simp[Lx.one,I,J,hO,Q,hz,av]
   rw[O]
   have bz:(z == 0)=false:=Gx.2 av
   clear O hO hz av h3 I J r U Q
   go_enter Tryz.func177,Tryz.ntmps177
   go_wp2_with (first
    |(go_at_call 228;refine(HN.out _).mono ?_;rintro e L ⟨rfl,rfl⟩)
    |(go_at_call 230;refine(HD.out _).mono ?_;rintro e L ⟨rfl,rfl⟩)
    |(go_at_call 231;refine(HU.out _).mono ?_;rintro e L ⟨rfl,rfl⟩))
   exact GD (v:=.tuple #[.agg #[.int .i64 z,.string T,.int .i64 (a:Nat)],.int .i64 (k:Nat),.int .i64 0,.int .i64 0]) (by simp[results,Tryz.results177,go_sem]) rfl ⟨below_alloc2 _ _ _,fun _=>⟨T,k,rfl,HT.out,by omega,h2,H3.out⟩,fun h=>absurd rfl h⟩
 have Z:=GU.2 Q
 rw[Z] at HD
 by_cases h6:Lx.name s[a]=true
 ·rw[h6] at HM
  have O:Lx.one (s.data.toList.drop a)=(3,s[a]::(s.data.toList.drop (a+1)).takeWhile Lx.name,0,(s.data.toList.drop (a+1)).dropWhile Lx.name):=by
   rw[aD s ha]
   simp[Lx.one,I,J,hO,Q,h6]
  rw[O]
  clear O hO h3 I J r U Q Z h6
  go_enter Tryz.func177,Tryz.ntmps177
  go_wp2_with (first
   |(go_at_call 228;refine(HN.out _).mono ?_;rintro e L ⟨rfl,rfl⟩)
   |(go_at_call 230;refine(HD.out _).mono ?_;rintro e L ⟨rfl,rfl⟩)
   |(go_at_call 232;refine(HM.out _).mono ?_;rintro e L ⟨rfl,rfl⟩))
  exact GD (v:=.tuple #[.agg #[.int .i64 3,.string T,.int .i64 (a:Nat)],.int .i64 (k:Nat),.int .i64 0,.int .i64 0]) (by simp[results,Tryz.results177,go_sem]) rfl ⟨below_alloc2 _ _ _,fun _=>⟨T,k,rfl,HT.out,by omega,h2,H3.out⟩,fun h=>absurd rfl h⟩
 have ah:=GU.2 h6
 rw[ah] at HM
 by_cases V:s[a].toNat=58
 ·have b5:((s[a].toNat:Int) == 58)=true:=Gw.2 (by omega)
  by_cases hk:k=a+1
  ·have ao:((s.data.toList.drop (a+1)).takeWhile Lx.name).isEmpty=true:=by
    have:=G1 List.length HT.out
    rw[ar,X,hk,FG] at this
    rw[List.isEmpty_iff_length_eq_zero]
    omega
   have O:Lx.one (s.data.toList.drop a)=(0,[],8,s.data.toList.drop a):=by
    rw[aD s ha]
    simp only[Lx.one,V,Q,h6,ao]
    simp
   rw[O]
   have a7:(T.size:Int)<2:=by omega
   clear O hO ao hk h3 I J r U Q h6 Z ah V X
   go_enter Tryz.func177,Tryz.ntmps177
   go_wp2_with (first
    |(go_at_call 228;refine(HN.out _).mono ?_;rintro e L ⟨rfl,rfl⟩)
    |(go_at_call 230;refine(HD.out _).mono ?_;rintro e L ⟨rfl,rfl⟩)
    |(go_at_call 232;refine(HM.out _).mono ?_;rintro e L ⟨rfl,rfl⟩))
   exact GD (v:=.tuple #[.agg #[.int .i64 0,.string ⟨#[]⟩,.int .i64 0],.int .i64 0,.int .i64 8,.int .i64 (a:Nat)]) (by simp[results,Tryz.results177,go_sem]) rfl ⟨below_alloc2 _ _ _,fun h=>absurd h (by simp),fun _=>⟨a,rfl,by omega,ha,rfl⟩⟩
  ·have ao:((s.data.toList.drop (a+1)).takeWhile Lx.name).isEmpty=false:=by
    have:=G1 List.length HT.out
    rw[ar,X,FG] at this
    cases hq:(s.data.toList.drop (a+1)).takeWhile Lx.name with
    |nil=>rw[hq,He] at this;omega
    |cons _ _=>rfl
   have O:Lx.one (s.data.toList.drop a)=(7,s[a]::(s.data.toList.drop (a+1)).takeWhile Lx.name,0,(s.data.toList.drop (a+1)).dropWhile Lx.name):=by
    rw[aD s ha]
    simp only[Lx.one,V,Q,h6,ao]
    simp
   rw[O]
   have a7:¬(T.size:Int)<2:=by omega
   clear O hO ao hk h3 I J r U Q h6 Z ah V X
   go_enter Tryz.func177,Tryz.ntmps177
   go_wp2_with (first
    |(go_at_call 228;refine(HN.out _).mono ?_;rintro e L ⟨rfl,rfl⟩)
    |(go_at_call 230;refine(HD.out _).mono ?_;rintro e L ⟨rfl,rfl⟩)
    |(go_at_call 232;refine(HM.out _).mono ?_;rintro e L ⟨rfl,rfl⟩))
   exact GD (v:=.tuple #[.agg #[.int .i64 7,.string T,.int .i64 (a:Nat)],.int .i64 (k:Nat),.int .i64 0,.int .i64 0]) (by simp[results,Tryz.results177,go_sem]) rfl ⟨below_alloc2 _ _ _,fun _=>⟨T,k,rfl,HT.out,by omega,h2,H3.out⟩,fun h=>absurd rfl h⟩
 have b5:((s[a].toNat:Int) == 58)=false:=Gx.2 (by omega)
 by_cases ad:s[a].toNat=35
 ·have b6:((s[a].toNat:Int) == 35)=true:=Gw.2 (by omega)
  obtain⟨z,hz⟩:∃ z,Lx.other (s[a]::(s.data.toList.drop (a+1)).takeWhile Lx.name)=z:=⟨_,rfl⟩
  rw[hz] at HV
  cases z with
  |false=>
   have O:Lx.one (s.data.toList.drop a)=(0,[],8,s.data.toList.drop a):=by
    rw[aD s ha]
    simp only[Lx.one,ad,Q,h6,hz]
    simp
   rw[O]
   clear O hO hz h3 I J r U Q h6 Z ah V ad X
   go_enter Tryz.func177,Tryz.ntmps177
   go_wp2_with (first
    |(go_at_call 228;refine(HN.out _).mono ?_;rintro e L ⟨rfl,rfl⟩)
    |(go_at_call 230;refine(HD.out _).mono ?_;rintro e L ⟨rfl,rfl⟩)
    |(go_at_call 232;refine(HM.out _).mono ?_;rintro e L ⟨rfl,rfl⟩)
    |(go_at_call 233;refine(HV.out _).mono ?_;rintro e L ⟨rfl,rfl⟩))
   exact GD (v:=.tuple #[.agg #[.int .i64 0,.string ⟨#[]⟩,.int .i64 0],.int .i64 0,.int .i64 8,.int .i64 (a:Nat)]) (by simp[results,Tryz.results177,go_sem]) rfl ⟨below_alloc2 _ _ _,fun h=>absurd h (by simp),fun _=>⟨a,rfl,by omega,ha,rfl⟩⟩
  |true=>
   have O:Lx.one (s.data.toList.drop a)=(8,s[a]::(s.data.toList.drop (a+1)).takeWhile Lx.name,0,(s.data.toList.drop (a+1)).dropWhile Lx.name):=by
    rw[aD s ha]
    simp only[Lx.one,ad,Q,h6,hz]
    simp
   rw[O]
   clear O hO hz h3 I J r U Q h6 Z ah V ad X
   go_enter Tryz.func177,Tryz.ntmps177
   go_wp2_with (first
    |(go_at_call 228;refine(HN.out _).mono ?_;rintro e L ⟨rfl,rfl⟩)
    |(go_at_call 230;refine(HD.out _).mono ?_;rintro e L ⟨rfl,rfl⟩)
    |(go_at_call 232;refine(HM.out _).mono ?_;rintro e L ⟨rfl,rfl⟩)
    |(go_at_call 233;refine(HV.out _).mono ?_;rintro e L ⟨rfl,rfl⟩))
   exact GD (v:=.tuple #[.agg #[.int .i64 8,.string T,.int .i64 (a:Nat)],.int .i64 (k:Nat),.int .i64 0,.int .i64 0]) (by simp[results,Tryz.results177,go_sem]) rfl ⟨below_alloc2 _ _ _,fun _=>⟨T,k,rfl,HT.out,by omega,h2,H3.out⟩,fun h=>absurd rfl h⟩
 have b6:((s[a].toNat:Int) == 35)=false:=Gx.2 (by omega)
 have O:Lx.one (s.data.toList.drop a)=(0,[],50,s.data.toList.drop a):=by
  rw[aD s ha]
  simp[Lx.one,I,J,hO,Q,h6,V,ad]
 rw[O]
 clear O hO h3 I J r U Q h6 Z ah V ad X
 go_enter Tryz.func177,Tryz.ntmps177
 go_wp2_with (first
  |(go_at_call 228;refine(HN.out _).mono ?_;rintro e L ⟨rfl,rfl⟩)
  |(go_at_call 230;refine(HD.out _).mono ?_;rintro e L ⟨rfl,rfl⟩)
  |(go_at_call 232;refine(HM.out _).mono ?_;rintro e L ⟨rfl,rfl⟩))
 exact GD (v:=.tuple #[.agg #[.int .i64 0,.string ⟨#[]⟩,.int .i64 0],.int .i64 0,.int .i64 50,.int .i64 (a:Nat)]) (by simp[results,Tryz.results177,go_sem]) rfl ⟨below_alloc2 _ _ _,fun h=>absurd h (by simp),fun _=>⟨a,rfl,by omega,ha,rfl⟩⟩
theorem Lx.kA (q:UInt8):∀ l:List UInt8,(Lx.quo q l).1.length<=l.length
 |[]=>Fm _
 |[c]=>by
  unfold Lx.quo
  split
  ·split <;> simp
  ·simp
 |c::d::t=>by
  have r:=Lx.kA q t
  have h:=Lx.kA q (d::t)
  unfold Lx.quo
  split
  ·split
   ·split
    ·simp only[FG];omega
    ·simp
   ·simp only[FG] at h ⊢;omega
  ·simp
theorem pG (s:ByteArray) (a:Nat) (w:World) (hs:s.size<=1000000) (ha:a<s.size) (hq:s[a].toNat=34\/s[a].toNat=124):
  Calls Tryz.prog 177 #[.string s,.int .i64 (a:Nat)] w (tW s a (Lx.one (s.data.toList.drop a)) w):=by
 obtain⟨k,h1,h2,h3,HN⟩:=tY s (a+1) hs (by omega)
 have bL:=cC s a k h2 (by omega)
 have bP:IntKind.i64.wrap ((a:Int)+1)=((a+1:Nat):Int):=GR _ (by omega)
 replace HN:=Gn HN
 have HQ:=Gn fun W=>Ak s a W hs ha hq
 have hD:=aD s ha
 obtain⟨X,O⟩:∃ X,Lx.quo s[a] (s.data.toList.drop (a+1))=X:=⟨_,rfl⟩
 rw[O] at HQ
 have hO:s[a].toNat=124\/s[a].toNat=34:=hq.symm
 have b1:((s[a].toNat:Int) == 40)=false:=Gx.2 (by omega)
 have b2:((s[a].toNat:Int) == 41)=false:=Gx.2 (by omega)
 have J:s[a].toNat≠40:=by omega
 have L:s[a].toNat≠41:=by omega
 have HR:=Gn fun(w4:World) (Z:Below ((w.alloc (.cells ZT 24)).alloc (.cells ZT 24)).heap.size ((w.alloc (.cells ZT 24)).alloc (.cells ZT 24)) w4)=>
  pY (R:=w.heap.size) Z ((Fq _ _ _ (by simp)).trans (aa.new w 24 ZT))
 have a1:=Gn fun(w4:World) (Z:Below ((w.alloc (.cells ZT 24)).alloc (.cells ZT 24)).heap.size ((w.alloc (.cells ZT 24)).alloc (.cells ZT 24)) w4)=>
  pY (R:=w.heap.size+1) Z (by have:=aa.new (w.alloc (.cells ZT 24)) 24 ZT;simpa using this)
 have HB:=Gn fun(w4:World) (Z:Below ((w.alloc (.cells ZT 24)).alloc (.cells ZT 24)).heap.size ((w.alloc (.cells ZT 24)).alloc (.cells ZT 24)) w4) (x y z:Value)=>
  uP ((below_alloc2 w _ _).trans (Z.mono (by simp;omega))) (Fm w.heap.size) x y z
 have ah:((s[a].toNat:Int) == 124)=true\/((s[a].toNat:Int) == 124)=false/\((s[a].toNat:Int) == 34)=true:=by
  by_cases h:s[a].toNat=124
  ·exact .inl (Gw.2 (by omega))
  ·exact .inr ⟨Gx.2 (by omega),Gw.2 (by omega)⟩
 rcases(O▸Lx.oX s[a] (s.data.toList.drop (a+1)):X.2.1=0\/X.2.1=50\/X.2.1=51) with he|he|he
 ·by_cases ba:s[a].toNat=34
  ·have Q:Lx.one (s.data.toList.drop a)=(6,X.1,0,X.2.2):=by
    rw[hD]
    simp only[Lx.one,O,he,ba]
    simp
   rw[Q]
   have b3:((s[a].toNat:Int) == 124)=false:=Gx.2 (by omega)
   have Z:((s[a].toNat:Int) == 34)=true:=Gw.2 (by omega)
   have HE:=Gn he
   clear Q O he hq hO hD h3 ba J L ah
   go_enter Tryz.func177,Tryz.ntmps177
   go_wp2_with (first
    |(go_at_call 228;refine(HN.out _).mono ?_;rintro e w2 ⟨rfl,rfl⟩)
    |(go_at_call 229;refine(HQ.out _).mono ?_;rintro e w2 q;obtain⟨j,rfl,ao,U,I⟩:=q.ok HE.out;obtain⟨z0,y0,y1,y2,f0,f1,f2,hl⟩:=HR.out _ q.below;have r:=Gn (HB.out _ q.below);have HJ:=Gn I;clear q I))
   obtain⟨_,e0,e1,e2⟩:=fq hl.out (.int .i64 6) (.string ⟨X.1.toArray⟩) (.int .i64 (a:Nat))
   exact GD (v:=.tuple #[.agg #[.int .i64 6,.string ⟨X.1.toArray⟩,.int .i64 (a:Nat)],.int .i64 (j:Nat),.int .i64 0,.int .i64 0]) (by simp[results,Tryz.results177,go_sem,e0,e1,e2]) rfl ⟨r.out _ _ _,fun _=>⟨_,j,rfl,rfl,ao,U,HJ.out⟩,fun h=>absurd rfl h⟩
  ·have av:s[a].toNat=124:=by omega
   have b3:((s[a].toNat:Int) == 124)=true:=Gw.2 (by omega)
   have Z:((s[a].toNat:Int) == 34)=false:=Gx.2 (by omega)
   obtain⟨z,hz⟩:∃ z,(X.1.any fun d=>decide (d.toNat=92))=z:=⟨_,rfl⟩
   have Q:Lx.one (s.data.toList.drop a)=if z then(0,[],8,s.data.toList.drop a) else(3,X.1,0,X.2.2):=by
    rw[hD]
    simp only[Lx.one,O,he,av,hz]
    simp
   obtain⟨Y,bb⟩:∃ Y,Y=if z then((0:Int),([]:List UInt8),(8:Int),s.data.toList.drop a) else(3,X.1,0,X.2.2):=⟨_,rfl⟩
   rw[Q,<-bb]
   have bl:X.1.length<=1000000:=by
    have h5:=Lx.kA s[a] (s.data.toList.drop (a+1))
    rw[O,FU,ar] at h5
    omega
   have HY:=Gn bb
   have HE:=Gn he
   have HZ:=Gn hz
   clear Q O he hq hO hD h3 ba J L ah hz av bb
   go_enter Tryz.func177,Tryz.ntmps177
   go_wp2_with (first
    |(go_at_call 228;refine(HN.out _).mono ?_;rintro e w2 ⟨rfl,rfl⟩)
    |(go_at_call 229;refine(HQ.out _).mono ?_;rintro e w2 q;obtain⟨j,rfl,ao,U,I⟩:=q.ok HE.out;obtain⟨z0,y0,y1,y2,f0,f1,f2,hl⟩:=HR.out _ q.below;obtain⟨bx,bn,bo,bp,_,_,_,_⟩:=a1.out _ q.below;have r:=Gn (HB.out _ q.below);have HJ:=Gn I;clear q I))
   obtain⟨V,hV⟩:∃ V:ByteArray,V=⟨X.1.toArray⟩:=⟨_,rfl⟩
   rw[<-hV]
   have a7:Hid (V.data.toList=X.1):=by show _=_;rw[hV]
   have bE:V.size<=1000000:=by rw[<-ar,a7.out];exact bl
   have bD:=Gn hV
   rw[<-a7.out] at HZ
   clear hV bl
   go_loopw [16] (fun iv wr=>∃ i:Nat,i<=V.size/\iv=.int .i64 (i:Nat)/\wr=w2/\Hid ((V.data.toList.drop i).any (fun d=>decide (d.toNat=92))=z)) (fun iv _=>V.size-(intOf iv).toNat)
   case atStart=>exact⟨0,by omega,rfl,rfl,HZ⟩
   case round=>
    clear HZ
    obtain⟨i,hi,rfl,rfl,HI⟩:=hrel
    by_cases bB:i<V.size
    ·have HK:=HI.out
     rw[aD V bB,List.any_cons] at HK
     have bC:(i:Int)<(V.size:Int):=by omega
     clear HI
     by_cases ad:V[i].toNat=92
     ·have c1:((V[i].toNat:Int) == 92)=true:=Gw.2 (by omega)
      obtain rfl:z=true:=by rw[<-HK,FW ad];rfl
      obtain rfl:=HY.out
      clear HK ad
      go_wp2
      obtain⟨_,e0,e1,e2⟩:=fq hl.out (.int .i64 0) (.string ⟨#[]⟩) (.int .i64 0)
      exact GD (v:=.tuple #[.agg #[.int .i64 0,.string ⟨#[]⟩,.int .i64 0],.int .i64 0,.int .i64 8,.int .i64 (a:Nat)]) (by simp[results,Tryz.results177,go_sem,e0,e1,e2]) rfl ⟨r.out _ _ _,fun h=>absurd h (by simp),fun _=>⟨a,rfl,by omega,ha,rfl⟩⟩
     ·have c1:((V[i].toNat:Int) == 92)=false:=Gx.2 (by omega)
      have bz:Hid ((V.data.toList.drop (i+1)).any (fun d=>decide (d.toNat=92))=z):=Gn (by rw[Gq ad] at HK;simpa using HK)
      clear HK ad
      go_wp2
      go_roundw
      case rel=>exact⟨i+1,by omega,by go_num,by trivial,bz⟩
      case measure=>simp[intOf];omega
    ·obtain rfl:i=V.size:=by omega
     obtain rfl:z=false:=by have:=HI.out;rw[cT] at this;exact this.symm
     obtain rfl:=HY.out
     clear HI
     go_wp2
     obtain⟨_,e0,e1,e2⟩:=fq hl.out (.int .i64 3) (.string V) (.int .i64 (a:Nat))
     exact GD (v:=.tuple #[.agg #[.int .i64 3,.string V,.int .i64 (a:Nat)],.int .i64 (j:Nat),.int .i64 0,.int .i64 0]) (by simp[results,Tryz.results177,go_sem,e0,e1,e2]) rfl ⟨r.out _ _ _,fun _=>⟨V,j,rfl,a7.out,ao,U,HJ.out⟩,fun h=>absurd rfl h⟩
 ·have Q:Lx.one (s.data.toList.drop a)=(0,[],50,X.2.2):=by
   rw[hD]
   simp only[Lx.one,J,L,hO,O,he]
   simp
  rw[Q]
  have HE:=Gn he
  clear Q O he hq hO hD h3 J L
  rcases ah with b3|⟨b3,Z⟩
  all_goals
   go_enter Tryz.func177,Tryz.ntmps177
   go_wp2_with (first
    |(go_at_call 228;refine(HN.out _).mono ?_;rintro e w2 ⟨rfl,rfl⟩)
    |(go_at_call 229;refine(HQ.out _).mono ?_;rintro e w2 q;obtain⟨j,rfl,ao,U,I⟩:=q.bad HE.out;obtain⟨z0,y0,y1,y2,f0,f1,f2,hl⟩:=HR.out _ q.below;obtain⟨bx,bn,bo,bp,_,_,_,_⟩:=a1.out _ q.below;have r:=Gn (HB.out _ q.below);have HJ:=Gn I;clear q I))
   obtain⟨_,e0,e1,e2⟩:=fq hl.out (.int .i64 0) (.string ⟨#[]⟩) (.int .i64 0)
   exact GD (v:=.tuple #[.agg #[.int .i64 0,.string ⟨#[]⟩,.int .i64 0],.int .i64 0,.int .i64 50,.int .i64 (j:Nat)]) (by simp[results,Tryz.results177,go_sem,e0,e1,e2]) rfl ⟨r.out _ _ _,fun h=>absurd h (by simp),fun _=>⟨j,rfl,by omega,U,HJ.out⟩⟩
 ·have Q:Lx.one (s.data.toList.drop a)=(0,[],51,s.data.toList.drop a):=by
   rw[hD]
   simp only[Lx.one,J,L,hO,O,he]
   simp
  rw[Q]
  have HE:=Gn he
  clear Q O he hq hO hD h3 J L
  rcases ah with b3|⟨b3,Z⟩
  all_goals
   go_enter Tryz.func177,Tryz.ntmps177
   go_wp2_with (first
    |(go_at_call 228;refine(HN.out _).mono ?_;rintro e w2 ⟨rfl,rfl⟩)
    |(go_at_call 229;refine(HQ.out _).mono ?_;rintro e w2 q;obtain rfl:=q.open_ HE.out;obtain⟨z0,y0,y1,y2,f0,f1,f2,hl⟩:=HR.out _ q.below;obtain⟨bx,bn,bo,bp,_,_,_,_⟩:=a1.out _ q.below;have r:=Gn (HB.out _ q.below);clear q))
   obtain⟨_,e0,e1,e2⟩:=fq hl.out (.int .i64 0) (.string ⟨#[]⟩) (.int .i64 0)
   exact GD (v:=.tuple #[.agg #[.int .i64 0,.string ⟨#[]⟩,.int .i64 0],.int .i64 0,.int .i64 51,.int .i64 (a:Nat)]) (by simp[results,Tryz.results177,go_sem,e0,e1,e2]) rfl ⟨r.out _ _ _,fun h=>absurd h (by simp),fun _=>⟨a,rfl,by omega,ha,rfl⟩⟩
theorem EH (s:ByteArray) (a:Nat) (w:World) (hs:s.size<=1000000) (ha:a<s.size):
  Calls Tryz.prog 177 #[.string s,.int .i64 (a:Nat)] w (tW s a (Lx.one (s.data.toList.drop a)) w):=by
 by_cases h:s[a].toNat=40\/s[a].toNat=41
 ·exact vy s a w hs ha h
 by_cases r:s[a].toNat=34\/s[a].toNat=124
 ·exact pG s a w hs ha r
 exact rk s a w hs ha (by omega) (by omega) (by omega) (by omega)
abbrev eG:=Int×ByteArray×Nat
abbrev ou (x:eG):List Value:=[.int .i64 x.1,.string x.2.1,.int .i64 (x.2.2:Nat)]
abbrev fj (l:List eG):List Value:=l.flatMap ou
theorem Dl:(Tryz.prog.info? 24).map (fun i=>(i.zero,i.size,i.bytes))=some (some (.agg #[.int .i64 0,.string ByteArray.empty,.int .i64 0]),3,32):=by kernel_rfl
def iC (w:World) (B:Nat) (A:Option Addr) (c:Nat) (l:List eG):Prop:=w.ownsRow B 24 3 (.slice A l.length c) l.length (fj l)
theorem iC.nil (w:World) (B:Nat):iC w B none 0 []:=Gg _ _ _ _
theorem lV (w:World) (x y z:Value) (t:TypeId):∀ j u,[x,y,z][j]?=some u->(w.alloc (.cells #[x,y,z] t)).cell? ((⟨w.heap.size,0,none⟩:Addr).add j)=some u:=by
 intro j u hu
 have l:=aa.new w t #[x,y,z]
 rw[addr_add,FA,l.cell j,<-hu]
 simp
theorem z8 (w:World) {ops:Array Oper} {rest:List Oper} {o:Oper} {a:Act} {Q:Exit->Act->World->Prop} (L:o.guard=none) (s x:Operand)
  (ho:o.op=.call { callee:=.builtin .append,args:=#[s,x],argTypes:=#[215,215] }) (B:Nat) (A:Option Addr) (c:Nat) (l:List eG) (n:Nat) (hn:l.length=n) (d:eG) (g:Nat) (hg:w.heap.size=g)
  (hs:a.eval s=.slice A n c) (r:iC w B A c l) (hx:a.eval x=.slice (some ⟨g,0,none⟩) 1 1) (hl:n<=1000000) (hB:B<=w.heap.size)
  (h:∀ A' J w',iC w' B A' J (l++[d])->w.grownBy w' (Value.slice A n c).ownBlock->wpList Tryz.prog ops Q rest (a.put o.dst (.slice A' (n+1) J)) w'):
  wpList Tryz.prog ops Q (o::rest) a (w.alloc (.cells #[.int .i64 d.1,.string d.2.1,.int .i64 (d.2.2:Nat)] 24)):=by
 subst hn
 subst hg
 obtain⟨i0,hi,U,V,X⟩:=Gj Dl
 refine Fw _ L s x 215 ho B 24 i0 (.agg #[.int .i64 0,.string ByteArray.empty,.int .i64 0]) 3 32 Tryz.underlying215 hi U V X rfl (by decide) _ l.length (fj l) hs (Gk r _) ⟨w.heap.size,0,none⟩ 1 1 (ou d) hx rfl (lV _ _ _ _ _) (fun u hu=>by simp at hu;rcases hu with rfl|rfl|rfl <;> rfl) (by unfold maxLen;omega) (by omega) (by simp;omega) ?_
 intro v' w' Z I _ _
 obtain⟨A',J,rfl⟩:=aI Z
 refine h A' J w' ?_ ?_
 ·unfold iC
  have e:fj l++ou d=fj (l++[d]):=by simp[fj]
  rw[e] at Z
  rw[Gb]
  exact Z
 ·exact⟨I.os,I.tape,I.output,Fo (by simp) I.size,fun k hk O=>(I.block k (by simp;omega) O).trans (Fq w _ k hk)⟩
def ee (s:ByteArray) (x:eG):Lx.Tok:=(x.1,x.2.1.data.toList,s.size-x.2.2)
structure qz (s:ByteArray) (w:World) (A:Option Addr) (c:Nat) (l:List eG) (E:Int) (p:Nat) (w':World):Prop where
 own:iC w' w.heap.size A c l
 below:Below w.heap.size w w'
 at_:∀ x∈l,x.2.2<=s.size
 le:p<=s.size
 few:l.length<=4000
 long:16384<s.size->l=[]/\E=2/\p=0
 vM:s.size<=16384->l.map (ee s)=(Lx.lex 4000 s.data.toList).1/\E=(Lx.lex 4000 s.data.toList).2.1/\s.data.toList.drop p=(Lx.lex 4000 s.data.toList).2.2
theorem zt (s:ByteArray) (a:Nat) (hs:s.size<=1000000) (ha:a<=s.size):∃ k:Nat,a<=k/\k<=s.size/\s.data.toList.drop k=Lx.skip false (s.data.toList.drop a)/\
  ∀ w,Calls Tryz.prog 175 #[.string s,.int .i64 (a:Nat)] w fun e w'=>e=.returned (.int .i64 (k:Nat))/\w'=w:=by
 obtain⟨p,hp⟩:=Lx.pW (s.data.toList.drop a) false
 have hl:=G1 List.length hp
 rw[Gb,FU,ar] at hl
 have h:s.data.toList.drop (a+p.length)=Lx.skip false (s.data.toList.drop a):=by
  rw[<-GF]
  have:=G1 (List.drop p.length) hp
  rw[List.drop_left] at this
  exact this
 refine⟨a+p.length,by omega,by omega,h,fun w=>?_⟩
 refine(C4 s a w (by unfold maxLen;omega) ha).mono ?_
 rintro e w' ⟨k',rfl,rfl,J,r,I⟩
 obtain rfl:=kR s r (by omega) (I.trans h.symm)
 exact⟨rfl,rfl⟩
theorem iC.kept {w w':World} {B:Nat} {A:Option Addr} {c:Nat} {l:List eG} (h:iC w B A c l) (hb:Below w.heap.size w w'):iC w' B A c l:=
 (ae.af (F:=fun _=>False) hb).own h (fun _ _=>id)
theorem EN (s:ByteArray) (w:World) (hs:s.size<=4000000):
  Calls Tryz.prog 131 #[.string s] w fun e w'=>∃ A c l E p,e=.returned (.tuple #[.slice A l.length c,.int .i64 E,.int .i64 (p:Nat)])/\qz s w A c l E p w':=by
 by_cases a1:16384<s.size
 ·have bD:(16384:Int)<(s.size:Int):=by omega
  go_enter Tryz.func131,Tryz.ntmps131
  go_wp2
  go_ret3
  exact⟨none,0,[],2,0,rfl,⟨iC.nil _ _,Gp _ _,fun x hx=>absurd hx FD,Fz _,by simp,fun _=>⟨rfl,rfl,rfl⟩,fun h=>absurd h (by omega)⟩⟩
 ·have bD:¬(16384:Int)<(s.size:Int):=by omega
  replace hs:s.size<=1000000:=by omega
  obtain⟨X,HX⟩:∃ X,Hid (Lx.lex 4000 s.data.toList=X):=⟨_,rfl⟩
  have bp:=Gn HX.out
  go_enter Tryz.func131,Tryz.ntmps131
  go_wp2
  go_loopw [5,6] (fun ov iv wr=>∃ (i m:Nat) (A:Option Addr) (c:Nat) (l:List eG),i<=s.size/\m<=4000/\iv=.int .i64 (i:Nat)/\ov=.slice A m c/\Below w.heap.size w wr/\
   Hid (iC wr w.heap.size A c l/\l.length=m/\(∀ x∈l,x.2.2<=s.size)/\X=(l.map (ee s)++(Lx.lex (4000-m) (s.data.toList.drop i)).1,(Lx.lex (4000-m) (s.data.toList.drop i)).2))) (fun _ iv _=>s.size-(intOf iv).toNat)
  case atStart=>exact⟨0,0,none,0,[],Fz _,Fz _,rfl,rfl,by first|exact Gp _ _|assumption,⟨iC.nil _ _,rfl,fun x hx=>absurd hx FD,by rw[<-HX.out,Hw];rfl⟩⟩
  case round=>
   clear HX
   obtain⟨i,m,A,c,l,hi,hm,rfl,rfl,hb,HI⟩:=hrel
   obtain⟨ho,V,U,Q⟩:=HI.out
   clear HI
   obtain⟨k,b3,av,L,HS⟩:=zt s i hs hi
   replace HS:=Gn HS
   have HB:=Gn hb
   have HO:=Gn ho
   have HL:=Gn V
   have HT:=Gn U
   have bl:Hid (l.length<=4000):=(by show _<=_;omega)
   have bL:¬16384<s.size:=a1
   have end_:∀ (E:Int) (p:Nat),p<=s.size->X=(l.map (ee s),E,s.data.toList.drop p)->Hid (∀ w',Below wr.heap.size wr w'->qz s w A c l E p w'):=fun E p hp hx=>Gn fun w' b'=>
    ⟨HO.out.kept b',HB.out.trans (b'.mono HB.out.size),HT.out,hp,bl.out,fun h=>absurd h bL,fun _=>by rw[bp.out,hx];exact⟨rfl,rfl,rfl⟩⟩
   have I:=Gn end_
   by_cases ad:k=s.size
   ·subst ad
    rw[cT] at L
    rw[Lx.lex_nil _ L.symm] at Q
    have HZ:=Gn (I.out 0 s.size (Fm _) (by rw[Q,cT];simp))
    clear Q L hb ho V U end_ I
    go_wp2_with (go_at_call 175;refine(HS.out _).mono ?_;rintro e w1 ⟨rfl,rfl⟩)
    go_ret3
    exact⟨A,c,l,0,s.size,by rw[HL.out];rfl,HZ.out.out _ (Gp _ _)⟩
   have ao:k<s.size:=by omega
   have b4:((k:Int) == (s.size:Int))=false:=Gx.2 (by omega)
   have bC:(k:Int)<(s.size:Int):=by omega
   have J:=aD s ao
   have O:Lx.skip false (s.data.toList.drop i)=s[k]::s.data.toList.drop (k+1):=by rw[<-L,J]
   have HG:=Gn fun W=>wm s[k] W
   obtain⟨g,hg⟩:∃ g,Lx.good s[k]=g:=⟨_,rfl⟩
   rw[hg] at HG
   cases g with
   |false=>
    rw[Lx.ob _ O hg] at Q
    have HZ:=Gn (I.out 50 k av (by rw[Q,J];simp))
    clear Q L hb ho V U end_ I O J hg ad
    go_wp2_with (first|(go_at_call 175;refine(HS.out _).mono ?_;rintro e w1 ⟨rfl,rfl⟩)|(go_at_call 176;refine(HG.out _).mono ?_;rintro e w1 ⟨rfl,rfl⟩))
    go_ret3
    exact⟨A,c,l,50,k,by rw[HL.out];rfl,HZ.out.out _ (Gp _ _)⟩
   |true=>
    by_cases a7:m=4000
    ·subst a7
     rw[Nat.sub_self,Lx.wR O hg] at Q
     have HZ:=Gn (I.out 2 k av (by rw[Q,J];simp))
     clear Q L hb ho V U end_ I O J hg ad
     go_wp2_with (first|(go_at_call 175;refine(HS.out _).mono ?_;rintro e w1 ⟨rfl,rfl⟩)|(go_at_call 176;refine(HG.out _).mono ?_;rintro e w1 ⟨rfl,rfl⟩))
     go_ret3
     exact⟨A,c,l,2,k,by rw[HL.out];rfl,HZ.out.out _ (Gp _ _)⟩
    ·obtain⟨r,hr⟩:∃ r,4000-m=r+1:=⟨4000-m-1,by omega⟩
     have ba:4000-(m+1)=r:=by omega
     have b5:((m:Int) == 4000)=false:=Gx.2 (by omega)
     rw[hr] at Q
     have H1:=Gn fun W=>EH s k W hs ao
     obtain⟨Y,hY⟩:∃ Y,Lx.one (s.data.toList.drop k)=Y:=⟨_,rfl⟩
     rw[hY] at H1
     rw[J] at hY
     by_cases he:Y.2.2.1=0
     ·rw[Lx.rV r O hg (by rw[hY];exact he),hY] at Q
      have HE:=Gn he
      have bE:m+1<=4000:=by omega
      have ah:Hid (∀ Z,Below wr.heap.size wr Z->∀ o,iC (Z.alloc o) w.heap.size A c l/\Below w.heap.size w Z/\w.heap.size<=Z.heap.size):=fun Z b2 o=>⟨HO.out.kept (b2.alloc b2.size o),HB.out.trans (b2.mono HB.out.size),Fo HB.out.size b2.size⟩
      have bx:Hid (∀ (T:ByteArray) (b:Nat),T.data.toList=Y.2.1->s.data.toList.drop b=Y.2.2.2->X=((l++[(Y.1,T,k)]).map (ee s)++(Lx.lex (4000-(m+1)) (s.data.toList.drop b)).1,(Lx.lex (4000-(m+1)) (s.data.toList.drop b)).2)):=fun T b e1 e2=>by
       rw[Q,e2,ba,Hf]
       have:(s[k]::s.data.toList.drop (k+1)).length=s.size-k:=by rw[<-J,FU,ar]
       simp only[GK,GL,ee,e1,this,F3,FZ,FY]
      have bo:Hid (∀ Z w3 o1 o2,Below w.heap.size w Z->w.heap.size<=Z.heap.size->((Z.alloc o1).grownBy w3 (Value.slice A m c).ownBlock)->(Value.slice A m c).ownBlock=o2->Below w.heap.size w w3):=fun Z w3 o1 o2 b2 z2 g3 _=>
       (b2.alloc z2 o1).grown g3 (Fo z2 (by simp)) (fun q hq=>(HO.out.lt q (by rw[HL.out];exact hq)).1)
      clear Q L hb ho V U end_ I O J hg ad hY he hr ba a7
      go_wp2_with (first
       |(go_at_call 175;refine(HS.out _).mono ?_;rintro e w1 ⟨rfl,rfl⟩)
       |(go_at_call 176;refine(HG.out _).mono ?_;rintro e w1 ⟨rfl,rfl⟩)
       |(go_at_call 177;refine(H1.out _).mono ?_;rintro e Z q;obtain⟨T,b,rfl,hT,b1,bB,bb⟩:=q.ok HE.out;have QT:=Gn hT;have QB:=Gn bb;have QW:=Gn q.below;clear q hT bb)
       |(at_builtin;refine z8 _ rfl (.tmp 48) (.tmp 50) rfl w.heap.size A c l m HL.out (Y.1,T,k) _ (by simp) rfl (ah.out _ QW.out _).1 rfl (by omega) (Fo (ah.out _ QW.out (.cells #[] 0)).2.2 (by simp)) ?_;intro A3 c3 w3 o3 g3;have O3:=Gn o3;have B3:=Gn (bo.out _ _ _ _ (ah.out _ QW.out (.cells #[] 0)).2.1 (ah.out _ QW.out (.cells #[] 0)).2.2 g3 rfl);clear o3 g3))
      go_roundw
      case rel=>exact⟨b,m+1,A3,c3,l++[(Y.1,T,k)],bB,bE,rfl,rfl,B3.out,⟨O3.out,by rw[Gb,HL.out];rfl,fun x hx=>(by rcases F7.1 hx with h|h;exact HT.out x h;rw[F0.1 h];exact av),bx.out T b QT.out QB.out⟩⟩
      case measure=>simp[intOf];omega
     ·rw[Lx.oU r O hg (by rw[hY];exact he),hY] at Q
      have HE:=Gn he
      have HZ:Hid (∀ p:Nat,p<s.size->s.data.toList.drop p=Y.2.2.2->∀ w',Below wr.heap.size wr w'->qz s w A c l Y.2.2.1 p w'):=fun p hp e2 w' b'=>
       (I.out Y.2.2.1 p (by omega) (by rw[Q,e2];simp)).out w' b'
      obtain⟨E,hE⟩:∃ E,Y.2.2.1=E:=⟨_,rfl⟩
      have bz:(E == 0)=false:=by rw[<-hE];exact Gx.2 he
      have bT:(E != 0)=true:=by rw[bne,bz];rfl
      have HEq:=Gn hE
      clear Q L hb ho V U end_ I O J hg ad hY he hr ba a7 hE
      go_wp2_with (first
       |(go_at_call 175;refine(HS.out _).mono ?_;rintro e w1 ⟨rfl,rfl⟩)
       |(go_at_call 176;refine(HG.out _).mono ?_;rintro e w1 ⟨rfl,rfl⟩)
       |(go_at_call 177;refine(H1.out _).mono ?_;rintro e Z q;obtain⟨p,rfl,b6,bP,bn⟩:=q.bad HE.out;rw[HEq.out];have QB:=Gn bn;have QW:=Gn q.below;clear q bn))
      go_ret3
      exact⟨A,c,l,Y.2.2.1,p,by rw[HL.out,HEq.out];rfl,HZ.out p bP QB.out _ (QW.out.alloc QW.out.size _)⟩
abbrev aG:=Int×ByteArray×Int
structure oQ (w:World) (A:Option Addr) (n:Nat) (l:List aG):Prop where
 len:l.length=n
 at_:0<n->∃ b off,A=some ⟨b,off,none⟩/\b<w.heap.size/\∀ (i:Nat) (x:aG),l[i]?=some x->w.cell? ⟨b,off+i*3,none⟩=some (.int .i64 x.1)/\w.cell? ⟨b,off+i*3+1,none⟩=some (.string x.2.1)/\w.cell? ⟨b,off+i*3+2,none⟩=some (.int .i64 x.2.2)
theorem oQ.below {w w':World} {A:Option Addr} {n:Nat} {l:List aG} (h:oQ w A n l) (hb:Below w.heap.size w w'):oQ w' A n l:=
 ⟨h.len,fun hn=>by
  obtain⟨b,off,e,r,hc⟩:=h.at_ hn
  exact⟨b,off,e,Fp r hb.size,fun i x I=>⟨(hb.cell (p:=⟨b,off+i*3,none⟩) r).trans (hc i x I).1,(hb.cell (p:=⟨b,off+i*3+1,none⟩) r).trans (hc i x I).2.1,(hb.cell (p:=⟨b,off+i*3+2,none⟩) r).trans (hc i x I).2.2⟩⟩⟩
theorem oQ.get {w:World} {A:Option Addr} {n i:Nat} {l:List aG} (h:oQ w A n l) (hi:i<n):
  ∃ b off x,A=some ⟨b,off,none⟩/\l[i]?=some x/\l.drop i=x::l.drop (i+1)/\∀ W,Below w.heap.size w W->b<W.heap.size/\W.cell? ⟨b,off+i*3,none⟩=some (.int .i64 x.1)/\W.cell? ⟨b,off+i*3+1,none⟩=some (.string x.2.1)/\W.cell? ⟨b,off+i*3+2,none⟩=some (.int .i64 x.2.2):=by
 obtain⟨b,off,e,r,hc⟩:=h.at_ (by omega)
 have I:i<l.length:=by rw[h.len];exact hi
 refine⟨b,off,l[i],e,Ge I,FC I,fun W J=>?_⟩
 have:=(hc i _ (Ge I))
 exact⟨Fp r J.size,(J.cell (p:=⟨b,off+i*3,none⟩) r).trans this.1,(J.cell (p:=⟨b,off+i*3+1,none⟩) r).trans this.2.1,(J.cell (p:=⟨b,off+i*3+2,none⟩) r).trans this.2.2⟩
def CP (x:eG):aG:=(x.1,x.2.1,(x.2.2:Int))
theorem um:∀ (l:List eG) (i:Nat) (x:eG),l[i]?=some x->(fj l)[i*3]?=some (.int .i64 x.1)/\(fj l)[i*3+1]?=some (.string x.2.1)/\(fj l)[i*3+2]?=some (.int .i64 (x.2.2:Nat))
 |[],i,x,h=>by simp at h
 |y::l,0,x,h=>by
  obtain rfl:y=x:=by simpa using h
  simp[fj]
 |y::l,i+1,x,h=>by
  obtain⟨r,I,J⟩:=um l i x (by simpa using h)
  have e:∀ j,(fj (y::l))[(i+1)*3+j]?=(fj l)[i*3+j]?:=fun j=>by
   rw[fj,GI,show(i+1)*3+j=(ou y).length+(i*3+j) by simp;omega,Ga (by omega),II]
  exact⟨(e 0).trans r,(e 1).trans I,(e 2).trans J⟩
theorem iC.vM {w:World} {B:Nat} {A:Option Addr} {c:Nat} {l:List eG} (h:iC w B A c l):oQ w A l.length (l.map CP):=by
 refine⟨by rw[Fi],fun hn=>?_⟩
 rcases h.2 with⟨_,h0⟩|⟨g,cap,cur,e,_,U,_⟩
 ·omega
 ·injection e with Q e2 e3
  subst Q
  refine⟨g,0,rfl,(Fl.1 U).1,fun i x I=>?_⟩
  rw[Fj] at I
  obtain⟨y,hy,rfl⟩:=FT.1 I
  obtain⟨V,X,Z⟩:=um l i y hy
  have r:=fun j u (hu:(fj l)[j]?=some u)=>h.cells (g:=g) rfl j u hu
  have a:∀ j,(⟨g,0,none⟩:Addr).add j=⟨g,0+j,none⟩:=fun j=>addr_add g 0 j
  have J:=r _ _ V
  have L:=r _ _ X
  have O:=r _ _ Z
  rw[a] at J L O
  exact⟨J,by rw[Ie];exact L,by rw[Ie];exact O⟩
structure bZ where
 X:Sx
 E:Int
 at_:Int
structure Es (w:World) (A:Option Addr) (n:Nat) (l:List bZ):Prop where
 len:l.length=n
 at_:0<n->∃ b off,A=some ⟨b,off,none⟩/\∀ (i:Nat) (x:bZ),l[i]?=some x->∃ A' c',mh w b (off+i*8) x.X A' c'/\aJ w iM x.X A' c'/\w.cell? ⟨b,off+i*8+6,none⟩=some (.int .i64 x.E)/\w.cell? ⟨b,off+i*8+7,none⟩=some (.int .i64 x.at_)
theorem Es.get {w:World} {A:Option Addr} {n i:Nat} {l:List bZ} (h:Es w A n l) (hi:i<n):
  ∃ b off x A' I,A=some ⟨b,off,none⟩/\l[i]?=some x/\l.drop i=x::l.drop (i+1)/\mh w b (off+i*8) x.X A' I/\aJ w iM x.X A' I/\w.cell? ⟨b,off+i*8+6,none⟩=some (.int .i64 x.E)/\w.cell? ⟨b,off+i*8+7,none⟩=some (.int .i64 x.at_):=by
 obtain⟨b,off,e,hc⟩:=h.at_ (by omega)
 have r:i<l.length:=by rw[h.len];exact hi
 obtain⟨A',I,J,L,O,Q⟩:=hc i _ (Ge r)
 exact⟨b,off,l[i],A',I,e,Ge r,FC r,J,L,O,Q⟩
end Go.Proofs.YtdbgiijdgedggaaGreatDoor
