/- What the proofs of this claim use, text by text. -/
import Derived.Test.YtcgaeknikfaghaaGreatDoorQD19
set_option linter.unusedSimpArgs false
set_option linter.unusedVariables false
set_option maxRecDepth 100000
set_option maxHeartbeats 25600000
namespace Go.Proofs.YtcgaeknikfaghaaGreatDoor
open Go.RowKit
theorem slice_both (s:ByteArray) (a b:Nat) (hb:b≤s.size) (ha:a≤b) (w:World):(Instr.slice 9 (.string s) (some (.int .i64 (a:Int))) (some (.int .i64 (b:Int))) none).run Tryz.prog w=.ok (.string (s.extract a b)) w:=by
 rw[run_slice_string_if _ _ _ _ _ _ _ Tryz.underlying9,if_pos (by omega),if_pos (by omega)]
 rfl
theorem below_alloc2 (w:World) (x y:Obj):Below w.heap.size w ((w.alloc x).alloc y):=((Below.refl _ w).alloc (Nat.le_refl _) x).alloc (by simp) y
abbrev ZT:Array Value:=#[.int .i64 0,.string ⟨#[]⟩,.int .i64 0]
abbrev set3 (w:World) (R:Nat) (x y z:Value):World:=((w.setCell ⟨R,0,none⟩ x).setCell ⟨R,1,none⟩ y).setCell ⟨R,2,none⟩ z
theorem tok_cells {w:World} {R:Nat} {v0 v1 v2:Value} (h:Lies w R 24 #[v0,v1,v2]) (x y z:Value):
  Lies (set3 w R x y z) R 24 #[x,y,z]∧(set3 w R x y z).cell? ⟨R,0,none⟩=some x∧(set3 w R x y z).cell? ⟨R,1,none⟩=some y∧(set3 w R x y z).cell? ⟨R,2,none⟩=some z:=by
 have l:Lies (set3 w R x y z) R 24 #[x,y,z]:=by simpa using ((h.put 0 x).put 1 y).put 2 z
 exact⟨l,by simpa using l.cell 0,by simpa using l.cell 1,by simpa using l.cell 2⟩
theorem tok_below {w0 w:World} (h:Below w0.heap.size w0 w) {R:Nat} (hR:w0.heap.size≤R) (x y z:Value):Below w0.heap.size w0 (set3 w R x y z):=
 h.trans ((((Turn.refl (fun i=>i=R) w).put (p:=⟨R,0,none⟩) (.inl rfl) x).put (p:=⟨R,1,none⟩) (.inl rfl) y).put (p:=⟨R,2,none⟩) (.inl rfl) z |>.below h.size fun i e=>by rw[e];exact hR)
theorem tok_room {W w4:World} {R:Nat} (b4:Below W.heap.size W w4) (hl:Lies W R 24 ZT):
  R<w4.heap.size∧w4.cell? ⟨R,0,none⟩=some (.int .i64 0)∧w4.cell? ⟨R,1,none⟩=some (.string ⟨#[]⟩)∧w4.cell? ⟨R,2,none⟩=some (.int .i64 0)∧
  w4.frozen? ⟨R,0,none⟩=false∧w4.frozen? ⟨R,1,none⟩=false∧w4.frozen? ⟨R,2,none⟩=false∧Hid (Lies w4 R 24 ZT):=by
 have h:=(Turn.of_below (F:=fun _=>False) b4).lies hl id
 exact⟨h.lt,by simpa using h.cell 0,by simpa using h.cell 1,by simpa using h.cell 2,h.free 0,h.free 1,h.free 2,h⟩
structure OSaid (s:ByteArray) (a:Nat) (x:Int×List UInt8×Int×List UInt8) (w:World) (e:Ending) (w':World):Prop where
 below:Below w.heap.size w w'
 ok:x.2.2.1=0→∃ (T:ByteArray) (b:Nat),e=.returned (.tuple #[.agg #[.int .i64 x.1,.string T,.int .i64 (a:Nat)],.int .i64 (b:Nat),.int .i64 0,.int .i64 0])∧T.data.toList=x.2.1∧a<b∧b≤s.size∧s.data.toList.drop b=x.2.2.2
 bad:x.2.2.1≠0→∃ p:Nat,e=.returned (.tuple #[.agg #[.int .i64 0,.string ⟨#[]⟩,.int .i64 0],.int .i64 0,.int .i64 x.2.2.1,.int .i64 (p:Nat)])∧a≤p∧p<s.size∧s.data.toList.drop p=x.2.2.2
theorem text_of (s:ByteArray) (a k:Nat) (ha:a<s.size) (h1:a+1≤k) (h2:k≤s.size) (h3:s.data.toList.drop k=(s.data.toList.drop (a+1)).dropWhile Lx.name):
  (s.extract a k).data.toList=s[a]::(s.data.toList.drop (a+1)).takeWhile Lx.name:=by
 have h:=Lx.take_drop Lx.name (s.data.toList.drop (a+1))
 rw[(cut_bytes s a k h2 (by omega)).1,drop_at s ha,show k-a=(k-(a+1))+1 by omega,List.take_succ_cons]
 congr 1
 rw[←h3] at h
 have hl:=congrArg List.length h
 rw[List.length_append,List.length_drop,List.length_drop] at hl
 have hsz:s.data.toList.length=s.size:=by rw[Array.length_toList];rfl
 rw[hsz] at hl
 have:((s.data.toList.drop (a+1)).takeWhile Lx.name).length=k-(a+1):=by omega
 rw[←this]
 have h':=congrArg (List.take ((s.data.toList.drop (a+1)).takeWhile Lx.name).length) h
 rw[List.take_left] at h'
 exact h'.symm
theorem rone_open (s:ByteArray) (a:Nat) (w:World) (hs:s.size≤1000000) (ha:a<s.size) (hc:s[a].toNat=40∨s[a].toNat=41):
  Calls Tryz.prog 128 #[.string s,.int .i64 (a:Nat)] w (OSaid s a (Lx.one (s.data.toList.drop a)) w):=by
 have HN:=Lib.hid fun W=>rnames s (a+1) W (by unfold maxLen;omega) (by omega)
 have HSL:=fun k h1 h2=>slice_both s a k h1 h2
 have hwi:IntKind.i64.wrap ((a:Int)+1)=((a+1:Nat):Int):=IntWalk.i64_in _ (by omega)
 have hX:Lx.one (s.data.toList.drop a)=(if s[a].toNat=40 then 1 else 2,[s[a]],0,s.data.toList.drop (a+1)):=by
  rw[drop_at s ha]
  rcases hc with h|h <;> simp[Lx.one,h]
 rw[hX]
 clear hX
 rcases hc with h|h
 ·have b1:((s[a].toNat:Int) == 40)=true:=beq_iff_eq.2 (by omega)
  have hT:Hid ((⟨#[40]⟩:ByteArray).data.toList=[s[a]]):=by
   show[(40:UInt8)]=_
   rw[Lx.byte_eq h];rfl
  have hk:(if s[a].toNat=40 then(1:Int) else 2)=1:=by rw[if_pos h]
  rw[hk]
  clear h hk
  go_enter Tryz.func128,Tryz.ntmps128
  go_wp2_with (go_at_call 153;refine(HN.out _).mono ?_;rintro e w2 ⟨k,rfl,rfl,h1,h2,_⟩;have hsl:=HSL k h2 (by omega))
  exact bodyPost_ret (v:=.tuple #[.agg #[.int .i64 1,.string ⟨#[40]⟩,.int .i64 (a:Nat)],.int .i64 ((a+1:Nat):Int),.int .i64 0,.int .i64 0]) (by simp[results,Tryz.results128,go_sem]) rfl ⟨below_alloc2 _ _ _,fun _=>⟨_,a+1,rfl,hT.out,by omega,by omega,rfl⟩,fun h=>absurd rfl h⟩
 ·have b1:((s[a].toNat:Int) == 40)=false:=beq_eq_false_iff_ne.2 (by omega)
  have b2:((s[a].toNat:Int) == 41)=true:=beq_iff_eq.2 (by omega)
  have hT:Hid ((⟨#[41]⟩:ByteArray).data.toList=[s[a]]):=by
   show[(41:UInt8)]=_
   rw[Lx.byte_eq h];rfl
  have hk:(if s[a].toNat=40 then(1:Int) else 2)=2:=by rw[if_neg (by omega)]
  rw[hk]
  clear h hk
  go_enter Tryz.func128,Tryz.ntmps128
  go_wp2_with (go_at_call 153;refine(HN.out _).mono ?_;rintro e w2 ⟨k,rfl,rfl,h1,h2,_⟩;have hsl:=HSL k h2 (by omega))
  exact bodyPost_ret (v:=.tuple #[.agg #[.int .i64 2,.string ⟨#[41]⟩,.int .i64 (a:Nat)],.int .i64 ((a+1:Nat):Int),.int .i64 0,.int .i64 0]) (by simp[results,Tryz.results128,go_sem]) rfl ⟨below_alloc2 _ _ _,fun _=>⟨_,a+1,rfl,hT.out,by omega,by omega,rfl⟩,fun h=>absurd rfl h⟩
theorem len_bytes (s:ByteArray):s.data.toList.length=s.size:=by rw[Array.length_toList];rfl
theorem drop_inj (s:ByteArray) {k k':Nat} (h:k≤s.size) (h':k'≤s.size) (e:s.data.toList.drop k=s.data.toList.drop k'):k=k':=by
 have:=congrArg List.length e
 rw[List.length_drop,List.length_drop,len_bytes] at this
 omega
theorem names_k (s:ByteArray) (a:Nat) (hs:s.size≤1000000) (ha:a≤s.size):∃ k:Nat,a≤k∧k≤s.size∧s.data.toList.drop k=(s.data.toList.drop a).dropWhile Lx.name∧
  ∀ w,Calls Tryz.prog 153 #[.string s,.int .i64 (a:Nat)] w fun e w'=>e=.returned (.int .i64 (k:Nat))∧w'=w:=by
 have h:=Lx.take_drop Lx.name (s.data.toList.drop a)
 have hl:=congrArg List.length h
 rw[List.length_append,List.length_drop,len_bytes] at hl
 have hk:s.data.toList.drop (a+((s.data.toList.drop a).takeWhile Lx.name).length)=(s.data.toList.drop a).dropWhile Lx.name:=by
  rw[←List.drop_drop]
  have:=congrArg (List.drop ((s.data.toList.drop a).takeWhile Lx.name).length) h
  rw[List.drop_left] at this
  exact this.symm
 refine⟨a+((s.data.toList.drop a).takeWhile Lx.name).length,by omega,by omega,hk,fun w=>?_⟩
 refine(rnames s a w (by unfold maxLen;omega) ha).mono ?_
 rintro e w' ⟨k',rfl,rfl,h1,h2,h3⟩
 obtain rfl:=drop_inj s h2 (by omega) (h3.trans hk.symm)
 exact⟨rfl,rfl⟩
theorem rone_names (s:ByteArray) (a:Nat) (w:World) (hs:s.size≤1000000) (ha:a<s.size) (h40:s[a].toNat≠40) (h41:s[a].toNat≠41) (h124:s[a].toNat≠124) (h34:s[a].toNat≠34):
  Calls Tryz.prog 128 #[.string s,.int .i64 (a:Nat)] w (OSaid s a (Lx.one (s.data.toList.drop a)) w):=by
 obtain⟨k,h1,h2,h3,HN⟩:=names_k s (a+1) hs (by omega)
 have hT:=text_of s a k ha h1 h2 h3
 have hsz:=(cut_bytes s a k h2 (by omega)).2
 have hsl:=slice_both s a k h2 (by omega)
 have hwi:IntKind.i64.wrap ((a:Int)+1)=((a+1:Nat):Int):=IntWalk.i64_in _ (by omega)
 have HD:=Lib.hid (rdigit s[a])
 have HM:=Lib.hid (rname s[a])
 have HU:=Lib.hid fun W=>rnumber (s.extract a k) W (by unfold maxLen;omega)
 have HV:=Lib.hid fun W=>rother (s.extract a k) W (by unfold maxLen;omega)
 replace HN:=Lib.hid HN
 rw[hT] at HU HV
 have b1:((s[a].toNat:Int) == 40)=false:=beq_eq_false_iff_ne.2 (by omega)
 have b2:((s[a].toNat:Int) == 41)=false:=beq_eq_false_iff_ne.2 (by omega)
 have b3:((s[a].toNat:Int) == 124)=false:=beq_eq_false_iff_ne.2 (by omega)
 have b4:((s[a].toNat:Int) == 34)=false:=beq_eq_false_iff_ne.2 (by omega)
 obtain⟨T,hTd⟩:∃ T,T=s.extract a k:=⟨_,rfl⟩
 rw[←hTd] at hT hsl HU HV hsz
 have HT:=Lib.hid hT
 have H3:=Lib.hid h3
 clear hTd hT
 have hO:¬(s[a].toNat=124∨s[a].toNat=34):=by omega
 by_cases h5:Lx.digit s[a]=true
 ·rw[h5] at HD
  obtain⟨z,hz⟩:∃ z,Lx.number (s[a]::(s.data.toList.drop (a+1)).takeWhile Lx.name)=z:=⟨_,rfl⟩
  rw[hz] at HU
  by_cases hz0:z=0
  ·have hX:Lx.one (s.data.toList.drop a)=(0,[],8,s.data.toList.drop a):=by
    rw[drop_at s ha]
    simp[Lx.one,h40,h41,hO,h5,hz,hz0]
   rw[hX]
   subst hz0
   clear hX hO hz h3 h40 h41 h124 h34 h5
   go_enter Tryz.func128,Tryz.ntmps128
   go_wp2_with (first
    |(go_at_call 153;refine(HN.out _).mono ?_;rintro e w2 ⟨rfl,rfl⟩)
    |(go_at_call 155;refine(HD.out _).mono ?_;rintro e w2 ⟨rfl,rfl⟩)
    |(go_at_call 156;refine(HU.out _).mono ?_;rintro e w2 ⟨rfl,rfl⟩))
   exact bodyPost_ret (v:=.tuple #[.agg #[.int .i64 0,.string ⟨#[]⟩,.int .i64 0],.int .i64 0,.int .i64 8,.int .i64 (a:Nat)]) (by simp[results,Tryz.results128,go_sem]) rfl ⟨below_alloc2 _ _ _,fun h=>absurd h (by simp),fun _=>⟨a,rfl,by omega,ha,rfl⟩⟩
  ·have hX:Lx.one (s.data.toList.drop a)=(z,s[a]::(s.data.toList.drop (a+1)).takeWhile Lx.name,0,(s.data.toList.drop (a+1)).dropWhile Lx.name):=by
    rw[drop_at s ha]
    simp[Lx.one,h40,h41,hO,h5,hz,hz0]
   rw[hX]
   have bz:(z == 0)=false:=beq_eq_false_iff_ne.2 hz0
   clear hX hO hz hz0 h3 h40 h41 h124 h34 h5
   go_enter Tryz.func128,Tryz.ntmps128
   go_wp2_with (first
    |(go_at_call 153;refine(HN.out _).mono ?_;rintro e w2 ⟨rfl,rfl⟩)
    |(go_at_call 155;refine(HD.out _).mono ?_;rintro e w2 ⟨rfl,rfl⟩)
    |(go_at_call 156;refine(HU.out _).mono ?_;rintro e w2 ⟨rfl,rfl⟩))
   exact bodyPost_ret (v:=.tuple #[.agg #[.int .i64 z,.string T,.int .i64 (a:Nat)],.int .i64 (k:Nat),.int .i64 0,.int .i64 0]) (by simp[results,Tryz.results128,go_sem]) rfl ⟨below_alloc2 _ _ _,fun _=>⟨T,k,rfl,HT.out,by omega,h2,H3.out⟩,fun h=>absurd rfl h⟩
 have h5':=Bool.eq_false_iff.2 h5
 rw[h5'] at HD
 by_cases h6:Lx.name s[a]=true
 ·rw[h6] at HM
  have hX:Lx.one (s.data.toList.drop a)=(3,s[a]::(s.data.toList.drop (a+1)).takeWhile Lx.name,0,(s.data.toList.drop (a+1)).dropWhile Lx.name):=by
   rw[drop_at s ha]
   simp[Lx.one,h40,h41,hO,h5,h6]
  rw[hX]
  clear hX hO h3 h40 h41 h124 h34 h5 h5' h6
  go_enter Tryz.func128,Tryz.ntmps128
  go_wp2_with (first
   |(go_at_call 153;refine(HN.out _).mono ?_;rintro e w2 ⟨rfl,rfl⟩)
   |(go_at_call 155;refine(HD.out _).mono ?_;rintro e w2 ⟨rfl,rfl⟩)
   |(go_at_call 157;refine(HM.out _).mono ?_;rintro e w2 ⟨rfl,rfl⟩))
  exact bodyPost_ret (v:=.tuple #[.agg #[.int .i64 3,.string T,.int .i64 (a:Nat)],.int .i64 (k:Nat),.int .i64 0,.int .i64 0]) (by simp[results,Tryz.results128,go_sem]) rfl ⟨below_alloc2 _ _ _,fun _=>⟨T,k,rfl,HT.out,by omega,h2,H3.out⟩,fun h=>absurd rfl h⟩
 have h6':=Bool.eq_false_iff.2 h6
 rw[h6'] at HM
 by_cases h58:s[a].toNat=58
 ·have b5:((s[a].toNat:Int) == 58)=true:=beq_iff_eq.2 (by omega)
  by_cases hk:k=a+1
  ·have hem:((s.data.toList.drop (a+1)).takeWhile Lx.name).isEmpty=true:=by
    have:=congrArg List.length HT.out
    rw[len_bytes,hsz,hk,List.length_cons] at this
    rw[List.isEmpty_iff_length_eq_zero]
    omega
   have hX:Lx.one (s.data.toList.drop a)=(0,[],8,s.data.toList.drop a):=by
    rw[drop_at s ha]
    simp only[Lx.one,h58,h5,h6,hem]
    simp
   rw[hX]
   have hlt:(T.size:Int)<2:=by omega
   clear hX hO hem hk h3 h40 h41 h124 h34 h5 h6 h5' h6' h58 hsz
   go_enter Tryz.func128,Tryz.ntmps128
   go_wp2_with (first
    |(go_at_call 153;refine(HN.out _).mono ?_;rintro e w2 ⟨rfl,rfl⟩)
    |(go_at_call 155;refine(HD.out _).mono ?_;rintro e w2 ⟨rfl,rfl⟩)
    |(go_at_call 157;refine(HM.out _).mono ?_;rintro e w2 ⟨rfl,rfl⟩))
   exact bodyPost_ret (v:=.tuple #[.agg #[.int .i64 0,.string ⟨#[]⟩,.int .i64 0],.int .i64 0,.int .i64 8,.int .i64 (a:Nat)]) (by simp[results,Tryz.results128,go_sem]) rfl ⟨below_alloc2 _ _ _,fun h=>absurd h (by simp),fun _=>⟨a,rfl,by omega,ha,rfl⟩⟩
  ·have hem:((s.data.toList.drop (a+1)).takeWhile Lx.name).isEmpty=false:=by
    have:=congrArg List.length HT.out
    rw[len_bytes,hsz,List.length_cons] at this
    cases hq:(s.data.toList.drop (a+1)).takeWhile Lx.name with
    |nil=>rw[hq,List.length_nil] at this;omega
    |cons _ _=>rfl
   have hX:Lx.one (s.data.toList.drop a)=(7,s[a]::(s.data.toList.drop (a+1)).takeWhile Lx.name,0,(s.data.toList.drop (a+1)).dropWhile Lx.name):=by
    rw[drop_at s ha]
    simp only[Lx.one,h58,h5,h6,hem]
    simp
   rw[hX]
   have hlt:¬(T.size:Int)<2:=by omega
   clear hX hO hem hk h3 h40 h41 h124 h34 h5 h6 h5' h6' h58 hsz
   go_enter Tryz.func128,Tryz.ntmps128
   go_wp2_with (first
    |(go_at_call 153;refine(HN.out _).mono ?_;rintro e w2 ⟨rfl,rfl⟩)
    |(go_at_call 155;refine(HD.out _).mono ?_;rintro e w2 ⟨rfl,rfl⟩)
    |(go_at_call 157;refine(HM.out _).mono ?_;rintro e w2 ⟨rfl,rfl⟩))
   exact bodyPost_ret (v:=.tuple #[.agg #[.int .i64 7,.string T,.int .i64 (a:Nat)],.int .i64 (k:Nat),.int .i64 0,.int .i64 0]) (by simp[results,Tryz.results128,go_sem]) rfl ⟨below_alloc2 _ _ _,fun _=>⟨T,k,rfl,HT.out,by omega,h2,H3.out⟩,fun h=>absurd rfl h⟩
 have b5:((s[a].toNat:Int) == 58)=false:=beq_eq_false_iff_ne.2 (by omega)
 by_cases h35:s[a].toNat=35
 ·have b6:((s[a].toNat:Int) == 35)=true:=beq_iff_eq.2 (by omega)
  obtain⟨z,hz⟩:∃ z,Lx.other (s[a]::(s.data.toList.drop (a+1)).takeWhile Lx.name)=z:=⟨_,rfl⟩
  rw[hz] at HV
  cases z with
  |false=>
   have hX:Lx.one (s.data.toList.drop a)=(0,[],8,s.data.toList.drop a):=by
    rw[drop_at s ha]
    simp only[Lx.one,h35,h5,h6,hz]
    simp
   rw[hX]
   clear hX hO hz h3 h40 h41 h124 h34 h5 h6 h5' h6' h58 h35 hsz
   go_enter Tryz.func128,Tryz.ntmps128
   go_wp2_with (first
    |(go_at_call 153;refine(HN.out _).mono ?_;rintro e w2 ⟨rfl,rfl⟩)
    |(go_at_call 155;refine(HD.out _).mono ?_;rintro e w2 ⟨rfl,rfl⟩)
    |(go_at_call 157;refine(HM.out _).mono ?_;rintro e w2 ⟨rfl,rfl⟩)
    |(go_at_call 158;refine(HV.out _).mono ?_;rintro e w2 ⟨rfl,rfl⟩))
   exact bodyPost_ret (v:=.tuple #[.agg #[.int .i64 0,.string ⟨#[]⟩,.int .i64 0],.int .i64 0,.int .i64 8,.int .i64 (a:Nat)]) (by simp[results,Tryz.results128,go_sem]) rfl ⟨below_alloc2 _ _ _,fun h=>absurd h (by simp),fun _=>⟨a,rfl,by omega,ha,rfl⟩⟩
  |true=>
   have hX:Lx.one (s.data.toList.drop a)=(8,s[a]::(s.data.toList.drop (a+1)).takeWhile Lx.name,0,(s.data.toList.drop (a+1)).dropWhile Lx.name):=by
    rw[drop_at s ha]
    simp only[Lx.one,h35,h5,h6,hz]
    simp
   rw[hX]
   clear hX hO hz h3 h40 h41 h124 h34 h5 h6 h5' h6' h58 h35 hsz
   go_enter Tryz.func128,Tryz.ntmps128
   go_wp2_with (first
    |(go_at_call 153;refine(HN.out _).mono ?_;rintro e w2 ⟨rfl,rfl⟩)
    |(go_at_call 155;refine(HD.out _).mono ?_;rintro e w2 ⟨rfl,rfl⟩)
    |(go_at_call 157;refine(HM.out _).mono ?_;rintro e w2 ⟨rfl,rfl⟩)
    |(go_at_call 158;refine(HV.out _).mono ?_;rintro e w2 ⟨rfl,rfl⟩))
   exact bodyPost_ret (v:=.tuple #[.agg #[.int .i64 8,.string T,.int .i64 (a:Nat)],.int .i64 (k:Nat),.int .i64 0,.int .i64 0]) (by simp[results,Tryz.results128,go_sem]) rfl ⟨below_alloc2 _ _ _,fun _=>⟨T,k,rfl,HT.out,by omega,h2,H3.out⟩,fun h=>absurd rfl h⟩
 have b6:((s[a].toNat:Int) == 35)=false:=beq_eq_false_iff_ne.2 (by omega)
 have hX:Lx.one (s.data.toList.drop a)=(0,[],50,s.data.toList.drop a):=by
  rw[drop_at s ha]
  simp[Lx.one,h40,h41,hO,h5,h6,h58,h35]
 rw[hX]
 clear hX hO h3 h40 h41 h124 h34 h5 h6 h5' h6' h58 h35 hsz
 go_enter Tryz.func128,Tryz.ntmps128
 go_wp2_with (first
  |(go_at_call 153;refine(HN.out _).mono ?_;rintro e w2 ⟨rfl,rfl⟩)
  |(go_at_call 155;refine(HD.out _).mono ?_;rintro e w2 ⟨rfl,rfl⟩)
  |(go_at_call 157;refine(HM.out _).mono ?_;rintro e w2 ⟨rfl,rfl⟩))
 exact bodyPost_ret (v:=.tuple #[.agg #[.int .i64 0,.string ⟨#[]⟩,.int .i64 0],.int .i64 0,.int .i64 50,.int .i64 (a:Nat)]) (by simp[results,Tryz.results128,go_sem]) rfl ⟨below_alloc2 _ _ _,fun h=>absurd h (by simp),fun _=>⟨a,rfl,by omega,ha,rfl⟩⟩
theorem Lx.quo_text (q:UInt8):∀ l:List UInt8,(Lx.quo q l).1.length≤l.length
 |[]=>Nat.le_refl _
 |[c]=>by
  unfold Lx.quo
  split
  ·split <;> simp
  ·simp
 |c::d::t=>by
  have h1:=Lx.quo_text q t
  have h2:=Lx.quo_text q (d::t)
  unfold Lx.quo
  split
  ·split
   ·split
    ·simp only[List.length_cons];omega
    ·simp
   ·simp only[List.length_cons] at h2 ⊢;omega
  ·simp
theorem rone_quotes (s:ByteArray) (a:Nat) (w:World) (hs:s.size≤1000000) (ha:a<s.size) (hq:s[a].toNat=34∨s[a].toNat=124):
  Calls Tryz.prog 128 #[.string s,.int .i64 (a:Nat)] w (OSaid s a (Lx.one (s.data.toList.drop a)) w):=by
 obtain⟨k,h1,h2,h3,HN⟩:=names_k s (a+1) hs (by omega)
 have hsl:=slice_both s a k h2 (by omega)
 have hwi:IntKind.i64.wrap ((a:Int)+1)=((a+1:Nat):Int):=IntWalk.i64_in _ (by omega)
 replace HN:=Lib.hid HN
 have HQ:=Lib.hid fun W=>rquoted s a W hs ha hq
 have hD:=drop_at s ha
 obtain⟨X,hX⟩:∃ X,Lx.quo s[a] (s.data.toList.drop (a+1))=X:=⟨_,rfl⟩
 rw[hX] at HQ
 have hO:s[a].toNat=124∨s[a].toNat=34:=hq.symm
 have b1:((s[a].toNat:Int) == 40)=false:=beq_eq_false_iff_ne.2 (by omega)
 have b2:((s[a].toNat:Int) == 41)=false:=beq_eq_false_iff_ne.2 (by omega)
 have n40:s[a].toNat≠40:=by omega
 have n41:s[a].toNat≠41:=by omega
 have HR:=Lib.hid fun(w4:World) (b4:Below ((w.alloc (.cells ZT 24)).alloc (.cells ZT 24)).heap.size ((w.alloc (.cells ZT 24)).alloc (.cells ZT 24)) w4)=>
  tok_room (R:=w.heap.size) b4 ((Below.heap_alloc _ _ _ (by simp)).trans (Lies.new w 24 ZT))
 have HR1:=Lib.hid fun(w4:World) (b4:Below ((w.alloc (.cells ZT 24)).alloc (.cells ZT 24)).heap.size ((w.alloc (.cells ZT 24)).alloc (.cells ZT 24)) w4)=>
  tok_room (R:=w.heap.size+1) b4 (by have:=Lies.new (w.alloc (.cells ZT 24)) 24 ZT;simpa using this)
 have HB:=Lib.hid fun(w4:World) (b4:Below ((w.alloc (.cells ZT 24)).alloc (.cells ZT 24)).heap.size ((w.alloc (.cells ZT 24)).alloc (.cells ZT 24)) w4) (x y z:Value)=>
  tok_below ((below_alloc2 w _ _).trans (b4.mono (by simp;omega))) (Nat.le_refl w.heap.size) x y z
 have hbq:((s[a].toNat:Int) == 124)=true∨((s[a].toNat:Int) == 124)=false∧((s[a].toNat:Int) == 34)=true:=by
  by_cases h:s[a].toNat=124
  ·exact .inl (beq_iff_eq.2 (by omega))
  ·exact .inr ⟨beq_eq_false_iff_ne.2 (by omega),beq_iff_eq.2 (by omega)⟩
 rcases(hX▸Lx.quo_err s[a] (s.data.toList.drop (a+1)):X.2.1=0∨X.2.1=50∨X.2.1=51) with he|he|he
 ·by_cases h34:s[a].toNat=34
  ·have hY:Lx.one (s.data.toList.drop a)=(6,X.1,0,X.2.2):=by
    rw[hD]
    simp only[Lx.one,hX,he,h34]
    simp
   rw[hY]
   have b3:((s[a].toNat:Int) == 124)=false:=beq_eq_false_iff_ne.2 (by omega)
   have b4:((s[a].toNat:Int) == 34)=true:=beq_iff_eq.2 (by omega)
   have HE:=Lib.hid he
   clear hY hX he hq hO hD h3 h34 n40 n41 hbq
   go_enter Tryz.func128,Tryz.ntmps128
   go_wp2_with (first
    |(go_at_call 153;refine(HN.out _).mono ?_;rintro e w2 ⟨rfl,rfl⟩)
    |(go_at_call 154;refine(HQ.out _).mono ?_;rintro e w2 q;obtain⟨j,rfl,hj1,hj2,hj3⟩:=q.ok HE.out;obtain⟨z0,y0,y1,y2,f0,f1,f2,hl⟩:=HR.out _ q.below;have HBB:=Lib.hid (HB.out _ q.below);have HJ:=Lib.hid hj3;clear q hj3))
   obtain⟨_,e0,e1,e2⟩:=tok_cells hl.out (.int .i64 6) (.string ⟨X.1.toArray⟩) (.int .i64 (a:Nat))
   exact bodyPost_ret (v:=.tuple #[.agg #[.int .i64 6,.string ⟨X.1.toArray⟩,.int .i64 (a:Nat)],.int .i64 (j:Nat),.int .i64 0,.int .i64 0]) (by simp[results,Tryz.results128,go_sem,e0,e1,e2]) rfl ⟨HBB.out _ _ _,fun _=>⟨_,j,rfl,rfl,hj1,hj2,HJ.out⟩,fun h=>absurd rfl h⟩
  ·have h124:s[a].toNat=124:=by omega
   have b3:((s[a].toNat:Int) == 124)=true:=beq_iff_eq.2 (by omega)
   have b4:((s[a].toNat:Int) == 34)=false:=beq_eq_false_iff_ne.2 (by omega)
   obtain⟨z,hz⟩:∃ z,(X.1.any fun d=>decide (d.toNat=92))=z:=⟨_,rfl⟩
   have hY:Lx.one (s.data.toList.drop a)=if z then(0,[],8,s.data.toList.drop a) else(3,X.1,0,X.2.2):=by
    rw[hD]
    simp only[Lx.one,hX,he,h124,hz]
    simp
   obtain⟨Y,hYd⟩:∃ Y,Y=if z then((0:Int),([]:List UInt8),(8:Int),s.data.toList.drop a) else(3,X.1,0,X.2.2):=⟨_,rfl⟩
   rw[hY,←hYd]
   have hxl:X.1.length≤1000000:=by
    have h5:=Lx.quo_text s[a] (s.data.toList.drop (a+1))
    rw[hX,List.length_drop,len_bytes] at h5
    omega
   have HY:=Lib.hid hYd
   have HE:=Lib.hid he
   have HZ:=Lib.hid hz
   clear hY hX he hq hO hD h3 h34 n40 n41 hbq hz h124 hYd
   go_enter Tryz.func128,Tryz.ntmps128
   go_wp2_with (first
    |(go_at_call 153;refine(HN.out _).mono ?_;rintro e w2 ⟨rfl,rfl⟩)
    |(go_at_call 154;refine(HQ.out _).mono ?_;rintro e w2 q;obtain⟨j,rfl,hj1,hj2,hj3⟩:=q.ok HE.out;obtain⟨z0,y0,y1,y2,f0,f1,f2,hl⟩:=HR.out _ q.below;obtain⟨z0',y0',y1',y2',_,_,_,_⟩:=HR1.out _ q.below;have HBB:=Lib.hid (HB.out _ q.below);have HJ:=Lib.hid hj3;clear q hj3))
   obtain⟨V,hV⟩:∃ V:ByteArray,V=⟨X.1.toArray⟩:=⟨_,rfl⟩
   rw[←hV]
   have HVl:Hid (V.data.toList=X.1):=by show _=_;rw[hV]
   have hVs:V.size≤1000000:=by rw[←len_bytes,HVl.out];exact hxl
   have HVr:=Lib.hid hV
   rw[←HVl.out] at HZ
   clear hV hxl
   go_loopw [16] (fun iv wr=>∃ i:Nat,i≤V.size∧iv=.int .i64 (i:Nat)∧wr=w2∧Hid ((V.data.toList.drop i).any (fun d=>decide (d.toNat=92))=z)) (fun iv _=>V.size-(intOf iv).toNat)
   case atStart=>exact⟨0,by omega,rfl,rfl,HZ⟩
   case round=>
    clear HZ
    obtain⟨i,hi,rfl,rfl,HI⟩:=hrel
    by_cases hlt:i<V.size
    ·have HK:=HI.out
     rw[drop_at V hlt,List.any_cons] at HK
     have hlt':(i:Int)<(V.size:Int):=by omega
     clear HI
     by_cases h92:V[i].toNat=92
     ·have c1:((V[i].toNat:Int) == 92)=true:=beq_iff_eq.2 (by omega)
      obtain rfl:z=true:=by rw[←HK,decide_eq_true h92];rfl
      obtain rfl:=HY.out
      clear HK h92
      go_wp2
      obtain⟨_,e0,e1,e2⟩:=tok_cells hl.out (.int .i64 0) (.string ⟨#[]⟩) (.int .i64 0)
      exact bodyPost_ret (v:=.tuple #[.agg #[.int .i64 0,.string ⟨#[]⟩,.int .i64 0],.int .i64 0,.int .i64 8,.int .i64 (a:Nat)]) (by simp[results,Tryz.results128,go_sem,e0,e1,e2]) rfl ⟨HBB.out _ _ _,fun h=>absurd h (by simp),fun _=>⟨a,rfl,by omega,ha,rfl⟩⟩
     ·have c1:((V[i].toNat:Int) == 92)=false:=beq_eq_false_iff_ne.2 (by omega)
      have HE2:Hid ((V.data.toList.drop (i+1)).any (fun d=>decide (d.toNat=92))=z):=Lib.hid (by rw[decide_eq_false h92] at HK;simpa using HK)
      clear HK h92
      go_wp2
      go_roundw
      case rel=>exact⟨i+1,by omega,by go_num,by trivial,HE2⟩
      case measure=>simp[intOf];omega
    ·obtain rfl:i=V.size:=by omega
     obtain rfl:z=false:=by have:=HI.out;rw[drop_end] at this;exact this.symm
     obtain rfl:=HY.out
     clear HI
     go_wp2
     obtain⟨_,e0,e1,e2⟩:=tok_cells hl.out (.int .i64 3) (.string V) (.int .i64 (a:Nat))
     exact bodyPost_ret (v:=.tuple #[.agg #[.int .i64 3,.string V,.int .i64 (a:Nat)],.int .i64 (j:Nat),.int .i64 0,.int .i64 0]) (by simp[results,Tryz.results128,go_sem,e0,e1,e2]) rfl ⟨HBB.out _ _ _,fun _=>⟨V,j,rfl,HVl.out,hj1,hj2,HJ.out⟩,fun h=>absurd rfl h⟩
 ·have hY:Lx.one (s.data.toList.drop a)=(0,[],50,X.2.2):=by
   rw[hD]
   simp only[Lx.one,n40,n41,hO,hX,he]
   simp
  rw[hY]
  have HE:=Lib.hid he
  clear hY hX he hq hO hD h3 n40 n41
  rcases hbq with b3|⟨b3,b4⟩
  all_goals
   go_enter Tryz.func128,Tryz.ntmps128
   go_wp2_with (first
    |(go_at_call 153;refine(HN.out _).mono ?_;rintro e w2 ⟨rfl,rfl⟩)
    |(go_at_call 154;refine(HQ.out _).mono ?_;rintro e w2 q;obtain⟨j,rfl,hj1,hj2,hj3⟩:=q.bad HE.out;obtain⟨z0,y0,y1,y2,f0,f1,f2,hl⟩:=HR.out _ q.below;obtain⟨z0',y0',y1',y2',_,_,_,_⟩:=HR1.out _ q.below;have HBB:=Lib.hid (HB.out _ q.below);have HJ:=Lib.hid hj3;clear q hj3))
   obtain⟨_,e0,e1,e2⟩:=tok_cells hl.out (.int .i64 0) (.string ⟨#[]⟩) (.int .i64 0)
   exact bodyPost_ret (v:=.tuple #[.agg #[.int .i64 0,.string ⟨#[]⟩,.int .i64 0],.int .i64 0,.int .i64 50,.int .i64 (j:Nat)]) (by simp[results,Tryz.results128,go_sem,e0,e1,e2]) rfl ⟨HBB.out _ _ _,fun h=>absurd h (by simp),fun _=>⟨j,rfl,by omega,hj2,HJ.out⟩⟩
 ·have hY:Lx.one (s.data.toList.drop a)=(0,[],51,s.data.toList.drop a):=by
   rw[hD]
   simp only[Lx.one,n40,n41,hO,hX,he]
   simp
  rw[hY]
  have HE:=Lib.hid he
  clear hY hX he hq hO hD h3 n40 n41
  rcases hbq with b3|⟨b3,b4⟩
  all_goals
   go_enter Tryz.func128,Tryz.ntmps128
   go_wp2_with (first
    |(go_at_call 153;refine(HN.out _).mono ?_;rintro e w2 ⟨rfl,rfl⟩)
    |(go_at_call 154;refine(HQ.out _).mono ?_;rintro e w2 q;obtain rfl:=q.open_ HE.out;obtain⟨z0,y0,y1,y2,f0,f1,f2,hl⟩:=HR.out _ q.below;obtain⟨z0',y0',y1',y2',_,_,_,_⟩:=HR1.out _ q.below;have HBB:=Lib.hid (HB.out _ q.below);clear q))
   obtain⟨_,e0,e1,e2⟩:=tok_cells hl.out (.int .i64 0) (.string ⟨#[]⟩) (.int .i64 0)
   exact bodyPost_ret (v:=.tuple #[.agg #[.int .i64 0,.string ⟨#[]⟩,.int .i64 0],.int .i64 0,.int .i64 51,.int .i64 (a:Nat)]) (by simp[results,Tryz.results128,go_sem,e0,e1,e2]) rfl ⟨HBB.out _ _ _,fun h=>absurd h (by simp),fun _=>⟨a,rfl,by omega,ha,rfl⟩⟩
theorem rone (s:ByteArray) (a:Nat) (w:World) (hs:s.size≤1000000) (ha:a<s.size):
  Calls Tryz.prog 128 #[.string s,.int .i64 (a:Nat)] w (OSaid s a (Lx.one (s.data.toList.drop a)) w):=by
 by_cases h1:s[a].toNat=40∨s[a].toNat=41
 ·exact rone_open s a w hs ha h1
 by_cases h2:s[a].toNat=34∨s[a].toNat=124
 ·exact rone_quotes s a w hs ha h2
 exact rone_names s a w hs ha (by omega) (by omega) (by omega) (by omega)
abbrev MTok:=Int×ByteArray×Nat
abbrev tcells (x:MTok):List Value:=[.int .i64 x.1,.string x.2.1,.int .i64 (x.2.2:Nat)]
abbrev tksOf (l:List MTok):List Value:=l.flatMap tcells
theorem infoT:(Tryz.prog.info? 24).map (fun i=>(i.zero,i.size,i.bytes))=some (some (.agg #[.int .i64 0,.string ByteArray.empty,.int .i64 0]),3,32):=by kernel_rfl
def OwnL (w:World) (B:Nat) (A:Option Addr) (c:Nat) (l:List MTok):Prop:=w.ownsRow B 24 3 (.slice A l.length c) l.length (tksOf l)
theorem OwnL.nil (w:World) (B:Nat):OwnL w B none 0 []:=World.ownsRow_nil _ _ _ _
theorem cell_three_new (w:World) (x y z:Value) (t:TypeId):∀ j u,[x,y,z][j]?=some u→(w.alloc (.cells #[x,y,z] t)).cell? ((⟨w.heap.size,0,none⟩:Addr).add j)=some u:=by
 intro j u hu
 have l:=Lies.new w t #[x,y,z]
 rw[addr_add,Nat.zero_add,l.cell j,←hu]
 simp
theorem appendL (w:World) {ops:Array Oper} {rest:List Oper} {o:Oper} {a:Act} {Q:Exit→Act→World→Prop} (hgd:o.guard=none) (s x:Operand)
  (ho:o.op=.call { callee:=.builtin .append,args:=#[s,x],argTypes:=#[114,114] }) (B:Nat) (A:Option Addr) (c:Nat) (l:List MTok) (n:Nat) (hn:l.length=n) (d:MTok) (g:Nat) (hg:w.heap.size=g)
  (hs:a.eval s=.slice A n c) (hown:OwnL w B A c l) (hx:a.eval x=.slice (some ⟨g,0,none⟩) 1 1) (hl:n≤1000000) (hB:B≤w.heap.size)
  (h:∀ A' c' w',OwnL w' B A' c' (l++[d])→w.grownBy w' (Value.slice A n c).ownBlock→wpList Tryz.prog ops Q rest (a.put o.dst (.slice A' (n+1) c')) w'):
  wpList Tryz.prog ops Q (o::rest) a (w.alloc (.cells #[.int .i64 d.1,.string d.2.1,.int .i64 (d.2.2:Nat)] 24)):=by
 subst hn
 subst hg
 obtain⟨i0,hi,hz0,hz1,hz2⟩:=info_parts infoT
 refine wpList_append_own_at _ hgd s x 114 ho B 24 i0 (.agg #[.int .i64 0,.string ByteArray.empty,.int .i64 0]) 3 32 Tryz.underlying114 hi hz0 hz1 hz2 rfl (by decide) _ l.length (tksOf l) hs (World.ownsRow.alloc hown _) ⟨w.heap.size,0,none⟩ 1 1 (tcells d) hx rfl (cell_three_new _ _ _ _ _) (fun u hu=>by simp at hu;rcases hu with rfl|rfl|rfl <;> rfl) (by unfold maxLen;omega) (by omega) (by simp;omega) ?_
 intro v' w' q1 q2 _ _
 obtain⟨A',c',rfl⟩:=own_form q1
 refine h A' c' w' ?_ ?_
 ·unfold OwnL
  have e:tksOf l++tcells d=tksOf (l++[d]):=by simp[tksOf]
  rw[e] at q1
  rw[List.length_append]
  exact q1
 ·exact⟨q2.os,q2.tape,q2.output,Nat.le_trans (by simp) q2.size,fun k hk hne=>(q2.block k (by simp;omega) hne).trans (Below.heap_alloc w _ k hk)⟩
def pureTok (s:ByteArray) (x:MTok):Lx.Tok:=(x.1,x.2.1.data.toList,s.size-x.2.2)
structure LSaid (s:ByteArray) (w:World) (A:Option Addr) (c:Nat) (l:List MTok) (E:Int) (p:Nat) (w':World):Prop where
 own:OwnL w' w.heap.size A c l
 below:Below w.heap.size w w'
 at_:∀ x∈l,x.2.2≤s.size
 le:p≤s.size
 few:l.length≤4000
 long:16384<s.size→l=[]∧E=2∧p=0
 toks:s.size≤16384→l.map (pureTok s)=(Lx.lex 4000 s.data.toList).1∧E=(Lx.lex 4000 s.data.toList).2.1∧s.data.toList.drop p=(Lx.lex 4000 s.data.toList).2.2
theorem start_k (s:ByteArray) (a:Nat) (hs:s.size≤1000000) (ha:a≤s.size):∃ k:Nat,a≤k∧k≤s.size∧s.data.toList.drop k=Lx.skip false (s.data.toList.drop a)∧
  ∀ w,Calls Tryz.prog 126 #[.string s,.int .i64 (a:Nat)] w fun e w'=>e=.returned (.int .i64 (k:Nat))∧w'=w:=by
 obtain⟨p,hp⟩:=Lx.skip_end (s.data.toList.drop a) false
 have hl:=congrArg List.length hp
 rw[List.length_append,List.length_drop,len_bytes] at hl
 have hk:s.data.toList.drop (a+p.length)=Lx.skip false (s.data.toList.drop a):=by
  rw[←List.drop_drop]
  have:=congrArg (List.drop p.length) hp
  rw[List.drop_left] at this
  exact this
 refine⟨a+p.length,by omega,by omega,hk,fun w=>?_⟩
 refine(rstart s a w (by unfold maxLen;omega) ha).mono ?_
 rintro e w' ⟨k',rfl,rfl,h1,h2,h3⟩
 obtain rfl:=drop_inj s h2 (by omega) (h3.trans hk.symm)
 exact⟨rfl,rfl⟩
theorem OwnL.kept {w w':World} {B:Nat} {A:Option Addr} {c:Nat} {l:List MTok} (h:OwnL w B A c l) (hb:Below w.heap.size w w'):OwnL w' B A c l:=
 (Turn.of_below (F:=fun _=>False) hb).own h (fun _ _=>id)
theorem rlex (s:ByteArray) (w:World) (hs:s.size≤4000000):
  Calls Tryz.prog 90 #[.string s] w fun e w'=>∃ A c l E p,e=.returned (.tuple #[.slice A l.length c,.int .i64 E,.int .i64 (p:Nat)])∧LSaid s w A c l E p w':=by
 by_cases hlong:16384<s.size
 ·have hl':(16384:Int)<(s.size:Int):=by omega
  go_enter Tryz.func90,Tryz.ntmps90
  go_wp2
  go_ret3
  exact⟨none,0,[],2,0,rfl,⟨OwnL.nil _ _,Below.refl _ _,fun x hx=>absurd hx List.not_mem_nil,Nat.zero_le _,by simp,fun _=>⟨rfl,rfl,rfl⟩,fun h=>absurd h (by omega)⟩⟩
 ·have hl':¬(16384:Int)<(s.size:Int):=by omega
  replace hs:s.size≤1000000:=by omega
  obtain⟨X,HX⟩:∃ X,Hid (Lx.lex 4000 s.data.toList=X):=⟨_,rfl⟩
  have HX0:=Lib.hid HX.out
  go_enter Tryz.func90,Tryz.ntmps90
  go_wp2
  go_loopw [5,6] (fun ov iv wr=>∃ (i m:Nat) (A:Option Addr) (c:Nat) (l:List MTok),i≤s.size∧m≤4000∧iv=.int .i64 (i:Nat)∧ov=.slice A m c∧Below w.heap.size w wr∧
   Hid (OwnL wr w.heap.size A c l∧l.length=m∧(∀ x∈l,x.2.2≤s.size)∧X=(l.map (pureTok s)++(Lx.lex (4000-m) (s.data.toList.drop i)).1,(Lx.lex (4000-m) (s.data.toList.drop i)).2))) (fun _ iv _=>s.size-(intOf iv).toNat)
  case atStart=>exact⟨0,0,none,0,[],Nat.zero_le _,Nat.zero_le _,rfl,rfl,by first|exact Below.refl _ _|assumption,⟨OwnL.nil _ _,rfl,fun x hx=>absurd hx List.not_mem_nil,by rw[←HX.out,List.drop_zero];rfl⟩⟩
  case round=>
   clear HX
   obtain⟨i,m,A,c,l,hi,hm,rfl,rfl,hb,HI⟩:=hrel
   obtain⟨ho,hlm,hat,hX⟩:=HI.out
   clear HI
   obtain⟨k,hk1,hk2,hk3,HS⟩:=start_k s i hs hi
   replace HS:=Lib.hid HS
   have HB:=Lib.hid hb
   have HO:=Lib.hid ho
   have HL:=Lib.hid hlm
   have HT:=Lib.hid hat
   have hfew:Hid (l.length≤4000):=(by show _≤_;omega)
   have hnl:¬16384<s.size:=hlong
   have end_:∀ (E:Int) (p:Nat),p≤s.size→X=(l.map (pureTok s),E,s.data.toList.drop p)→Hid (∀ w',Below wr.heap.size wr w'→LSaid s w A c l E p w'):=fun E p hp hx=>Lib.hid fun w' b'=>
    ⟨HO.out.kept b',HB.out.trans (b'.mono HB.out.size),HT.out,hp,hfew.out,fun h=>absurd h hnl,fun _=>by rw[HX0.out,hx];exact⟨rfl,rfl,rfl⟩⟩
   have HEnd:=Lib.hid end_
   by_cases hks:k=s.size
   ·subst hks
    rw[drop_end] at hk3
    rw[Lx.lex_nil _ hk3.symm] at hX
    have HZ:=Lib.hid (HEnd.out 0 s.size (Nat.le_refl _) (by rw[hX,drop_end];simp))
    clear hX hk3 hb ho hlm hat end_ HEnd
    go_wp2_with (go_at_call 126;refine(HS.out _).mono ?_;rintro e w1 ⟨rfl,rfl⟩)
    go_ret3
    exact⟨A,c,l,0,s.size,by rw[HL.out];rfl,HZ.out.out _ (Below.refl _ _)⟩
   have hklt:k<s.size:=by omega
   have hkb:((k:Int) == (s.size:Int))=false:=beq_eq_false_iff_ne.2 (by omega)
   have hklt':(k:Int)<(s.size:Int):=by omega
   have hDk:=drop_at s hklt
   have hsk:Lx.skip false (s.data.toList.drop i)=s[k]::s.data.toList.drop (k+1):=by rw[←hk3,hDk]
   have HG:=Lib.hid fun W=>rgood s[k] W
   obtain⟨g,hg⟩:∃ g,Lx.good s[k]=g:=⟨_,rfl⟩
   rw[hg] at HG
   cases g with
   |false=>
    rw[Lx.lex_bad _ hsk hg] at hX
    have HZ:=Lib.hid (HEnd.out 50 k hk2 (by rw[hX,hDk];simp))
    clear hX hk3 hb ho hlm hat end_ HEnd hsk hDk hg hks
    go_wp2_with (first|(go_at_call 126;refine(HS.out _).mono ?_;rintro e w1 ⟨rfl,rfl⟩)|(go_at_call 127;refine(HG.out _).mono ?_;rintro e w1 ⟨rfl,rfl⟩))
    go_ret3
    exact⟨A,c,l,50,k,by rw[HL.out];rfl,HZ.out.out _ (Below.refl _ _)⟩
   |true=>
    by_cases hm4:m=4000
    ·subst hm4
     rw[Nat.sub_self,Lx.lex_zero hsk hg] at hX
     have HZ:=Lib.hid (HEnd.out 2 k hk2 (by rw[hX,hDk];simp))
     clear hX hk3 hb ho hlm hat end_ HEnd hsk hDk hg hks
     go_wp2_with (first|(go_at_call 126;refine(HS.out _).mono ?_;rintro e w1 ⟨rfl,rfl⟩)|(go_at_call 127;refine(HG.out _).mono ?_;rintro e w1 ⟨rfl,rfl⟩))
     go_ret3
     exact⟨A,c,l,2,k,by rw[HL.out];rfl,HZ.out.out _ (Below.refl _ _)⟩
    ·obtain⟨r,hr⟩:∃ r,4000-m=r+1:=⟨4000-m-1,by omega⟩
     have hr2:4000-(m+1)=r:=by omega
     have hmb:((m:Int) == 4000)=false:=beq_eq_false_iff_ne.2 (by omega)
     rw[hr] at hX
     have H1:=Lib.hid fun W=>rone s k W hs hklt
     obtain⟨Y,hY⟩:∃ Y,Lx.one (s.data.toList.drop k)=Y:=⟨_,rfl⟩
     rw[hY] at H1
     rw[hDk] at hY
     by_cases he:Y.2.2.1=0
     ·rw[Lx.lex_ok r hsk hg (by rw[hY];exact he),hY] at hX
      have HE:=Lib.hid he
      have hm3:m+1≤4000:=by omega
      have HOn:Hid (∀ w2,Below wr.heap.size wr w2→∀ o,OwnL (w2.alloc o) w.heap.size A c l∧Below w.heap.size w w2∧w.heap.size≤w2.heap.size):=fun w2 b2 o=>⟨HO.out.kept (b2.alloc b2.size o),HB.out.trans (b2.mono HB.out.size),Nat.le_trans HB.out.size b2.size⟩
      have HXn:Hid (∀ (T:ByteArray) (b:Nat),T.data.toList=Y.2.1→s.data.toList.drop b=Y.2.2.2→X=((l++[(Y.1,T,k)]).map (pureTok s)++(Lx.lex (4000-(m+1)) (s.data.toList.drop b)).1,(Lx.lex (4000-(m+1)) (s.data.toList.drop b)).2)):=fun T b e1 e2=>by
       rw[hX,e2,hr2,List.map_append]
       have:(s[k]::s.data.toList.drop (k+1)).length=s.size-k:=by rw[←hDk,List.length_drop,len_bytes]
       simp only[List.map_cons,List.map_nil,pureTok,e1,this,List.append_assoc,List.cons_append,List.nil_append]
      have HO2:Hid (∀ w2 w3 o1 o2,Below w.heap.size w w2→w.heap.size≤w2.heap.size→((w2.alloc o1).grownBy w3 (Value.slice A m c).ownBlock)→(Value.slice A m c).ownBlock=o2→Below w.heap.size w w3):=fun w2 w3 o1 o2 b2 z2 g3 _=>
       (b2.alloc z2 o1).grown g3 (Nat.le_trans z2 (by simp)) (fun q hq=>(HO.out.lt q (by rw[HL.out];exact hq)).1)
      clear hX hk3 hb ho hlm hat end_ HEnd hsk hDk hg hks hY he hr hr2 hm4
      go_wp2_with (first
       |(go_at_call 126;refine(HS.out _).mono ?_;rintro e w1 ⟨rfl,rfl⟩)
       |(go_at_call 127;refine(HG.out _).mono ?_;rintro e w1 ⟨rfl,rfl⟩)
       |(go_at_call 128;refine(H1.out _).mono ?_;rintro e w2 q;obtain⟨T,b,rfl,hT,hb1,hb2,hb3⟩:=q.ok HE.out;have QT:=Lib.hid hT;have QB:=Lib.hid hb3;have QW:=Lib.hid q.below;clear q hT hb3)
       |(at_builtin;refine appendL _ rfl (.tmp 48) (.tmp 50) rfl w.heap.size A c l m HL.out (Y.1,T,k) _ (by simp) rfl (HOn.out _ QW.out _).1 rfl (by omega) (Nat.le_trans (HOn.out _ QW.out (.cells #[] 0)).2.2 (by simp)) ?_;intro A3 c3 w3 o3 g3;have O3:=Lib.hid o3;have B3:=Lib.hid (HO2.out _ _ _ _ (HOn.out _ QW.out (.cells #[] 0)).2.1 (HOn.out _ QW.out (.cells #[] 0)).2.2 g3 rfl);clear o3 g3))
      go_roundw
      case rel=>exact⟨b,m+1,A3,c3,l++[(Y.1,T,k)],hb2,hm3,rfl,rfl,B3.out,⟨O3.out,by rw[List.length_append,HL.out];rfl,fun x hx=>(by rcases List.mem_append.1 hx with h|h;exact HT.out x h;rw[List.mem_singleton.1 h];exact hk2),HXn.out T b QT.out QB.out⟩⟩
      case measure=>simp[intOf];omega
     ·rw[Lx.lex_err r hsk hg (by rw[hY];exact he),hY] at hX
      have HE:=Lib.hid he
      have HZ:Hid (∀ p:Nat,p<s.size→s.data.toList.drop p=Y.2.2.2→∀ w',Below wr.heap.size wr w'→LSaid s w A c l Y.2.2.1 p w'):=fun p hp e2 w' b'=>
       (HEnd.out Y.2.2.1 p (by omega) (by rw[hX,e2];simp)).out w' b'
      obtain⟨E,hE⟩:∃ E,Y.2.2.1=E:=⟨_,rfl⟩
      have hEb:(E == 0)=false:=by rw[←hE];exact beq_eq_false_iff_ne.2 he
      have hEn:(E != 0)=true:=by rw[bne,hEb];rfl
      have HEq:=Lib.hid hE
      clear hX hk3 hb ho hlm hat end_ HEnd hsk hDk hg hks hY he hr hr2 hm4 hE
      go_wp2_with (first
       |(go_at_call 126;refine(HS.out _).mono ?_;rintro e w1 ⟨rfl,rfl⟩)
       |(go_at_call 127;refine(HG.out _).mono ?_;rintro e w1 ⟨rfl,rfl⟩)
       |(go_at_call 128;refine(H1.out _).mono ?_;rintro e w2 q;obtain⟨p,rfl,hp1,hp2,hp3⟩:=q.bad HE.out;rw[HEq.out];have QB:=Lib.hid hp3;have QW:=Lib.hid q.below;clear q hp3))
      go_ret3
      exact⟨A,c,l,Y.2.2.1,p,by rw[HL.out,HEq.out];rfl,HZ.out p hp2 QB.out _ (QW.out.alloc QW.out.size _)⟩
abbrev ITok:=Int×ByteArray×Int
structure TokS (w:World) (A:Option Addr) (n:Nat) (l:List ITok):Prop where
 len:l.length=n
 at_:0<n→∃ b off,A=some ⟨b,off,none⟩∧b<w.heap.size∧∀ (i:Nat) (x:ITok),l[i]?=some x→w.cell? ⟨b,off+i*3,none⟩=some (.int .i64 x.1)∧w.cell? ⟨b,off+i*3+1,none⟩=some (.string x.2.1)∧w.cell? ⟨b,off+i*3+2,none⟩=some (.int .i64 x.2.2)
theorem TokS.below {w w':World} {A:Option Addr} {n:Nat} {l:List ITok} (h:TokS w A n l) (hb:Below w.heap.size w w'):TokS w' A n l:=
 ⟨h.len,fun hn=>by
  obtain⟨b,off,e,hlt,hc⟩:=h.at_ hn
  exact⟨b,off,e,Nat.lt_of_lt_of_le hlt hb.size,fun i x hx=>⟨(hb.cell (p:=⟨b,off+i*3,none⟩) hlt).trans (hc i x hx).1,(hb.cell (p:=⟨b,off+i*3+1,none⟩) hlt).trans (hc i x hx).2.1,(hb.cell (p:=⟨b,off+i*3+2,none⟩) hlt).trans (hc i x hx).2.2⟩⟩⟩
theorem TokS.get {w:World} {A:Option Addr} {n i:Nat} {l:List ITok} (h:TokS w A n l) (hi:i<n):
  ∃ b off x,A=some ⟨b,off,none⟩∧l[i]?=some x∧l.drop i=x::l.drop (i+1)∧∀ W,Below w.heap.size w W→b<W.heap.size∧W.cell? ⟨b,off+i*3,none⟩=some (.int .i64 x.1)∧W.cell? ⟨b,off+i*3+1,none⟩=some (.string x.2.1)∧W.cell? ⟨b,off+i*3+2,none⟩=some (.int .i64 x.2.2):=by
 obtain⟨b,off,e,hlt,hc⟩:=h.at_ (by omega)
 have hi':i<l.length:=by rw[h.len];exact hi
 refine⟨b,off,l[i],e,List.getElem?_eq_getElem hi',List.drop_eq_getElem_cons hi',fun W hW=>?_⟩
 have:=(hc i _ (List.getElem?_eq_getElem hi'))
 exact⟨Nat.lt_of_lt_of_le hlt hW.size,(hW.cell (p:=⟨b,off+i*3,none⟩) hlt).trans this.1,(hW.cell (p:=⟨b,off+i*3+1,none⟩) hlt).trans this.2.1,(hW.cell (p:=⟨b,off+i*3+2,none⟩) hlt).trans this.2.2⟩
def toI (x:MTok):ITok:=(x.1,x.2.1,(x.2.2:Int))
theorem tks_get:∀ (l:List MTok) (i:Nat) (x:MTok),l[i]?=some x→(tksOf l)[i*3]?=some (.int .i64 x.1)∧(tksOf l)[i*3+1]?=some (.string x.2.1)∧(tksOf l)[i*3+2]?=some (.int .i64 (x.2.2:Nat))
 |[],i,x,h=>by simp at h
 |y::l,0,x,h=>by
  obtain rfl:y=x:=by simpa using h
  simp[tksOf]
 |y::l,i+1,x,h=>by
  obtain⟨h1,h2,h3⟩:=tks_get l i x (by simpa using h)
  have e:∀ j,(tksOf (y::l))[(i+1)*3+j]?=(tksOf l)[i*3+j]?:=fun j=>by
   rw[tksOf,List.flatMap_cons,show(i+1)*3+j=(tcells y).length+(i*3+j) by simp;omega,List.getElem?_append_right (by omega),Nat.add_sub_cancel_left]
  exact⟨(e 0).trans h1,(e 1).trans h2,(e 2).trans h3⟩
theorem OwnL.toks {w:World} {B:Nat} {A:Option Addr} {c:Nat} {l:List MTok} (h:OwnL w B A c l):TokS w A l.length (l.map toI):=by
 refine⟨by rw[List.length_map],fun hn=>?_⟩
 rcases h.2 with⟨_,h0⟩|⟨g,cap,cur,e,_,hg,_⟩
 ·omega
 ·injection e with e1 e2 e3
  subst e1
  refine⟨g,0,rfl,(Array.getElem?_eq_some_iff.1 hg).1,fun i x hx=>?_⟩
  rw[List.getElem?_map] at hx
  obtain⟨y,hy,rfl⟩:=Option.map_eq_some_iff.1 hx
  obtain⟨q1,q2,q3⟩:=tks_get l i y hy
  have r:=fun j u (hu:(tksOf l)[j]?=some u)=>h.cells (g:=g) rfl j u hu
  have a:∀ j,(⟨g,0,none⟩:Addr).add j=⟨g,0+j,none⟩:=fun j=>addr_add g 0 j
  have r1:=r _ _ q1
  have r2:=r _ _ q2
  have r3:=r _ _ q3
  rw[a] at r1 r2 r3
  exact⟨r1,by rw[Nat.add_assoc];exact r2,by rw[Nat.add_assoc];exact r3⟩
end Go.Proofs.YtcgaeknikfaghaaGreatDoor
