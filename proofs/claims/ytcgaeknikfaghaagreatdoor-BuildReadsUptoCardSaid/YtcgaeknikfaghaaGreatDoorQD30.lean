/- What the proofs of this claim use, text by text. -/
import Derived.Test.YtcgaeknikfaghaaGreatDoorQD22
import Derived.Test.YtcgaeknikfaghaaGreatDoorQD29
import Derived.Test.YtcgaeknikfaghaaGreatDoorQD27
import Derived.Lib.Replace
import Derived.BigQuiet
set_option linter.unusedSimpArgs false
set_option linter.unusedVariables false
set_option maxRecDepth 100000
set_option maxHeartbeats 25600000
namespace Go.Proofs.YtcgaeknikfaghaaGreatDoor
theorem Reads.says {z:Int} {l:List ITok} {M:List Sx} (h:Reads l M):Sx.deeps M≤64→Says z l (M.map fun X=>⟨X,0,X.at_⟩):=by
 induction h with
 |nil=>intro _;exact .nil
 |atom t l L h1 h2 _ ih=>
  intro hd
  rw[Sx.deeps] at hd
  exact .atom t l _ h1 h2 (ih (by omega))
 |list o c m l M L h1 h2 h3 _ _ i2=>
  intro hd
  rw[Sx.deeps,Sx.deep_list (x:=Sx.node o.2.2 M) rfl] at hd
  change max (Sx.deeps M+1) (Sx.deeps L)≤64 at hd
  exact .list o c m l M _ h1 h2 h3 (by omega) (i2 (by omega))
theorem Sx.back {x:Sx} {V:ByteArray} {R:List SItem} (hd:¬64<Sx.dep 65 x) (hp:x.text=some V.data.toList) (hz:x.size≤2000) (hV:V.size≤16384) (h:ReadOf V R):
  ∃ X a,R=[⟨X,0,a⟩]∧X.key false=x.key false:=by
 obtain⟨l,E,p,I,h1,h2,rfl⟩:=h
 rw[Sx.dep_deep] at hd
 obtain⟨T,t1,t2,t3⟩:=Sx.lexed x.size x _ [] (Nat.le_refl _) hp (.inl rfl)
 simp only[Sx.sizes] at t1
 obtain⟨Q,q1,q2⟩:=t2 (4000-T.length)
 rw[Lx.lex_nil (l:=[]) (4000-T.length) rfl,show 4000-T.length+T.length=4000 by omega,List.append_nil,List.append_nil] at q2
 obtain⟨e1,e2,_⟩:=h1.toks hV
 rw[q2] at e1 e2
 have e1':l.map (pureTok V)=Q:=e1
 have hm:(l.map toI).map iSays=T:=by
  rw[←q1,←e1',List.map_map,List.map_map]
  rfl
 obtain⟨M,m1,m2,m3⟩:=t3 _ hm
 have hM:Sx.deeps M≤64:=by
  rw[m3]
  simp only[Sx.deeps]
  omega
 rw[Says.uniq _ _ _ _ (Nat.le_refl _) h2 (m1.says hM)]
 have hl:M.length=1:=by have:=congrArg List.length m2;simpa using this
 match M,hl,m2 with
 |[X],_,m2=>
  refine⟨X,X.at_,?_,by simpa using m2⟩
  have hE:E=0:=e2
  unfold readOf
  rw[if_pos hE]
  rfl
end Go.Proofs.YtcgaeknikfaghaaGreatDoor
namespace Go.Proofs.YtcgaeknikfaghaaGreatDoor
inductive Sx.Plain:Sx→Prop
 |atom (k:Int) (T:ByteArray) (ta a:Int):Sx.Plain ⟨false,k,T,ta,a,[]⟩
 |node (a:Int) (L:List Sx):(∀ y∈L,Sx.Plain y)→Sx.Plain ⟨true,0,ByteArray.empty,0,a,L⟩
theorem Reads.plain {l:List ITok} {M:List Sx} (h:Reads l M):∀ y∈M,Sx.Plain y:=by
 induction h with
 |nil=>exact fun _ hy=>(List.not_mem_nil hy).elim
 |atom t l L h1 h2 _ ih=>
  intro y hy
  rcases List.mem_cons.1 hy with rfl|hy
  ·exact .atom _ _ _ _
  ·exact ih y hy
 |list o c m l M L h1 h2 _ _ i1 i2=>
  intro y hy
  rcases List.mem_cons.1 hy with rfl|hy
  ·exact .node _ _ i1
  ·exact i2 y hy
theorem Says.plain {z:Int} {l:List ITok} {I:List SItem} (h:Says z l I):∀ i∈I,Sx.Plain i.X:=by
 have hz:Sx.Plain Sx.zero:=.atom _ _ _ _
 induction h with
 |nil=>exact fun _ hy=>(List.not_mem_nil hy).elim
 |close t l I h1 _ ih=>
  intro i hi
  rcases List.mem_cons.1 hi with rfl|hi
  ·exact hz
  ·exact ih i hi
 |atom t l I h1 h2 _ ih=>
  intro i hi
  rcases List.mem_cons.1 hi with rfl|hi
  ·exact .atom _ _ _ _
  ·exact ih i hi
 |deep o c m l M I h1 h2 h3 h4 _ ih=>
  intro i hi
  rcases List.mem_cons.1 hi with rfl|hi
  ·exact hz
  ·exact ih i hi
 |list o c m l M I h1 h2 h3 h4 _ ih=>
  intro i hi
  rcases List.mem_cons.1 hi with rfl|hi
  ·exact .node _ _ h3.plain
  ·exact ih i hi
 |_=>
  intro i hi
  rw[List.mem_singleton.1 hi]
  exact hz
theorem ReadOf.plain {s:ByteArray} {R:List SItem} (h:ReadOf s R):∀ i∈R,Sx.Plain i.X:=by
 obtain⟨l,E,p,I,_,h2,rfl⟩:=h
 have h3:=h2.plain
 intro i hi
 unfold readOf at hi
 split at hi
 ·exact h3 i hi
 ·rcases List.mem_append.1 hi with hi|hi
  ·unfold cutEnd at hi
   split at hi
   ·exact h3 i ((List.dropLast_sublist I).subset hi)
   ·exact h3 i hi
  ·rw[List.mem_singleton.1 hi]
   exact .atom _ _ _ _
theorem Sx.Plain.fits:∀ (n:Nat) (X x:Sx),X.size≤n→Sx.Plain X→X.key false=x.key false→X.size≤x.size∧(Sx.Fine x→Sx.Fine X)
 |0,X,_,h,_,_=>absurd h (by have:=X.size_pos;omega)
 |n+1,X,x,h,hp,hk=>by
  cases hp with
  |atom k T ta a=>
   refine⟨by rw[Sx.size_eq,Sx.size_eq];simp[Sx.sizes],fun hf=> .mk _ ?_ (Nat.zero_le _) fun _ hy=>(List.not_mem_nil hy).elim⟩
   rcases Bd.key_cases hk with⟨h1,_⟩|⟨_,_,_,h4⟩
   ·cases h1
   ·have:=hf.T
    rw[←h4] at this
    exact this
  |node a L hL=>
   rcases Bd.key_cases hk with⟨_,_,h3⟩|⟨h1,_⟩
   ·simp only at h3
    have hlen:L.length=x.L.length:=by simpa using congrArg List.length h3
    have hpair:∀ (M N:List Sx),(∀ y∈M,Sx.Plain y∧y.size≤n)→M.map (Sx.key false)=N.map (Sx.key false)→Sx.sizes M≤Sx.sizes N∧((∀ y∈N,Sx.Fine y)→∀ y∈M,Sx.Fine y):=fun M=>by
     induction M with
     |nil=>exact fun N _ _=>⟨Nat.zero_le _,fun _ _ hy=>(List.not_mem_nil hy).elim⟩
     |cons y M ih=>
      intro N hM hk
      cases N with
      |nil=>simp at hk
      |cons z N=>
       rw[List.map_cons,List.map_cons] at hk
       injection hk with k1 k2
       obtain⟨p1,p2⟩:=hM y List.mem_cons_self
       obtain⟨q1,q2⟩:=Sx.Plain.fits n y z p2 p1 k1
       obtain⟨r1,r2⟩:=ih N (fun w hw=>hM w (List.mem_cons_of_mem _ hw)) k2
       refine⟨by rw[Sx.sizes,Sx.sizes];omega,fun hf w hw=>?_⟩
       rcases List.mem_cons.1 hw with rfl|hw
       ·exact q2 (hf z List.mem_cons_self)
       ·exact r2 (fun v hv=>hf v (List.mem_cons_of_mem _ hv)) w hw
    obtain⟨s1,s2⟩:=hpair L x.L (fun y hy=>⟨hL y hy,by have:=Sx.size_lt (x:=⟨true,0,ByteArray.empty,0,a,L⟩) hy;omega⟩) h3
    refine⟨by rw[Sx.size_eq,Sx.size_eq x];simp only;omega,fun hf=> .mk _ (show ByteArray.empty.size≤1048576 by decide) (by have:=hf.len;simp only;omega) (s2 hf.all)⟩
   ·cases h1
end Go.Proofs.YtcgaeknikfaghaaGreatDoor
namespace Go.Proofs.YtcgaeknikfaghaaGreatDoor
open Go.RowKit Go.Shelf
structure PSaid (s:ByteArray) (x:Int×List UInt8×Int×List UInt8) (w:World) (e:Ending) (w':World):Prop where
 below:Below w.heap.size w w'
 ok:x.2.2.1=0→∃ (T:ByteArray) (b:Nat),e=.returned (piece x.1 T (b:Nat) 0)∧T.data.toList=x.2.1∧0<b∧b≤s.size∧s.data.toList.drop b=x.2.2.2
 bad:x.2.2.1≠0→∃ p:Nat,e=.returned (piece 0 ⟨#[]⟩ (p:Nat) x.2.2.1)∧p<s.size∧s.data.toList.drop p=x.2.2.2
theorem PSaid.at_start {s:ByteArray} {E:Int} {w w':World} (hb:Below w.heap.size w w') (hE:E≠0) (h0:0<s.size):PSaid s (0,[],E,s.data.toList) w (.returned (piece 0 ⟨#[]⟩ 0 E)) w':=
 ⟨hb,fun h=>absurd h hE,fun _=>⟨0,rfl,h0,rfl⟩⟩
theorem pc_store (w:World) {w4:World} (b4:Below (w.alloc (.cells ZP 158)).heap.size (w.alloc (.cells ZP 158)) w4):
  w.heap.size<w4.heap.size∧w4.cell? ⟨w.heap.size,0,none⟩=some (.int .i64 0)∧w4.cell? ⟨w.heap.size,1,none⟩=some (.string ⟨#[]⟩)∧w4.cell? ⟨w.heap.size,2,none⟩=some (.int .i64 0)∧w4.cell? ⟨w.heap.size,3,none⟩=some (.int .i64 0)∧
  w4.frozen? ⟨w.heap.size,0,none⟩=false∧w4.frozen? ⟨w.heap.size,1,none⟩=false∧w4.frozen? ⟨w.heap.size,2,none⟩=false∧w4.frozen? ⟨w.heap.size,3,none⟩=false∧Hid (Lies w4 w.heap.size 158 ZP)∧Hid (∀ x y z u,Below w.heap.size w (set4 w4 w.heap.size x y z u)):=by
 obtain⟨a0,a1,a2,a3,a4,a5,a6,a7,a8,a9⟩:=pc_room b4 (Lies.new w 158 ZP)
 exact⟨a0,a1,a2,a3,a4,a5,a6,a7,a8,a9,fun x y z u=>pc_below (((Below.refl _ w).alloc (Nat.le_refl _) _).trans (b4.mono (by simp))) (Nat.le_refl _) x y z u⟩
theorem whole_head (s:ByteArray) (h:0<s.size):s.data.toList=s[0]::s.data.toList.drop 1:=by
 have:=drop_at s h
 rw[List.drop_zero] at this
 exact this
theorem kkeyword (s:ByteArray) (w:World) (hs:s.size≤1000000) (h0:0<s.size) (h58:s[0].toNat=58):
  Calls Tryz.prog 118 #[.string s] w (PSaid s (Lx.one s.data.toList) w):=by
 obtain⟨k,hk,hk1,hk2,HS⟩:=span_end _ enter_named _ knamed s 1 (by unfold maxLen;omega) h0
 replace HS:=Lib.hid HS
 have hsl:=slice_from s 1 (by omega)
 have HR:=Lib.hid fun(w4:World) b4=>pc_store w (w4:=w4) b4
 have hnd:Lx.digit s[0]=false:=by simp[Lx.digit];omega
 have hnn:Lx.name s[0]=false:=by simp[Lx.name,hnd,Lx.marks,h58]
 by_cases hk0:k=0
 ·have hem:((s.data.toList.drop 1).takeWhile Lx.name).isEmpty=true:=by rw[List.isEmpty_iff_length_eq_zero,←hk];exact hk0
  have hX:Lx.one s.data.toList=(0,[],8,s.data.toList):=by
   rw[whole_head s h0]
   simp only[Lx.one,h58,hnd,hnn,hem]
   simp
  rw[hX]
  have HW:=Lib.hid fun W=>kwrong 8 0 W
  have hki:(1:Int)+(k:Int)=1:=by omega
  clear hX hem hk hk2 hnd hnn h58
  go_enter Tryz.func118,Tryz.ntmps118
  go_wp2_with (first
   |(go_at_call 112;refine(HS.out _).mono ?_;rintro e w1 ⟨rfl,rfl⟩)
   |(go_at_call 123;refine(HW.out _).mono ?_;rintro e w4 ⟨rfl,b4⟩;obtain⟨z0,y0,y1,y2,y3,f0,f1,f2,f3,hl,hb⟩:=HR.out _ b4))
  obtain⟨_,e0,e1,e2,e3⟩:=pc_cells hl.out (.int .i64 0) (.string ⟨#[]⟩) (.int .i64 0) (.int .i64 8)
  exact bodyPost_ret (v:=piece 0 ⟨#[]⟩ 0 8) (by simp[results,Tryz.results118,go_sem,e0,e1,e2,e3]) rfl (PSaid.at_start (hb.out _ _ _ _) (by decide) h0)
 ·have hem:((s.data.toList.drop 1).takeWhile Lx.name).isEmpty=false:=by
   cases hq:(s.data.toList.drop 1).takeWhile Lx.name with
   |nil=>rw[hq] at hk;exact absurd hk hk0
   |cons _ _=>rfl
  have hX:Lx.one s.data.toList=((7:Int),s[0]::(s.data.toList.drop 1).takeWhile Lx.name,(0:Int),(s.data.toList.drop 1).dropWhile Lx.name):=by
   conv=>lhs;rw[whole_head s h0]
   simp only[Lx.one,h58,hnd,hnn,hem]
   simp
  have hT:=Lib.hid (text_of s 0 (1+k) h0 (by omega) hk1 hk2)
  rw[hX]
  have HU:=Lib.hid fun W=>kupTo s (1+k) 7 W hk1
  obtain⟨n,hn⟩:∃ n,1+k=n:=⟨_,rfl⟩
  have hki:(1:Int)+(k:Int)=(n:Int):=by omega
  have hne:((n:Int) == 1)=false:=beq_eq_false_iff_ne.2 (by omega)
  rw[hn] at HU hT hk1 hk2
  have hn0:0<n:=by omega
  have H2:=Lib.hid hk2
  clear hX hem hk hk2 hnd hnn h58 hk0 hn
  go_enter Tryz.func118,Tryz.ntmps118
  go_wp2_with (first
   |(go_at_call 112;refine(HS.out _).mono ?_;rintro e w1 ⟨rfl,rfl⟩)
   |(go_at_call 115;refine(HU.out _).mono ?_;rintro e w4 ⟨rfl,b4⟩;obtain⟨z0,y0,y1,y2,y3,f0,f1,f2,f3,hl,hb⟩:=HR.out _ b4))
  obtain⟨_,e0,e1,e2,e3⟩:=pc_cells hl.out (.int .i64 7) (.string (s.extract 0 n)) (.int .i64 (n:Nat)) (.int .i64 0)
  exact bodyPost_ret (v:=piece 7 (s.extract 0 n) (n:Nat) 0) (by simp[results,Tryz.results118,go_sem,e0,e1,e2,e3]) rfl ⟨hb.out _ _ _ _,fun _=>⟨_,n,rfl,hT.out,hn0,hk1,H2.out⟩,fun h=>absurd rfl h⟩
theorem Lx.number_by (D R:List UInt8) (hD:D.all Lx.digit=true) (h0:D≠[]) (hR:∀ c t,R=c::t→Lx.digit c=false):
  Lx.number (D++R)=if 1<D.length∧(D.headD 0).toNat=48 then 0 else if R=[] then 4 else if(R.headD 0).toNat=46∧R.length≠1∧(R.drop 1).all Lx.digit=true then 5 else 0:=by
 have hnp:D.all Lx.nopt=true:=by
  rw[List.all_eq_true] at hD ⊢
  intro c hc
  have:=hD c hc
  simp[Lx.digit] at this
  simp[Lx.nopt]
  omega
 have t1:(D++R).takeWhile Lx.nopt=D++R.takeWhile Lx.nopt:=by
  rw[List.takeWhile_append_of_pos (List.all_eq_true.1 hnp)]
 have t2:(D++R).dropWhile Lx.nopt=R.dropWhile Lx.nopt:=by
  rw[List.dropWhile_append_of_pos (List.all_eq_true.1 hnp)]
 have hD0:0<D.length:=List.length_pos_iff.2 h0
 have hhd:(D++R).headD 0=D.headD 0:=by
  cases D with
  |nil=>exact absurd rfl h0
  |cons _ _=>rfl
 unfold Lx.number
 dsimp only
 rw[t1,t2,hhd]
 cases hR0:R with
 |nil=>
  have e:Lx.digits (D++List.takeWhile Lx.nopt [])=true:=by
   rw[List.takeWhile_nil,List.append_nil,Lx.digits,hD]
   cases D with
   |nil=>exact absurd rfl h0
   |cons _ _=>rfl
  rw[e]
  simp
 |cons c t=>
  have hc:=hR c t hR0
  by_cases h46:c.toNat=46
  ·have hn:Lx.nopt c=false:=by simp[Lx.nopt,h46]
   have e:Lx.digits (D++List.takeWhile Lx.nopt (c::t))=true:=by
    rw[List.takeWhile_cons,hn]
    simp only[Bool.false_eq_true,if_false,List.append_nil]
    rw[Lx.digits,hD]
    cases D with
    |nil=>exact absurd rfl h0
    |cons _ _=>rfl
   rw[e,List.takeWhile_cons,List.dropWhile_cons,hn]
   simp only[Bool.false_eq_true,if_false,List.append_nil,Bool.not_true,Bool.false_or,Bool.and_eq_true,decide_eq_true_eq,List.headD_cons,h46,List.length_cons,List.drop_succ_cons,List.drop_zero,true_and]
   have e2:Lx.digits t=true↔(t.length+1≠1∧t.all Lx.digit=true):=by
    cases t with
    |nil=>simp[Lx.digits]
    |cons _ _=>simp[Lx.digits]
   by_cases hz:1<D.length∧(D.headD 0).toNat=48
   ·rw[if_pos hz,if_pos hz]
   ·rw[if_neg hz,if_neg hz,if_neg (show ¬c::t=[] from fun h=>by cases h)]
    by_cases hd:Lx.digits t=true
    ·rw[if_pos hd,if_pos (e2.1 hd)]
    ·rw[if_neg hd,if_neg (fun h=>hd (e2.2 h))]
  ·have hn:Lx.nopt c=true:=by simp[Lx.nopt,h46]
   have e:Lx.digits (D++List.takeWhile Lx.nopt (c::t))=false:=by
    rw[List.takeWhile_cons,hn]
    simp only[if_true]
    rw[Lx.digits,List.all_append,List.all_cons,hc]
    simp
   rw[e]
   simp[h46]
theorem knumber (s:ByteArray) (w:World) (hs:s.size≤1000000) (h0:0<s.size) (hd0:Lx.digit s[0]=true):
  Calls Tryz.prog 121 #[.string s] w (PSaid s (Lx.one s.data.toList) w):=by
 have hs1:s.size≤maxLen:=by unfold maxLen;omega
 obtain⟨S,hS⟩:∃ S,s.data.toList.takeWhile Lx.name=S:=⟨_,rfl⟩
 have hSc:S=s[0]::(s.data.toList.drop 1).takeWhile Lx.name:=by
  rw[←hS]
  conv=>lhs;rw[whole_head s h0]
  rw[List.takeWhile_cons,if_pos (Lx.digit_name hd0)]
 have hdr:s.data.toList.dropWhile Lx.name=(s.data.toList.drop 1).dropWhile Lx.name:=by
  conv=>lhs;rw[whole_head s h0]
  rw[List.dropWhile_cons,if_pos (Lx.digit_name hd0)]
 obtain⟨n1,n2⟩:=take_len Lx.name s 0 (Nat.zero_le _)
 rw[List.drop_zero,hS,Nat.zero_add] at n1 n2
 obtain⟨D,hD⟩:∃ D,s.data.toList.takeWhile Lx.digit=D:=⟨_,rfl⟩
 obtain⟨R,hR⟩:∃ R,S.dropWhile Lx.digit=R:=⟨_,rfl⟩
 have hDS:S.takeWhile Lx.digit=D:=by
  rw[←hD,←hS]
  generalize s.data.toList=L
  induction L with
  |nil=>rfl
  |cons c L ih=>
   by_cases hc:Lx.digit c=true
   ·rw[List.takeWhile_cons,if_pos (Lx.digit_name hc),List.takeWhile_cons,if_pos hc,ih,List.takeWhile_cons,if_pos hc]
   ·by_cases hn:Lx.name c=true
    ·rw[List.takeWhile_cons,if_pos hn,List.takeWhile_cons,if_neg hc,List.takeWhile_cons,if_neg hc]
    ·rw[List.takeWhile_cons,if_neg hn,List.takeWhile_cons,if_neg hc];rfl
 have hDR:D++R=S:=by rw[←hDS,←hR];exact Lx.take_drop _ _
 have hDa:D.all Lx.digit=true:=by rw[←hDS];exact Lx.take_all _ _
 have hDh:D=s[0]::D.drop 1:=by
  rw[←hDS,hSc,List.takeWhile_cons,if_pos hd0]
  rfl
 have hDn:D≠[]:=fun e=>by rw[e] at hDh;cases hDh
 have hRc:∀ c t,R=c::t→Lx.digit c=false:=fun c t e=>dropWhile_stops _ _ (hR.trans e)
 have hN:=Lx.number_by D R hDa hDn hRc
 have hD0:(D.headD 0).toNat=s[0].toNat:=by rw[hDh];rfl
 rw[hDR,hD0] at hN
 have hlen:=congrArg List.length hDR
 rw[List.length_append] at hlen
 have hDp:0<D.length:=List.length_pos_iff.2 hDn
 have n40:s[0].toNat≠40:=by simp[Lx.digit] at hd0;omega
 have n41:s[0].toNat≠41:=by simp[Lx.digit] at hd0;omega
 have nq:¬(s[0].toNat=124∨s[0].toNat=34):=by simp[Lx.digit] at hd0;omega
 have hX:Lx.one s.data.toList=if Lx.number S=0 then(0,[],8,s.data.toList) else(Lx.number S,S,0,s.data.toList.dropWhile Lx.name):=by
  rw[hdr,hSc]
  conv=>lhs;rw[whole_head s h0]
  simp only[Lx.one,n40,n41,nq,hd0,if_false,if_true]
  rw[←whole_head s h0]
 rw[hX]
 obtain⟨n,hn⟩:∃ n,S.length=n:=⟨_,rfl⟩
 obtain⟨d,hd⟩:∃ d,D.length=d:=⟨_,rfl⟩
 rw[hn] at n1 n2 hlen
 rw[hd] at hlen hDp hN
 have HS:=Lib.hid fun W=>kspan _ enter_named _ knamed s W hs1
 have HD:=Lib.hid fun W=>kspan _ enter_digit _ kdigit s W hs1
 rw[hS,hn] at HS
 rw[hD,hd] at HD
 have hT:Hid ((s.extract 0 n).data.toList=S):=by
  show _=_
  rw[(cut_bytes s 0 n n1 (Nat.zero_le _)).1,List.drop_zero,←hn,←hS,Nat.sub_zero]
  have h2:=congrArg (List.take (s.data.toList.takeWhile Lx.name).length) (Lx.take_drop Lx.name s.data.toList)
  rw[List.take_left] at h2
  exact h2.symm
 have HR:=Lib.hid fun(w4:World) b4=>pc_store w (w4:=w4) b4
 have HW:=Lib.hid fun W=>kwrong 8 0 W
 have H2:=Lib.hid n2
 have hdn:d≤n:=by omega
 have hn0:0<n:=by omega
 have hRd:Hid (s.data.toList.drop d=R++s.data.toList.drop n):=by
  show _=_
  have h2:=Lx.take_drop Lx.name s.data.toList
  rw[hS,←hDR,←n2,List.append_assoc] at h2
  have h3:=congrArg (List.drop d) h2
  rw[←hd,List.drop_left] at h3
  rw[←hd]
  exact h3.symm
 clear hX hdr hSc hDR hDh hD0 n40 n41 nq hDS hR hS hD hn hd n2
 by_cases hz:1<d∧s[0].toNat=48
 ·have hN0:Lx.number S=0:=by rw[hN,if_pos hz]
  rw[if_pos hN0]
  have b1:(1:Int)<(d:Int):=by omega
  have b2:((s[0].toNat:Int) == 48)=true:=beq_iff_eq.2 (by omega)
  clear hN hN0 hRc hDa hDn hd0 hz hRd hT
  go_enter Tryz.func121,Tryz.ntmps121
  go_wp2_with (first
   |(go_at_call 112;(with_reducible refine(HS.out _).mono ?_);rintro e w1 ⟨rfl,rfl⟩)
   |(go_at_call 112;(with_reducible refine(HD.out _).mono ?_);rintro e w1 ⟨rfl,rfl⟩)
   |(go_at_call 123;refine(HW.out _).mono ?_;rintro e w4 ⟨rfl,b4⟩;obtain⟨z0,y0,y1,y2,y3,f0,f1,f2,f3,hl,hb⟩:=HR.out _ b4))
  obtain⟨_,e0,e1,e2,e3⟩:=pc_cells hl.out (.int .i64 0) (.string ⟨#[]⟩) (.int .i64 0) (.int .i64 8)
  exact bodyPost_ret (v:=piece 0 ⟨#[]⟩ 0 8) (by simp[results,Tryz.results121,go_sem,e0,e1,e2,e3]) rfl (PSaid.at_start (hb.out _ _ _ _) (by decide) h0)
 rw[if_neg hz] at hN
 have hzz:¬(1:Int)<(d:Int)∨(1:Int)<(d:Int)∧((s[0].toNat:Int) == 48)=false:=by
  by_cases h:1<d
  ·exact .inr ⟨by omega,beq_eq_false_iff_ne.2 (by omega)⟩
  ·exact .inl (by omega)
 clear hz
 by_cases hall:d=n
 ·obtain rfl:R=[]:=List.eq_nil_of_length_eq_zero (by omega)
  have hN4:Lx.number S=4:=by rw[hN,if_pos rfl]
  rw[if_neg (by rw[hN4];decide),hN4]
  have HU:=Lib.hid fun W=>kupTo s n 4 W n1
  have b3:((d:Int) == (n:Int))=true:=beq_iff_eq.2 (by omega)
  clear hN hN4 hRc hDa hDn hd0 hRd
  rcases hzz with b1|⟨b1,b2⟩
  all_goals
   go_enter Tryz.func121,Tryz.ntmps121
   go_wp2_with (first
    |(go_at_call 112;(with_reducible refine(HS.out _).mono ?_);rintro e w1 ⟨rfl,rfl⟩)
    |(go_at_call 112;(with_reducible refine(HD.out _).mono ?_);rintro e w1 ⟨rfl,rfl⟩)
    |(go_at_call 115;refine(HU.out _).mono ?_;rintro e w4 ⟨rfl,b4⟩;obtain⟨z0,y0,y1,y2,y3,f0,f1,f2,f3,hl,hb⟩:=HR.out _ b4))
   obtain⟨_,e0,e1,e2,e3⟩:=pc_cells hl.out (.int .i64 4) (.string (s.extract 0 n)) (.int .i64 (n:Nat)) (.int .i64 0)
   exact bodyPost_ret (v:=piece 4 (s.extract 0 n) (n:Nat) 0) (by simp[results,Tryz.results121,go_sem,e0,e1,e2,e3]) rfl ⟨hb.out _ _ _ _,fun _=>⟨_,n,rfl,hT.out,hn0,n1,H2.out⟩,fun h=>absurd rfl h⟩
 have b3:((d:Int) == (n:Int))=false:=beq_eq_false_iff_ne.2 (by omega)
 have hdlt:d<s.size:=by omega
 have hdlt':(d:Int)<(s.size:Int):=by omega
 have hRh:Hid (R=s[d]::R.drop 1):=by
  show _=_
  have:=hRd.out
  rw[drop_at s hdlt] at this
  cases R with
  |nil=>simp at hlen;omega
  |cons c t=>injection this with e1 _;rw[e1];rfl
 rw[if_neg (fun e=>by rw[e] at hlen;simp at hlen;omega),show(R.headD 0).toNat=s[d].toNat by rw[hRh.out];rfl] at hN
 by_cases h46:s[d].toNat=46
 ·have b4':((s[d].toNat:Int) != 46)=false:=by rw[bne,beq_iff_eq.2 (by omega:(s[d].toNat:Int)=46)];rfl
  by_cases hlast:d+1=n
  ·have hN0:Lx.number S=0:=by rw[hN,if_neg];intro h;have:=h.2.1;omega
   rw[if_pos hN0]
   have b5:((d:Int)+1 == (n:Int))=true:=beq_iff_eq.2 (by omega)
   clear hN hN0 hRc hDa hDn hd0 hRd hT hRh h46
   rcases hzz with b1|⟨b1,b2⟩
   all_goals
    go_enter Tryz.func121,Tryz.ntmps121
    go_wp2_with (first
     |(go_at_call 112;(with_reducible refine(HS.out _).mono ?_);rintro e w1 ⟨rfl,rfl⟩)
     |(go_at_call 112;(with_reducible refine(HD.out _).mono ?_);rintro e w1 ⟨rfl,rfl⟩)
     |(go_at_call 123;refine(HW.out _).mono ?_;rintro e w4 ⟨rfl,b4⟩;obtain⟨z0,y0,y1,y2,y3,f0,f1,f2,f3,hl,hb⟩:=HR.out _ b4))
    obtain⟨_,e0,e1,e2,e3⟩:=pc_cells hl.out (.int .i64 0) (.string ⟨#[]⟩) (.int .i64 0) (.int .i64 8)
    exact bodyPost_ret (v:=piece 0 ⟨#[]⟩ 0 8) (by simp[results,Tryz.results121,go_sem,e0,e1,e2,e3]) rfl (PSaid.at_start (hb.out _ _ _ _) (by decide) h0)
  ·obtain⟨m,hm⟩:∃ m,d+1=m:=⟨_,rfl⟩
   have hmi:(d:Int)+1=(m:Int):=by omega
   have b5:((m:Int) == (n:Int))=false:=beq_eq_false_iff_ne.2 (by omega)
   have hmn:m≤n:=by omega
   have hsl:=slice_both s m n n1 hmn
   obtain⟨c1,c2⟩:=cut_bytes s m n n1 hmn
   have hc1:(s.extract m n).data.toList=R.drop 1:=by
    rw[c1]
    have h3:=congrArg (List.drop 1) hRd.out
    rw[List.drop_drop,hm,List.drop_append_of_le_length (by omega)] at h3
    rw[h3,List.take_append_of_le_length (by rw[List.length_drop];omega),List.take_of_length_le (by rw[List.length_drop];omega)]
   obtain⟨a,ha⟩:∃ a,(R.drop 1).all Lx.digit=a:=⟨_,rfl⟩
   have HE:=Lib.hid fun W=>kspan _ enter_digit _ kdigit (s.extract m n) W (by unfold maxLen;omega)
   have hb5:=span_all Lx.digit (s.extract m n) (b:=a) (by rw[hc1];exact ha)
   obtain⟨v,hv⟩:∃ v,((s.extract m n).data.toList.takeWhile Lx.digit).length=v:=⟨_,rfl⟩
   rw[hv] at HE hb5
   have hsub:(n:Int)-(d:Int)-1=((s.extract m n).size:Int):=by omega
   have hb6:((v:Int) != ((s.extract m n).size:Int))=!a:=by rw[bne,hb5]
   have hNa:Lx.number S=if a=true then 5 else 0:=by
    rw[hN,ha]
    cases a with
    |true=>rw[if_pos ⟨h46,by omega,rfl⟩];rfl
    |false=>rw[if_neg (fun h=>by cases h.2.2)];rfl
   obtain⟨V,hV⟩:∃ V,s.extract m n=V:=⟨_,rfl⟩
   rw[hV] at hsl HE hb6 hsub
   clear hN hRc hDa hDn hd0 hRd hRh h46 c1 c2 hc1 ha hb5 hv hV hm
   cases a with
   |true=>
    rw[if_pos rfl] at hNa
    rw[if_neg (by rw[hNa];decide),hNa]
    have HU:=Lib.hid fun W=>kupTo s n 5 W n1
    simp only[Bool.not_true] at hb6
    clear hNa
    rcases hzz with b1|⟨b1,b2⟩
    all_goals
     go_enter Tryz.func121,Tryz.ntmps121
     go_wp2_with (first
      |(go_at_call 112;(with_reducible refine(HS.out _).mono ?_);rintro e w1 ⟨rfl,rfl⟩)
      |(go_at_call 112;(with_reducible refine(HD.out _).mono ?_);rintro e w1 ⟨rfl,rfl⟩)
      |(go_at_call 112;(with_reducible refine(HE.out _).mono ?_);rintro e w1 ⟨rfl,rfl⟩)
      |(go_at_call 115;refine(HU.out _).mono ?_;rintro e w4 ⟨rfl,b4⟩;obtain⟨z0,y0,y1,y2,y3,f0,f1,f2,f3,hl,hb⟩:=HR.out _ b4))
     obtain⟨_,e0,e1,e2,e3⟩:=pc_cells hl.out (.int .i64 5) (.string (s.extract 0 n)) (.int .i64 (n:Nat)) (.int .i64 0)
     exact bodyPost_ret (v:=piece 5 (s.extract 0 n) (n:Nat) 0) (by simp[results,Tryz.results121,go_sem,e0,e1,e2,e3]) rfl ⟨hb.out _ _ _ _,fun _=>⟨_,n,rfl,hT.out,hn0,n1,H2.out⟩,fun h=>absurd rfl h⟩
   |false=>
    rw[if_neg (by decide)] at hNa
    rw[if_pos hNa]
    simp only[Bool.not_false] at hb6
    clear hNa
    rcases hzz with b1|⟨b1,b2⟩
    all_goals
     go_enter Tryz.func121,Tryz.ntmps121
     go_wp2_with (first
      |(go_at_call 112;(with_reducible refine(HS.out _).mono ?_);rintro e w1 ⟨rfl,rfl⟩)
      |(go_at_call 112;(with_reducible refine(HD.out _).mono ?_);rintro e w1 ⟨rfl,rfl⟩)
      |(go_at_call 112;(with_reducible refine(HE.out _).mono ?_);rintro e w1 ⟨rfl,rfl⟩)
      |(go_at_call 123;refine(HW.out _).mono ?_;rintro e w4 ⟨rfl,b4⟩;obtain⟨z0,y0,y1,y2,y3,f0,f1,f2,f3,hl,hb⟩:=HR.out _ b4))
     obtain⟨_,e0,e1,e2,e3⟩:=pc_cells hl.out (.int .i64 0) (.string ⟨#[]⟩) (.int .i64 0) (.int .i64 8)
     exact bodyPost_ret (v:=piece 0 ⟨#[]⟩ 0 8) (by simp[results,Tryz.results121,go_sem,e0,e1,e2,e3]) rfl (PSaid.at_start (hb.out _ _ _ _) (by decide) h0)
 ·have hN0:Lx.number S=0:=by rw[hN,if_neg];intro h;exact h46 h.1
  rw[if_pos hN0]
  have b4':((s[d].toNat:Int) != 46)=true:=bne_iff_ne.2 (by omega)
  clear hN hN0 hRc hDa hDn hd0 hRd hT hRh h46
  rcases hzz with b1|⟨b1,b2⟩
  all_goals
   go_enter Tryz.func121,Tryz.ntmps121
   go_wp2_with (first
    |(go_at_call 112;(with_reducible refine(HS.out _).mono ?_);rintro e w1 ⟨rfl,rfl⟩)
    |(go_at_call 112;(with_reducible refine(HD.out _).mono ?_);rintro e w1 ⟨rfl,rfl⟩)
    |(go_at_call 123;refine(HW.out _).mono ?_;rintro e w4 ⟨rfl,b4⟩;obtain⟨z0,y0,y1,y2,y3,f0,f1,f2,f3,hl,hb⟩:=HR.out _ b4))
   obtain⟨_,e0,e1,e2,e3⟩:=pc_cells hl.out (.int .i64 0) (.string ⟨#[]⟩) (.int .i64 0) (.int .i64 8)
   exact bodyPost_ret (v:=piece 0 ⟨#[]⟩ 0 8) (by simp[results,Tryz.results121,go_sem,e0,e1,e2,e3]) rfl (PSaid.at_start (hb.out _ _ _ _) (by decide) h0)
end Go.Proofs.YtcgaeknikfaghaaGreatDoor
namespace Go.Proofs.YtcgaeknikfaghaaGreatDoor
def Lx.rep (old new s:List UInt8):List UInt8:=Lib.replaceK old new (Lib.count s old) s
theorem Lx.rep_all (s old new:List UInt8) (h:(old == new)=false):Lib.replaceAll s old new=Lx.rep old new s:=by
 unfold Lib.replaceAll Lib.replace Lib.replaceNum Lx.rep
 rw[h,if_neg (by decide),if_pos (.inl (by decide))]
theorem Lx.rep_nil (old new:List UInt8) (h:old≠[]):Lx.rep old new []=[]:=by
 have hi:Lib.index [] old= -1:=Lib.index_none (fun j _=>by
  unfold Lib.occAt
  cases old with
  |nil=>exact absurd rfl h
  |cons c t=>simp)
 unfold Lx.rep
 rw[Lib.count_miss hi]
 rfl
theorem Lx.rep_hit (old new s:List UInt8) (h:old≠[]) (hp:old.isPrefixOf s=true):Lx.rep old new s=new++Lx.rep old new (s.drop old.length):=by
 have hi:Lib.index s old=((0:Nat):Int):=Lib.index_first (Nat.zero_le _) (by simpa [Lib.occAt] using hp) (fun j hj=>absurd hj (Nat.not_lt_zero _))
 unfold Lx.rep
 rw[Lib.count_hit h hi,Nat.zero_add,Nat.add_comm,Lib.replaceK_hit old new _ s 0 hi]
 simp
theorem Lx.index_miss (old:List UInt8) (c:UInt8) (t:List UInt8) (hp:old.isPrefixOf (c::t)=false):Lib.index (c::t) old=if Lib.index t old= -1 then -1 else Lib.index t old+1:=by
 rw[Lib.index,hp]
 simp
theorem Lx.rep_miss (old new:List UInt8) (c:UInt8) (t:List UInt8) (h:old≠[]) (hp:old.isPrefixOf (c::t)=false):Lx.rep old new (c::t)=c::Lx.rep old new t:=by
 have hi:=Lx.index_miss old c t hp
 unfold Lx.rep
 by_cases hm:Lib.index t old= -1
 ·rw[if_pos hm] at hi
  rw[Lib.count_miss hi,Lib.count_miss hm]
  rfl
 ·rw[if_neg hm] at hi
  obtain⟨i,hti⟩:∃ i:Nat,Lib.index t old=i:=⟨(Lib.index t old).toNat,by have:=Lib.index_ge t old;omega⟩
  have hci:Lib.index (c::t) old=((i+1:Nat):Int):=by rw[hi,hti];omega
  have e:(c::t).drop (i+1+old.length)=t.drop (i+old.length):=by rw[show i+1+old.length=(i+old.length)+1 by omega,List.drop_succ_cons]
  rw[Lib.count_hit h hci,Lib.count_hit h hti,e]
  generalize Lib.count (t.drop (i+old.length)) old=k
  rw[Nat.add_comm 1 k,Lib.replaceK_hit old new _ _ _ hci,Lib.replaceK_hit old new _ _ _ hti,e,List.take_succ_cons]
  simp
theorem Lx.no_pre1 {c:UInt8} {t:List UInt8} (hc:¬c.toNat=34):List.isPrefixOf [34] (c::t)=false:=by
 have:((34:UInt8) == c)=false:=beq_eq_false_iff_ne.2 fun e=>hc (by rw[←e];rfl)
 rw[List.isPrefixOf,this]
 rfl
theorem Lx.no_pre2 {c:UInt8} {t:List UInt8} (hc:¬c.toNat=34):List.isPrefixOf [34,34] (c::t)=false:=by
 have:((34:UInt8) == c)=false:=beq_eq_false_iff_ne.2 fun e=>hc (by rw[←e];rfl)
 rw[List.isPrefixOf,this]
 rfl
theorem Lx.rep_dbl:∀ l:List UInt8,Lx.rep [34] [34,34] l=Lx.dbl l
 |[]=>Lx.rep_nil _ _ (by simp)
 |c::t=>by
  rw[Lx.dbl_cons]
  split
  ·rename_i hc
   obtain rfl:c=34:=Lx.byte_eq hc
   rw[Lx.rep_hit [34] [34,34] (34::t) (by simp) (by simp),List.length_singleton,List.drop_succ_cons,List.drop_zero,Lx.rep_dbl t]
   rfl
  ·rename_i hc
   rw[Lx.rep_miss [34] [34,34] c t (by simp) (Lx.no_pre1 hc),Lx.rep_dbl t]
theorem Lx.rep_undbl:∀ l:List UInt8,Lx.rep [34,34] [34] (Lx.dbl l)=l
 |[]=>Lx.rep_nil _ _ (by simp)
 |c::t=>by
  rw[Lx.dbl_cons]
  split
  ·rename_i hc
   obtain rfl:c=34:=Lx.byte_eq hc
   rw[Lx.rep_hit [34,34] [34] (34::34::Lx.dbl t) (by simp) (by simp)]
   show[34]++Lx.rep [34,34] [34] (Lx.dbl t)=_
   rw[Lx.rep_undbl t]
   rfl
  ·rename_i hc
   rw[Lx.rep_miss [34,34] [34] c (Lx.dbl t) (by simp) (Lx.no_pre2 hc),Lx.rep_undbl t]
theorem Lx.dbl_app:∀ l m:List UInt8,Lx.dbl (l++m)=Lx.dbl l++Lx.dbl m
 |[],_=>rfl
 |c::t,m=>by
  rw[List.cons_append,Lx.dbl_cons,Lx.dbl_cons,Lx.dbl_app t m]
  split <;> rfl
theorem Lx.dbl_none:∀ l:List UInt8,(∀ c∈l,c.toNat≠34)→Lx.dbl l=l
 |[],_=>rfl
 |c::t,h=>by
  rw[Lx.dbl_cons,if_neg (h c List.mem_cons_self),Lx.dbl_none t fun d hd=>h d (List.mem_cons_of_mem _ hd)]
theorem Lx.quo_plain' {q c:UInt8} (t:List UInt8) (hg:Lx.good c=true) (hc:c≠q):Lx.quo q (c::t)=(c::(Lx.quo q t).1,(Lx.quo q t).2):=by
 cases t with
 |nil=>simp[Lx.quo,hg,hc]
 |cons d t=>rw[Lx.quo,if_pos hg,if_neg hc]
abbrev Lx.but (n:Nat) (c:UInt8):Bool:=!decide (c.toNat=n)&&Lx.good c
theorem Lx.quo_span (q:UInt8):∀ l:List UInt8,Lx.quo q l=((l.takeWhile (Lx.but q.toNat))++(Lx.quo q (l.dropWhile (Lx.but q.toNat))).1,(Lx.quo q (l.dropWhile (Lx.but q.toNat))).2)
 |[]=>rfl
 |c::t=>by
  by_cases hg:Lx.good c=true
  ·by_cases hc:c=q
   ·have e:Lx.but q.toNat c=false:=by simp[Lx.but,hc]
    rw[List.takeWhile_cons,List.dropWhile_cons,e]
    rfl
   ·have hne:c.toNat≠q.toNat:=fun e=>hc (UInt8.toNat_inj.1 e)
    have e:Lx.but q.toNat c=true:=by simp[Lx.but,hne,hg]
    rw[List.takeWhile_cons,List.dropWhile_cons,e,Lx.quo_plain' t hg hc,Lx.quo_span q t]
    simp
  ·have e:Lx.but q.toNat c=false:=by simp[Lx.but,hg]
   rw[List.takeWhile_cons,List.dropWhile_cons,e]
   rfl
theorem Lx.but_stops {n:Nat} {l t:List UInt8} {c:UInt8} (h:l.dropWhile (Lx.but n)=c::t):c.toNat=n∨Lx.good c=false:=by
 induction l with
 |nil=>cases h
 |cons d l ih=>
  rw[List.dropWhile_cons] at h
  split at h
  ·exact ih h
  ·rename_i hd
   injection h with h1 h2
   subst h1
   simp[Lx.but] at hd
   by_cases e:d.toNat=n
   ·exact .inl e
   ·exact .inr (hd e)
theorem Lx.but_take (n:Nat) (l:List UInt8):∀ c∈l.takeWhile (Lx.but n),c.toNat≠n:=fun c hc=>by
 have:=List.all_eq_true.1 (Lx.take_all (Lx.but n) l) c hc
 simp[Lx.but] at this
 exact this.1
theorem Lx.other_by (a d:UInt8) (y:List UInt8) (hy:y≠[]):Lx.other (a::d::y)=((decide (d.toNat=120)&&y.all Lx.hex)||(decide (d.toNat=98)&&y.all Lx.bit)):=by
 have hye:y.isEmpty=false:=by
  cases y with
  |nil=>exact absurd rfl hy
  |cons _ _=>rfl
 have hb:∀ c,Lx.bit c=true→Lx.hex c=true:=fun c h=>by
  simp[Lx.bit] at h
  simp[Lx.hex,Lx.digit]
  omega
 have e:Lx.other (a::d::y)=((decide (d.toNat=120)||decide (d.toNat=98))&&!y.isEmpty&&y.all fun c=>Lx.hex c&&(!decide (d.toNat=98)||Lx.bit c)):=rfl
 rw[e,hye]
 by_cases h1:d.toNat=120
 ·simp[h1]
 ·by_cases h2:d.toNat=98
  ·simp only[h2,decide_true,Bool.or_true,Bool.not_false,Bool.true_and,Bool.not_true,Bool.false_or]
   have h3:(y.all fun c=>Lx.hex c&&Lx.bit c)=y.all Lx.bit:=by
    rw[Bool.eq_iff_iff,List.all_eq_true,List.all_eq_true]
    constructor
    ·intro h c hc
     have:=h c hc
     rw[Bool.and_eq_true] at this
     exact this.2
    ·intro h c hc
     rw[h c hc,hb c (h c hc)]
     rfl
   rw[h3]
   simp
  ·simp[h1,h2]
theorem Lx.other_short (a:UInt8) (y:List UInt8) (hy:y.length<2):Lx.other (a::y)=false:=by
 match y,hy with
 |[],_=>rfl
 |[d],_=>simp[Lx.other]
 |_::_::_,h=>simp at h;omega
theorem Lx.index_any (n:UInt8):∀ l:List UInt8,decide (0≤Lib.indexByte l n)=l.any fun d=>decide (d.toNat=n.toNat)
 |[]=>rfl
 |c::t=>by
  have ih:=Lx.index_any n t
  have hg:=Lib.indexByte_ge t n
  rw[Lib.indexByte,List.any_cons,←ih]
  by_cases h:c=n
  ·simp[h]
  ·have hn:c.toNat≠n.toNat:=fun e=>h (UInt8.toNat_inj.1 e)
   have hb:(c == n)=false:=beq_eq_false_iff_ne.2 h
   rw[hb,decide_eq_false hn,Bool.false_or]
   simp only[Bool.false_eq_true,if_false]
   by_cases hm:Lib.indexByte t n= -1
   ·simp[hm]
   ·have:(Lib.indexByte t n == -1)=false:=beq_eq_false_iff_ne.2 hm
    rw[this]
    simp only[Bool.false_eq_true,if_false]
    rw[decide_eq_true (by omega),decide_eq_true (by omega)]
end Go.Proofs.YtcgaeknikfaghaaGreatDoor
namespace Go.Proofs.YtcgaeknikfaghaaGreatDoor
open Go.RowKit Go.Shelf
theorem kother (s:ByteArray) (w:World) (hs:s.size≤1000000) (h0:0<s.size) (h35:s[0].toNat=35):
  Calls Tryz.prog 119 #[.string s] w (PSaid s (Lx.one s.data.toList) w):=by
 obtain⟨k,hk,hk1,hk2,HS⟩:=span_end _ enter_named _ knamed s 1 (by unfold maxLen;omega) h0
 replace HS:=Lib.hid HS
 have hsl:=slice_from s 1 (by omega)
 have HR:=Lib.hid fun(w4:World) (q:Nat) (b4:Below ((w.alloc (.cells ZP 158)).drewN q).heap.size ((w.alloc (.cells ZP 158)).drewN q) w4)=>
  pc_store w (w4:=w4) ((Turn.none_ ((Turn.refl (fun _=>False) (w.alloc (.cells ZP 158))).drewN q) (fun _=>id)).trans b4)
 have HR0:=Lib.hid fun(w4:World) b4=>pc_store w (w4:=w4) b4
 have hnd:Lx.digit s[0]=false:=by simp[Lx.digit];omega
 have hnn:Lx.name s[0]=false:=by simp[Lx.name,hnd,Lx.marks,h35]
 obtain⟨z,hz⟩:∃ z,Lx.other (s[0]::(s.data.toList.drop 1).takeWhile Lx.name)=z:=⟨_,rfl⟩
 have hX:Lx.one s.data.toList=if z then((8:Int),s[0]::(s.data.toList.drop 1).takeWhile Lx.name,(0:Int),(s.data.toList.drop 1).dropWhile Lx.name) else(0,[],8,s.data.toList):=by
  conv=>lhs;rw[whole_head s h0]
  simp only[Lx.one,h35,hnd,hnn,hz]
  rw[←whole_head s h0]
  simp
 have hT:=Lib.hid (text_of s 0 (1+k) h0 (by omega) hk1 hk2)
 have HW:=Lib.hid fun W=>kwrong 8 0 W
 rw[hX]
 by_cases hk3:k<2
 ·obtain rfl:z=false:=by rw[←hz,Lx.other_short _ _ (by omega)]
  rw[if_neg (by decide)]
  obtain⟨n,hn⟩:∃ n,1+k=n:=⟨_,rfl⟩
  have hki:(1:Int)+(k:Int)=(n:Int):=by omega
  have hn3:(n:Int)<3:=by omega
  clear hX hz hk hk2 hnd hnn h35 hT HR0
  go_enter Tryz.func119,Tryz.ntmps119
  go_wp2_with (go_at_call 112;refine(HS.out _).mono ?_;rintro e w1 ⟨rfl,rfl⟩)
  go_quiet (fail)
  go_wp2_with (go_at_call 123;refine(HW.out _).mono ?_;rintro e w4 ⟨rfl,b4⟩;obtain⟨z0,y0,y1,y2,y3,f0,f1,f2,f3,hl,hb⟩:=HR.out _ _ b4)
  obtain⟨_,e0,e1,e2,e3⟩:=pc_cells hl.out (.int .i64 0) (.string ⟨#[]⟩) (.int .i64 0) (.int .i64 8)
  exact bodyPost_ret (v:=piece 0 ⟨#[]⟩ 0 8) (by simp[results,Tryz.results119,go_sem,e0,e1,e2,e3]) rfl (PSaid.at_start (hb.out _ _ _ _) (by decide) h0)
 ·obtain⟨n,hn⟩:∃ n,1+k=n:=⟨_,rfl⟩
  rw[hn] at hk1 hk2 hT
  have h1:1<s.size:=by omega
  have h2n:2≤n:=by omega
  have hn0:0<n:=by omega
  have e1:=drop_at s h1
  have hnm:Lx.name s[1]=true:=by
   rw[hk,takeWhile_at _ s h1] at hk3
   by_cases h:Lx.name s[1]=true
   ·exact h
   ·rw[if_neg h] at hk3
    exact absurd (by decide) hk3
  have hy:(s.data.toList.drop 1).takeWhile Lx.name=s[1]::(s.data.toList.drop 2).takeWhile Lx.name:=by rw[takeWhile_at _ s h1,if_pos hnm]
  obtain⟨c1,c2⟩:=cut_bytes s 2 n hk1 h2n
  have hyc:(s.extract 2 n).data.toList=(s.data.toList.drop 2).takeWhile Lx.name:=by
   have hh:=Lx.take_drop Lx.name (s.data.toList.drop 2)
   have hl:((s.data.toList.drop 2).takeWhile Lx.name).length=n-2:=by
    rw[hk,hy,List.length_cons] at hn
    omega
   rw[c1,←hl]
   have h3:=congrArg (List.take ((s.data.toList.drop 2).takeWhile Lx.name).length) hh
   rw[List.take_left] at h3
   exact h3.symm
  have hyn:(s.data.toList.drop 2).takeWhile Lx.name≠[]:=fun e=>by
   rw[hk,hy,List.length_cons,e] at hk3
   exact hk3 (by decide)
  rw[hy,Lx.other_by _ _ _ hyn,←hyc] at hz
  have HD:=Lib.hid fun W=>kdigits s[1] (s.extract 2 n) W (by unfold maxLen;omega)
  rw[hz] at HD
  have hki:(1:Int)+(k:Int)=(n:Int):=by omega
  have hn3:decide ((n:Int)<3)=false:=decide_eq_false (by omega)
  have h1':(1:Int)<(s.size:Int):=by omega
  have HU:=Lib.hid fun W=>kupTo s n 8 W hk1
  have H2:=Lib.hid hk2
  clear hX hz hk hk2 hnd hnn h35 hk3 e1 hnm hy c1 c2 hyc hyn hn HR0
  cases z with
  |true=>
   rw[if_pos rfl]
   go_enter Tryz.func119,Tryz.ntmps119
   go_wp2_with (go_at_call 112;refine(HS.out _).mono ?_;rintro e w1 ⟨rfl,rfl⟩)
   go_quiet ((go_at_call 149;(with_reducible exact Calls.quiet_of_same (HD.out _))))
   go_wp2_with (go_at_call 115;refine(HU.out _).mono ?_;rintro e w4 ⟨rfl,b4⟩;obtain⟨z0,y0,y1,y2,y3,f0,f1,f2,f3,hl,hb⟩:=HR.out _ _ b4)
   obtain⟨_,e0,e1,e2,e3⟩:=pc_cells hl.out (.int .i64 8) (.string (s.extract 0 n)) (.int .i64 (n:Nat)) (.int .i64 0)
   exact bodyPost_ret (v:=piece 8 (s.extract 0 n) (n:Nat) 0) (by simp[results,Tryz.results119,go_sem,e0,e1,e2,e3]) rfl ⟨hb.out _ _ _ _,fun _=>⟨_,n,rfl,hT.out,hn0,hk1,H2.out⟩,fun h=>absurd rfl h⟩
  |false=>
   rw[if_neg (by decide)]
   go_enter Tryz.func119,Tryz.ntmps119
   go_wp2_with (go_at_call 112;refine(HS.out _).mono ?_;rintro e w1 ⟨rfl,rfl⟩)
   go_quiet ((go_at_call 149;(with_reducible exact Calls.quiet_of_same (HD.out _))))
   go_wp2_with (go_at_call 123;refine(HW.out _).mono ?_;rintro e w4 ⟨rfl,b4⟩;obtain⟨z0,y0,y1,y2,y3,f0,f1,f2,f3,hl,hb⟩:=HR.out _ _ b4)
   obtain⟨_,e0,e1,e2,e3⟩:=pc_cells hl.out (.int .i64 0) (.string ⟨#[]⟩) (.int .i64 0) (.int .i64 8)
   exact bodyPost_ret (v:=piece 0 ⟨#[]⟩ 0 8) (by simp[results,Tryz.results119,go_sem,e0,e1,e2,e3]) rfl (PSaid.at_start (hb.out _ _ _ _) (by decide) h0)
end Go.Proofs.YtcgaeknikfaghaaGreatDoor
