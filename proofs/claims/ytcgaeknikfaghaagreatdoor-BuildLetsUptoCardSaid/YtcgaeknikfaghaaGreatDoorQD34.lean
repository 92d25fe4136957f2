/- What the proofs of this claim use, text by text. -/
import Derived.Test.YtcgaeknikfaghaaGreatDoorQD32
import Derived.Test.YtcgaeknikfaghaaGreatDoorQD33
set_option linter.unusedSimpArgs false
set_option linter.unusedVariables false
set_option maxRecDepth 100000
set_option maxHeartbeats 25600000
namespace Go.Proofs.YtcgaeknikfaghaaGreatDoor
open Go.RowKit
theorem pow_nine (n k:Nat) (h:n≤9*k):10^n≤M.BB^k:=by
 refine Nat.le_trans (Nat.pow_le_pow_right (by decide) h) ?_
 rw[Nat.pow_mul]
 exact Nat.pow_le_pow_left (by decide) k
theorem digits_few {l:List UInt8} (h:isT l=true):T.dv l<M.BB^223:=by
 obtain⟨_,h2,_,h4⟩:=isT_parts.1 h
 exact Nat.lt_of_lt_of_le (T.dv_lt h4) (pow_nine _ 223 (by omega))
theorem Lt.runs_in:∀ (n:Nat) (l:List Int),l.length=n→(∀ z∈l,Lt.pt z=true)→∀ r∈Lt.runs l,(0≤r.1∧r.1≤196607)∧0≤r.2∧r.2≤(n:Int)
 |0,l,hl,_,r,hr=>by
  rw[List.length_eq_zero_iff.1 hl] at hr
  cases hr
 |n+1,l,hl,hp,r,hr=>by
  obtain⟨c,z,rfl⟩:∃ c z,l=c++[z]:=⟨l.dropLast,l.getLast (fun e=>by rw[e] at hl;simp at hl),(List.dropLast_concat_getLast _).symm⟩
  have hz:=of_decide_eq_true (hp z (by simp))
  have ih:=Lt.runs_in n c (by simpa using hl) (fun y hy=>hp y (by simp[hy]))
  rw[Lt.runs_snoc] at hr
  unfold Lt.addRun at hr
  split at hr
  ·rename_i x hx
   have hxm:=ih x (List.mem_of_getLast? hx)
   split at hr
   ·rcases List.mem_append.1 hr with hr|hr
    ·have:=ih r ((List.dropLast_sublist _).subset hr)
     exact⟨this.1,this.2.1,by omega⟩
    ·rw[List.mem_singleton.1 hr]
     exact⟨hxm.1,by show(0:Int)≤x.2+1;omega,by show x.2+1≤_;omega⟩
   ·rcases List.mem_append.1 hr with hr|hr
    ·have:=ih r hr
     exact⟨this.1,this.2.1,by omega⟩
    ·rw[List.mem_singleton.1 hr]
     exact⟨hz,by show(0:Int)≤1;omega,by show(1:Int)≤_;omega⟩
  ·rw[List.mem_singleton.1 hr]
   exact⟨hz,by show(0:Int)≤1;omega,by show(1:Int)≤_;omega⟩
theorem Lt.most_in (l:List Int) (hp:∀ z∈l,Lt.pt z=true) (hl:l.length≤10000000):(Lt.runsMost l).2.length≤65536∧∀ r∈(Lt.runsMost l).2,(Lit.int .i64 r.1).wf=true∧(Lit.int .i64 r.2).wf=true:=by
 unfold Lt.runsMost
 split
 ·split
  ·rename_i h
   exact⟨h,fun r hr=>by
    obtain⟨⟨a,b⟩,c,d⟩:=Lt.runs_in _ l rfl hp r hr
    exact⟨WalkArith.wf_i64 (by omega),WalkArith.wf_i64 (by omega)⟩⟩
  ·exact⟨Nat.zero_le _,fun r hr=>by cases hr⟩
 ·exact⟨Nat.zero_le _,fun r hr=>by cases hr⟩
theorem OwnR.gs {w:World} {B:Nat} {A:Option Addr} {c n:Nat} {l:List (Int×Int)} (h:OwnR w B A c l) (hn:l.length=n):Gs (fun k=>B≤k) A n:=fun a e _=>(h.lt hn (q:=a.block) (by rw[e];rfl)).1
theorem Num.few {w:World} {v:Value} {N:Nat} (h:Num w v N) (hN:N<M.BB^223):∃ A n c,v=.slice A n c∧WIn w false A n c (N:Int)∧n≤900:=by
 obtain⟨A,n,c,l,rfl,h1,h2,h3,h4,h5⟩:=h
 have hn:n≤223:=M.len_le h2 h1.1 (by rw[h3];exact hN)
 exact⟨A,n,c,rfl,⟨⟨l,h1,by rw[h3];simp,h4,h5,by omega⟩,by simp[Z.sg]⟩,by omega⟩
theorem katom10 (E:Mk.Env) (hE:E.Ok) (hG:Gl E.w0) (w:World) (M:Nat) (Y:Mk.Lay) (s:Ms) (bs:List Fr) (f:Fr) (k:Int) (t:ByteArray) (ta:Int) (h:Mk.Rep E w M Y s) (hf:s.fr=bs++[f]) (hs:Mk.Small s) (ha:∀ x∈s.sc,x.ahead≤E.n) (ht:t.size≤1048576)
  (hpl:∀ (j:Nat) d,E.D[j]?=some d→d.par.length≤1000∧∀ p∈d.par,p.1.size≤maxLen):
  Calls Tryz.prog 132 #[.pointer (some ⟨M,0,none⟩),.agg #[.int .i64 k,.string t,.int .i64 ta]] w fun x w'=>Mk.Ans E w M Y (Mk.atom E.D s k t) x w':=by
 have hR:Mk.atom E.D s k t=if k=4 then(if isT t.data.toList=true then Mk.bank s (Tm.num s.N (T.dv t.data.toList)) else(s,(101:Int)))
  else if k=6 then Mk.bank s (Tm.str s.N (Lt.runsMost (Lt.pts t.data.toList)).2)
  else if k=3 then Mk.name E.D s t else(s,101):=rfl
 have hsN:=hs.N
 obtain⟨W0,hW0⟩:∃ W0,w.alloc (.cells #[.int .i64 k,.string t,.int .i64 ta] 24)=W0:=⟨_,rfl⟩
 have hB0:Below w.heap.size w W0:=by rw[←hW0];exact(Below.refl _ w).alloc (Nat.le_refl _) _
 have hL0:Lies W0 w.heap.size 24 #[.int .i64 k,.string t,.int .i64 ta]:=by rw[←hW0];exact Lies.new w _ _
 have hup:∀ {W:World},Below W0.heap.size W0 W→Below w.heap.size w W:=fun hW=>hB0.trans (hW.mono hB0.size)
 have HS:Hid (∀ W,Below W0.heap.size W0 W→Mk.Left E w M Y s W):=fun W hW=>Mk.Left.same h (hup hW)
 have HM0:Hid (∀ W,Below W0.heap.size W0 W→M<W.heap.size∧W.cell? ⟨M,0,none⟩=some (.pointer (some ⟨E.bk,0,none⟩))):=fun W hW=>⟨(h.below (hup hW)).own.lt,by rw[(h.below (hup hW)).own.cell];rfl⟩
 have k0:=hL0.cell 0
 have k1:=hL0.cell 1
 have k2:=hL0.cell 2
 have kl:=hL0.lt
 simp at k0 k1 k2
 have hout:=h.out
 by_cases h4:k=4
 ·subst h4
  rw[if_pos rfl] at hR
  by_cases hd:isT t.data.toList=true
  ·rw[if_pos hd] at hR
   have HP:=Lib.hid (parse_good t W0 (by unfold maxLen;omega) hd)
   have HK:Hid (∀ W v,Below W0.heap.size W0 W→Num W v (T.dv t.data.toList)→∃ A n c,v=.slice A n c∧Calls Tryz.prog 168 #[.pointer (some ⟨E.bk,0,none⟩),.agg #[.bool false,.slice A n c]] W fun e w1=>∃ q1 q2:Int,e=.returned (.tuple #[.int .i64 q1,.int .i64 q2])∧Calls Tryz.prog 162 #[.pointer (some ⟨M,0,none⟩),.int .i64 q1,.int .i64 q2] w1 fun x w'=>Mk.Ans E w M Y (Mk.atom E.D s 4 t) x w'):=fun W v hW hv=>by
    obtain⟨A,n,c,rfl,hi,hn⟩:=hv.few (digits_few hd)
    rw[hR]
    have hRW:=h.below (hup hW)
    exact⟨A,n,c,rfl,(knum9 W E.bk Y.Fb s.N hRW.bank false A n c _ hi hn (by omega) (hRW.pow hE)).mono fun e w1 q=>⟨_,_,(Mk.banked hRW q).1,(Mk.given (Mk.banked hRW q).2 hf hs).mono fun x w' q=>q.up (hup hW)⟩⟩
   generalize Mk.atom E.D s 4 t=R at HK ⊢
   obtain⟨bk,hbk⟩:∃ bk,E.bk=bk:=⟨_,rfl⟩
   rw[hbk] at HK HM0
   obtain⟨N,hN⟩:∃ N,T.dv t.data.toList=N:=⟨_,rfl⟩
   rw[hN] at HP HK
   clear h hf hs ha ht hpl hsN hB0 hL0 hup HS hout hd hbk hN hR
   go_enter Tryz.func132,Tryz.ntmps132
   go_wp2_with fail
   refine HP.out.mono ?_
   rintro e w1 ⟨v,rfl,hv,b1⟩
   obtain⟨A,n,c,rfl,hc⟩:=HK.out w1 v b1 hv
   have HC:=Lib.hid hc
   obtain⟨mM,m0⟩:=HM0.out w1 b1
   clear HP HK HM0 hv b1 hc k0 k1 k2
   go_wp2_with fail
   refine HC.out.mono ?_
   rintro e w2 ⟨q1,q2,rfl,hg⟩
   have HGv:=Lib.hid hg
   clear HC hg m0
   go_wp2_with fail
   refine HGv.out.mono ?_
   rintro e w3 ⟨rfl,v⟩
   have V:=Lib.hid v
   clear HGv v
   go_wp2
   go_ret
   exact⟨rfl,V.out⟩
  ·rw[if_neg hd] at hR
   have HP:=Lib.hid (parse_bad t W0 (by unfold maxLen;omega) (by simpa using hd))
   have HV:=Lib.hid (HS.out W0 (Below.refl _ _))
   rw[hR]
   clear h hf hs ha ht hpl hsN hB0 hL0 hup HS hout hd hR HM0
   go_enter Tryz.func132,Tryz.ntmps132
   go_wp2_with fail
   refine HP.out.mono ?_
   rintro e w1 ⟨rfl,rfl⟩
   clear HP
   go_wp2
   go_ret
   exact⟨rfl,HV.out⟩
 ·rw[if_neg h4] at hR
  have hb4:(k == 4)=false:=beq_eq_false_iff_ne.2 h4
  by_cases h6:k=6
  ·subst h6
   rw[if_pos rfl] at hR
   have HPt:=Lib.hid (kpoints10 t W0 (by omega) (hG.below (h.below hB0).base))
   obtain⟨hl1,hl2⟩:=Lt.pts_facts _ t.data.toList (Nat.le_refl _)
   rw[Lt.len_bytes] at hl1
   obtain⟨m1,m2⟩:=Lt.most_in _ hl2 (by omega)
   have HRn:Hid (∀ W A c,OwnN W W0.heap.size A c (Lt.pts t.data.toList)→Calls Tryz.prog 169 #[.slice A (Lt.pts t.data.toList).length c] W fun e w'=>RunsSaid W (Lt.runsMost (Lt.pts t.data.toList)) e w'):=fun W A c ho=>
    kruns10 W A _ c _ (ho.nums rfl) (by omega)
   have HK:Hid (∀ W1 W A c,Below W0.heap.size W0 W1→Below W1.heap.size W1 W→OwnR W W1.heap.size A c (Lt.runsMost (Lt.pts t.data.toList)).2→Calls Tryz.prog 171 #[.pointer (some ⟨E.bk,0,none⟩),.slice A (Lt.runsMost (Lt.pts t.data.toList)).2.length c] W fun e w1=>∃ q1 q2:Int,e=.returned (.tuple #[.int .i64 q1,.int .i64 q2])∧Calls Tryz.prog 162 #[.pointer (some ⟨M,0,none⟩),.int .i64 q1,.int .i64 q2] w1 fun x w'=>Mk.Ans E w M Y (Mk.atom E.D s 6 t) x w'):=fun W1 W A c hW1 hW ho=>by
    have hW2:=hup (hW1.trans (hW.mono hW1.size))
    have hRW:=h.below hW2
    rw[hR]
    exact(kstr9 W E.bk Y.Fb s.N hRW.bank A _ c _ (ho.runs rfl) m2 (ho.gs rfl) (fun k hk e=>hout k (Nat.le_trans (hup hW1).size hk) (.inr (.inl e))) m1 (by omega) (hRW.pow hE)).mono fun e w1 q=>⟨_,_,(Mk.banked hRW q).1,(Mk.given (Mk.banked hRW q).2 hf hs).mono fun x w' q=>q.up hW2⟩
   generalize Mk.atom E.D s 6 t=R at HK ⊢
   obtain⟨bk,hbk⟩:∃ bk,E.bk=bk:=⟨_,rfl⟩
   rw[hbk] at HK HM0
   generalize Lt.pts t.data.toList=L at HPt HRn HK
   generalize Lt.runsMost L=X at HRn HK
   clear h hf hs ha ht hpl hsN hB0 hL0 hup HS hout hR hbk hl1 hl2 m1 m2 h4
   go_enter Tryz.func132,Tryz.ntmps132
   go_wp2_with fail
   refine HPt.out.mono ?_
   rintro e w1 ⟨⟨A,c,rfl,ho⟩,b1⟩
   have HR1:=Lib.hid (HRn.out w1 A c ho)
   have B1:=Lib.hid b1
   obtain⟨ln,hln⟩:∃ ln,L.length=ln:=⟨_,rfl⟩
   rw[hln] at HR1 ⊢
   clear HPt HRn ho b1 k0 k1 k2 hln
   go_wp2_with fail
   refine HR1.out.mono ?_
   rintro e w2 ⟨⟨A2,c2,rfl,ho⟩,b2⟩
   have HC:=Lib.hid (HK.out w1 w2 A2 c2 B1.out b2 ho)
   obtain⟨mM,m0⟩:=HM0.out w2 (B1.out.trans (b2.mono B1.out.size))
   obtain⟨xn,hxn⟩:∃ xn,X.2.length=xn:=⟨_,rfl⟩
   obtain⟨x1,hx1⟩:∃ x1,X.1=x1:=⟨_,rfl⟩
   rw[hxn] at HC ⊢
   rw[hx1]
   clear HR1 HK HM0 ho b2 B1 hxn hx1
   go_wp2_with fail
   refine HC.out.mono ?_
   rintro e w3 ⟨q1,q2,rfl,hg⟩
   have HGv:=Lib.hid hg
   clear HC hg m0
   go_wp2_with fail
   refine HGv.out.mono ?_
   rintro e w4 ⟨rfl,v⟩
   have V:=Lib.hid v
   clear HGv v
   go_wp2
   go_ret
   exact⟨rfl,V.out⟩
  ·rw[if_neg h6] at hR
   have hb6:(k == 6)=false:=beq_eq_false_iff_ne.2 h6
   by_cases h3:k=3
   ·subst h3
    rw[if_pos rfl] at hR
    have HN:=Lib.hid ((kname E hE W0 M Y s bs f t (h.below hB0) hf hs ha ht hpl).mono fun x w' q=>q.up hB0)
    rw[hR]
    generalize Mk.name E.D s t=R at HN ⊢
    clear h hf hs ha ht hpl hsN hB0 hL0 hup HS hout hR HM0 h4 h6
    go_enter Tryz.func132,Tryz.ntmps132
    go_wp2_with fail
    refine HN.out.mono ?_
    rintro e w1 ⟨rfl,v⟩
    have V:=Lib.hid v
    clear HN v
    go_wp2
    go_ret
    exact⟨rfl,V.out⟩
   ·rw[if_neg h3] at hR
    have hb3:(k == 3)=false:=beq_eq_false_iff_ne.2 h3
    have HV:=Lib.hid (HS.out W0 (Below.refl _ _))
    rw[hR]
    clear h hf hs ha ht hpl hsN hB0 hL0 hup HS hout hR HM0 h4 h6 h3
    go_enter Tryz.func132,Tryz.ntmps132
    go_wp2
    go_ret
    exact⟨rfl,HV.out⟩
theorem kpart (E:Mk.Env) (hE:E.Ok) (hG:Gl E.w0) (w:World) (M:Nat) (Y:Mk.Lay) (s:Ms) (bs:List Fr) (f:Fr) (x:Sx) (A:Option Addr) (c:Nat) (h:Mk.Rep E w M Y s) (hf:s.fr=bs++[f]) (hs:Mk.Small s) (ha:∀ x∈s.sc,x.ahead≤E.n) (hx:STree w (fun b _=>¬Mk.foot M Y b) x A c) (hfi:Sx.Fine x)
  (hpl:∀ (j:Nat) d,E.D[j]?=some d→d.par.length≤1000∧∀ p∈d.par,p.1.size≤maxLen):
  Calls Tryz.prog 93 #[.pointer (some ⟨M,0,none⟩),sval x A c] w fun e w'=>Mk.Ans E w M Y (Mk.part E.D s x) e w':=by
 obtain⟨xl,xk,xT,xta,xa,xL⟩:=x
 obtain⟨W0,hW0⟩:∃ W0,w.alloc (sbox ⟨xl,xk,xT,xta,xa,xL⟩ A c)=W0:=⟨_,rfl⟩
 have hB0:Below w.heap.size w W0:=by rw[←hW0];exact(Below.refl _ w).alloc (Nat.le_refl _) _
 have hL0:Lies W0 w.heap.size 27 #[.bool xl,.int .i64 xk,.string xT,.int .i64 xta,.int .i64 xa,.slice A xL.length c]:=by rw[←hW0];exact Lies.new w _ _
 have k0:=hL0.cell 0
 have k1:=hL0.cell 1
 have k2:=hL0.cell 2
 have k3:=hL0.cell 3
 have k5:=hL0.cell 5
 have kl:=hL0.lt
 simp at k0 k1 k2 k3 k5
 unfold sval
 unfold sbox at hW0
 simp only at hW0 ⊢
 have hR:Mk.part E.D s ⟨xl,xk,xT,xta,xa,xL⟩=if xl=true then Mk.list E.D s xL else Mk.atom E.D s xk xT:=rfl
 cases xl with
 |true=>
  rw[if_pos rfl] at hR
  rw[hR]
  have HC:=Lib.hid ((klist10 E hE W0 M Y s bs f A c xL (h.below hB0) hf hs ha (hx.tree.kept hB0) hx.le hfi.len hfi.all).mono fun x w' q=>q.up hB0)
  obtain⟨n,hn⟩:∃ n,xL.length=n:=⟨_,rfl⟩
  rw[hn] at HC k5 hW0 ⊢
  generalize Mk.list E.D s xL=R at HC ⊢
  clear h hf hs ha hx hfi hpl hB0 hL0 hR hn
  go_enter Tryz.func93,Tryz.ntmps93
  go_wp2_with fail
  refine HC.out.mono ?_
  rintro e w1 ⟨rfl,v⟩
  have V:=Lib.hid v
  clear HC v
  go_wp2
  go_ret
  exact⟨rfl,V.out⟩
 |false=>
  rw[if_neg (by decide)] at hR
  rw[hR]
  have HC:=Lib.hid ((katom10 E hE hG W0 M Y s bs f xk xT xta (h.below hB0) hf hs ha hfi.T hpl).mono fun x w' q=>q.up hB0)
  obtain⟨n,hn⟩:∃ n,xL.length=n:=⟨_,rfl⟩
  rw[hn] at k5 hW0 ⊢
  generalize Mk.atom E.D s xk xT=R at HC ⊢
  clear h hf hs ha hx hfi hpl hB0 hL0 hR hn
  go_enter Tryz.func93,Tryz.ntmps93
  go_wp2_with fail
  refine HC.out.mono ?_
  rintro e w1 ⟨rfl,v⟩
  have V:=Lib.hid v
  clear HC v
  go_wp2
  go_ret
  exact⟨rfl,V.out⟩
theorem cut_sc {A:Option Addr} {n c k:Nat} (W:World) (hA:A.map (·.add 0)=A) (hk:k≤c):(Instr.slice 121 (.slice A n c) none (some (.int .i64 (k:Nat))) none).run Tryz.prog W=.ok (.slice A k c) W:=by
 have hz:(sizeOf (Tryz.prog.elem 121)).run Tryz.prog W=.ok 3 W:=by kernel_rfl
 rw[run_slice_h W 121 A n c (by kernel_rfl) .i64 (k:Nat) (by omega) (by omega),hz]
 simp only[Result.andThen,sliced]
 have e:(if c=0 then A else A.map (·.add (0*3)))=A:=by
  split
  ·rfl
  ·rw[Nat.zero_mul];exact hA
 rw[e]
 simp
theorem row_addr {w:World} {base:Nat} {e:TypeId} {size n c:Nat} {A:Option Addr} {xs:List Value} (h:w.ownsRow base e size (.slice A n c) n xs):A.map (·.add 0)=A∧n≤c:=by
 rcases h.2 with⟨e,h0⟩|⟨g,cap,cur,e,_,_,q3,_⟩
 ·injection e with e1 _ e3
  subst e1
  exact⟨rfl,by omega⟩
 ·injection e with e1 _ e3
  subst e1
  subst e3
  exact⟨by simp[addr_add],q3⟩
theorem kstep_part (E:Mk.Env) (hE:E.Ok) (hG:Gl E.w0) (w:World) (M:Nat) (Y:Mk.Lay) (s:Ms) (bs:List Fr) (f:Fr) (x:Sx) (h:Mk.Rep E w M Y s) (hf:s.fr=bs++[f]) (hs:Mk.Small s) (ha:∀ x∈s.sc,x.ahead≤E.n) (hsc:f.sc≤s.sc.length) (hxp:f.parts[f.ids.length]?=some x) (hfi:Sx.Fine x) (hpn:f.parts.length≤1000)
  (hpl:∀ (j:Nat) d,E.D[j]?=some d→d.par.length≤1000∧∀ p∈d.par,p.1.size≤maxLen):
  Calls Tryz.prog 65 #[.pointer (some ⟨M,0,none⟩)] w fun e w'=>Mk.Ans E w M Y (Mk.step E.D s) e w':=by
 rw[Mk.step_part hf hxp]
 obtain⟨FB,P,gf,hFL,hFB,hfA,hgl,hgF,hc,hfz⟩:=h.last hf
 have hlen:s.fr.length=bs.length+1:=by rw[hf];simp
 have hq:(P,f)∈Y.FL:=by rw[hFL];simp
 have hP:=h.fas _ hq
 have hilt:=(List.getElem?_eq_some_iff.1 hxp).1
 have c5:w.cell? ⟨M,5,none⟩=some (.slice (some ⟨gf,0,none⟩) (bs.length+1) Y.fc):=by rw[h.own.cell,←hlen,←hfA];rfl
 have hMl:=h.own.lt
 have hvf:=hP.th.form
 obtain⟨W1,hW1⟩:∃ W1,W1=(w.alloc (.cells #[.slice P.pA f.parts.length P.pc,.slice P.iA f.ids.length P.ic,P.v,.int .i64 (f.sc:Int),.int .i64 (f.dp:Int)] 130)).drew:=⟨_,rfl⟩
 have hb1:Below w.heap.size w W1:=by
  have:=(Below.refl w.heap.size w).alloc (Nat.le_refl _) (.cells #[.slice P.pA f.parts.length P.pc,.slice P.iA f.ids.length P.ic,P.v,.int .i64 (f.sc:Int),.int .i64 (f.dp:Int)] 130)
  rw[hW1]
  exact⟨this.os,this.tape,this.output,this.size,this.block⟩
 have hl1:Lies W1 w.heap.size 130 #[.slice P.pA f.parts.length P.pc,.slice P.iA f.ids.length P.ic,P.v,.int .i64 (f.sc:Int),.int .i64 (f.dp:Int)]:=by rw[hW1];exact Lies.new w _ _
 have h1:=h.below hb1
 have hcut:=(h1.drew).cut hsc
 obtain⟨rA,rC⟩:=row_addr h.srow
 obtain⟨W2,hW2⟩:∃ W2,W2=W1.drew.setCell ⟨M,4,none⟩ (.slice Y.sA f.sc Y.sc):=⟨_,rfl⟩
 rw[←hW2] at hcut
 have hl2:Lies W2 w.heap.size 130 #[.slice P.pA f.parts.length P.pc,.slice P.iA f.ids.length P.ic,P.v,.int .i64 (f.sc:Int),.int .i64 (f.dp:Int)]:=Mk.lies_left hcut (show Lies W1.drew _ _ _ from hl1) (h.out _ (Nat.le_refl _))
 obtain⟨b3,o3,x',A3,c3,hpA,hx',hs3,hg3,hle3,ht3⟩:=hP.tree.get hilt
 obtain rfl:x'=x:=by rw[hx'] at hxp;exact Option.some.inj hxp
 obtain⟨Y2,r2,t2,y2,a2⟩:=hcut.apart
 have hb1d:Below w.heap.size w W1.drew:=⟨hb1.os,hb1.tape,hb1.output,hb1.size,hb1.block⟩
 have htx:TreeL W2 (fun b _=>¬Mk.foot M Y2 b) A3 x'.L:=(ht3.turn9 (F:=fun _=>False) (G':=fun k=>¬Mk.foot M Y k) (Turn.of_below hb1d) fun k _ hk=>⟨id,hk⟩).turn9 t2 a2
 have hsm:Mk.Small { s with sc:=s.sc.take f.sc }:=⟨hs.fr,by show(s.sc.take f.sc).length≤_;rw[List.length_take];have:=hs.sc;omega,hs.ids,hs.N⟩
 have HPart:=Lib.hid ((kpart E hE hG W2 M Y2 { s with sc:=s.sc.take f.sc } bs f x' A3 c3 r2 hf hsm (fun y hy=>ha y (List.mem_of_mem_take hy)) ⟨hle3,htx⟩ hfi hpl).mono fun e w' q=>show Mk.Ans E w M Y _ e w' from⟨q.1,(q.2.after t2 y2).up hb1d⟩)
 have hcx:∀ (p:Addr) v,p.block=b3→w.cell? p=some v→W2.cell? p=some v:=fun p v hp hv=>by
  have h3:b3<w.heap.size:=hs3.lt
  rw[t2.cell (p:=p) (by rw[hp];exact Nat.lt_of_lt_of_le h3 hb1d.size) (by rw[hp];exact hg3),hb1d.cell (p:=p) (by rw[hp];exact h3)]
  exact hv
 obtain⟨n,hn⟩:∃ n,f.ids.length=n:=⟨_,rfl⟩
 rw[hn] at hs3 hilt
 have z0:=hcx _ _ rfl hs3.c0
 have z1:=hcx _ _ rfl hs3.c1
 have z2:=hcx _ _ rfl hs3.c2
 have z3:=hcx _ _ rfl hs3.c3
 have z4:=hcx _ _ rfl hs3.c4
 have z5:=hcx _ _ rfl hs3.c5
 have d0:=hc 0 _ rfl
 have d1:=hc 1 _ rfl
 have d2:=hc 2 _ rfl
 have d3:=hc 3 _ rfl
 have d4:=hc 4 _ rfl
 rw[Nat.add_zero] at d0
 have e4:W1.cell? ⟨M,4,none⟩=some (.slice Y.sA s.sc.length Y.sc):=by rw[h1.own.cell];rfl
 have f4:=h1.own.free 4
 have zM1:=h1.own.lt
 have e3:W1.cell? ⟨w.heap.size,3,none⟩=some (.int .i64 (f.sc:Int)):=by rw[hl1.cell];rfl
 have g0:W2.cell? ⟨w.heap.size,0,none⟩=some (.slice P.pA f.parts.length P.pc):=by rw[hl2.cell];rfl
 have g1:W2.cell? ⟨w.heap.size,1,none⟩=some (.slice P.iA f.ids.length P.ic):=by rw[hl2.cell];rfl
 have ll1:=hl1.lt
 have ll2:=hl2.lt
 have HC5:Hid (∀ o,w.drew.alloc o=w.drew.alloc o∧(w.drew.alloc o).cell? ⟨M,5,none⟩=some (.slice (some ⟨gf,0,none⟩) (bs.length+1) Y.fc)∧∀ j u,(fcells (P,f))[j]?=some u→(w.drew.alloc o).cell? ⟨gf,bs.length*5+j,none⟩=some u):=fun o=>
  ⟨rfl,(((Below.refl w.heap.size w.drew).alloc (Nat.le_refl _) o).cell (p:=⟨M,5,none⟩) hMl).trans c5,fun j u hu=>(((Below.refl w.heap.size w.drew).alloc (Nat.le_refl _) o).cell (p:=⟨gf,_,none⟩) hgl).trans (hc j u hu)⟩
 have hscut:∀ W:World,(Instr.slice 121 (.slice Y.sA s.sc.length Y.sc) none (some (.int .i64 (f.sc:Int))) none).run Tryz.prog W=.ok (.slice Y.sA f.sc Y.sc) W:=fun W=>cut_sc W rA (by omega)
 rw[hn] at d1 g1 hW1
 simp only at d0 d1 d2 d3 d4
 obtain⟨m,hm⟩:∃ m,bs.length=m:=⟨_,rfl⟩
 have hm4:m≤4900:=by have:=hs.fr;omega
 rw[hm] at c5 d0 d1 d2 d3 d4 HC5
 rw[hpA] at d0 g0 hW1
 generalize Mk.part E.D { s with sc:=s.sc.take f.sc } x'=R at HPart ⊢
 unfold sval at HPart
 obtain⟨pn,hpn'⟩:∃ pn,f.parts.length=pn:=⟨_,rfl⟩
 obtain⟨sn,hsn⟩:∃ sn,s.sc.length=sn:=⟨_,rfl⟩
 obtain⟨xn,hxn⟩:∃ xn,x'.L.length=xn:=⟨_,rfl⟩
 obtain⟨fs,hfs⟩:∃ fs,f.sc=fs:=⟨_,rfl⟩
 obtain⟨fd,hfd⟩:∃ fd,f.dp=fd:=⟨_,rfl⟩
 obtain⟨v,hv⟩:∃ v,P.v=v:=⟨_,rfl⟩
 rw[hpn'] at d0 g0 hW1 hilt
 rw[hsn] at e4 hscut
 rw[hxn] at z5 HPart
 rw[hfs] at d3 e3 hW1 hscut hW2
 rw[hfd] at d4 hW1
 rw[hv] at d2 hW1 hvf
 have hni:(n:Int)<(pn:Int):=by omega
 have hn0:(0:Int)≤(n:Int):=by omega
 have hm1:((m:Int)+1)-1=(m:Int):=by omega
 have hwm:IntKind.i64.wrap (m:Int)=(m:Int):=IntWalk.i64_in _ (by omega)
 have hwm1:IntKind.i64.wrap ((m:Int)+1-1)=(m:Int):=by rw[hm1];exact hwm
 have hmi:(0:Int)≤(m:Int):=by omega
 have hml:(m:Int)<(m:Int)+1:=by omega
 have HS:Hid (w.drew.cell? ⟨M,5,none⟩=some (.slice (some ⟨gf,0,none⟩) (m+1) Y.fc)∧w.drew.cell? ⟨gf,m*5,none⟩=some (.slice (some ⟨b3,o3,none⟩) pn P.pc)∧w.drew.cell? ⟨gf,m*5+1,none⟩=some (.slice P.iA n P.ic)∧w.drew.cell? ⟨gf,m*5+2,none⟩=some v∧w.drew.cell? ⟨gf,m*5+3,none⟩=some (.int .i64 (fs:Int))∧w.drew.cell? ⟨gf,m*5+4,none⟩=some (.int .i64 (fd:Int))):=⟨c5,d0,d1,d2,d3,d4⟩
 have HSo:Hid (∀ o,(w.drew.alloc o).cell? ⟨M,5,none⟩=some (.slice (some ⟨gf,0,none⟩) (m+1) Y.fc)∧(w.drew.alloc o).cell? ⟨gf,m*5,none⟩=some (.slice (some ⟨b3,o3,none⟩) pn P.pc)∧(w.drew.alloc o).cell? ⟨gf,m*5+1,none⟩=some (.slice P.iA n P.ic)∧(w.drew.alloc o).cell? ⟨gf,m*5+2,none⟩=some v∧(w.drew.alloc o).cell? ⟨gf,m*5+3,none⟩=some (.int .i64 (fs:Int))∧(w.drew.alloc o).cell? ⟨gf,m*5+4,none⟩=some (.int .i64 (fd:Int))):=fun o=>by
  have b:=fun(k i:Nat) (hk:k<w.heap.size)=>((Below.refl w.heap.size w.drew).alloc (Nat.le_refl _) o).cell (p:=⟨k,i,none⟩) hk
  obtain⟨q1,q2,q3,q4,q5,q6⟩:=HS.out
  exact⟨(b _ _ hMl).trans q1,(b _ _ hgl).trans q2,(b _ _ hgl).trans q3,(b _ _ hgl).trans q4,(b _ _ hgl).trans q5,(b _ _ hgl).trans q6⟩
 clear h hf hs ha hsc hxp hfi hpn hpl hFL hFB hfA hgF hc hfz hlen hq hP hb1 hl1 h1 hcut rA rC hl2 hpA hx' hs3 hg3 hle3 ht3 r2 t2 y2 a2 hb1d htx hsm hcx HC5 hn hm hpn' hsn hxn hfs hfd hv c5 d0 d1 d2 d3 d4
 rcases hvf with rfl|⟨fn,fa,fb,rfl⟩
 ·have hst:∀ (a:Addr) (W:World),(store a Value.nilFunc .plain).run Tryz.prog W=stored Tryz.prog W a Value.nilFunc .plain:=fun a W=>run_store Tryz.prog W a _ _ rfl
  go_enter Tryz.func65,Tryz.ntmps65
  go_wp2_with fail
  go_region_held3 (fun W=>W.cell? ⟨M,5,none⟩=some (.slice (some ⟨gf,0,none⟩) (m+1) Y.fc)∧W.cell? ⟨gf,m*5,none⟩=some (.slice (some ⟨b3,o3,none⟩) pn P.pc)∧W.cell? ⟨gf,m*5+1,none⟩=some (.slice P.iA n P.ic)∧W.cell? ⟨gf,m*5+2,none⟩=some Value.nilFunc∧W.cell? ⟨gf,m*5+3,none⟩=some (.int .i64 (fs:Int))∧W.cell? ⟨gf,m*5+4,none⟩=some (.int .i64 (fd:Int)))
   (first|(with_reducible exact HS.out)|exact HSo.out _)
   (fail)
  rw[←hW1]
  have hV1:W1.drew.setCell ⟨M,4,none⟩ (.slice Y.sA fs Y.sc)=W2:=hW2.symm
  have hV2:(W1.setCell ⟨M,4,none⟩ (.slice Y.sA fs Y.sc)).drew=W2:=hW2.symm
  clear hW1 hW2 HS HSo hst
  go_wp2_with fail
  go_still_tail 10,(by kernel_rfl)
  change wpList _ _ _ _ _ W1.drew
  go_wp2_with fail
  refine HPart.out.mono ?_
  rintro e w3 ⟨rfl,v⟩
  have V:=Lib.hid v
  clear HPart v
  go_wp2
  go_ret
  exact⟨rfl,V.out⟩
 ·have hst:∀ (a:Addr) (W:World),(store a (.func fn fa fb) .plain).run Tryz.prog W=stored Tryz.prog W a (.func fn fa fb) .plain:=fun a W=>run_store Tryz.prog W a _ _ rfl
  go_enter Tryz.func65,Tryz.ntmps65
  go_wp2_with fail
  go_region_held3 (fun W=>W.cell? ⟨M,5,none⟩=some (.slice (some ⟨gf,0,none⟩) (m+1) Y.fc)∧W.cell? ⟨gf,m*5,none⟩=some (.slice (some ⟨b3,o3,none⟩) pn P.pc)∧W.cell? ⟨gf,m*5+1,none⟩=some (.slice P.iA n P.ic)∧W.cell? ⟨gf,m*5+2,none⟩=some (.func fn fa fb)∧W.cell? ⟨gf,m*5+3,none⟩=some (.int .i64 (fs:Int))∧W.cell? ⟨gf,m*5+4,none⟩=some (.int .i64 (fd:Int)))
   (first|(with_reducible exact HS.out)|exact HSo.out _)
   (fail)
  rw[←hW1]
  have hV1:W1.drew.setCell ⟨M,4,none⟩ (.slice Y.sA fs Y.sc)=W2:=hW2.symm
  have hV2:(W1.setCell ⟨M,4,none⟩ (.slice Y.sA fs Y.sc)).drew=W2:=hW2.symm
  clear hW1 hW2 HS HSo hst
  go_wp2_with fail
  go_still_tail 10,(by kernel_rfl)
  change wpList _ _ _ _ _ W1.drew
  go_wp2_with fail
  refine HPart.out.mono ?_
  rintro e w3 ⟨rfl,v⟩
  have V:=Lib.hid v
  clear HPart v
  go_wp2
  go_ret
  exact⟨rfl,V.out⟩
theorem Mk.Rep.pop2 {E:Mk.Env} {w:World} {M:Nat} {Y:Mk.Lay} {s:Ms} (h:Mk.Rep E w M Y s) {bs:List Fr} {f:Fr} (hf:s.fr=bs++[f]) {FB:List (FrP×Fr)} {P:FrP} (hL:Y.FL=FB++[(P,f)]):∃ Y',Mk.Rep E (w.setCell ⟨M,5,none⟩ (.slice Y.fA bs.length Y.fc)) M Y' { s with fr:=bs }∧Turn (Mk.foot M Y) w (w.setCell ⟨M,5,none⟩ (.slice Y.fA bs.length Y.fc))∧(∀ k,Mk.foot M Y' k→Mk.foot M Y k)∧∀ g,blkOf P.iA=some g→¬Mk.foot M Y' g:=by
 have hfl:=h.fl
 rw[hf] at hfl
 have hFL:=hL
 rw[hL,List.map_append] at hfl
 have hFB:FB.map (·.2)=bs:=(List.append_inj' hfl rfl).1
 have hlen:s.fr.length=bs.length+1:=by rw[hf];simp
 have hFBl:FB.length=bs.length:=by rw[←hFB,List.length_map]
 have hsub:∀ q∈FB,q∈Y.FL:=fun q hq=>by rw[hFL];exact List.mem_append_left _ hq
 have t2:Turn (fun k=>k=M) w (w.setCell ⟨M,5,none⟩ (.slice Y.fA bs.length Y.fc)):=(Turn.refl (fun k=>k=M) w).put (p:=⟨M,5,none⟩) (.inl rfl) _
 have hT':Turn (Mk.foot M Y) w (w.setCell ⟨M,5,none⟩ (.slice Y.fA bs.length Y.fc)):=t2.mono fun i _ hi=> .inl hi
 have hY0:∀ k,Mk.foot M { Y with FL:=FB } k→Mk.foot M Y k:=fun k hk=>by
  rcases hk with e|e|e|e|e|⟨q,hq,e⟩
  ·exact(.inl e)
  ·exact(.inr (.inl e))
  ·exact(.inr (.inr (.inl e)))
  ·exact(.inr (.inr (.inr (.inl e))))
  ·exact(.inr (.inr (.inr (.inr (.inl e)))))
  ·exact(.inr (.inr (.inr (.inr (.inr ⟨q,hsub q hq,e⟩)))))
 have hY:∀ k,Mk.foot M { Y with FL:=FB } k→Mk.foot M Y k∨w.heap.size≤k:=fun k hk=> .inl (hY0 k hk)
 obtain⟨o1,o2,o3,o4,o5⟩:=h.outer hT' hY
 have hG:∀ k,k<w.heap.size→¬Mk.foot M Y k→¬(k=M)∧¬Mk.foot M { Y with FL:=FB } k:=fun k hlt hk=>⟨fun e=>hk (.inl e),(o5 k hlt hk).2⟩
 have hrow:=ownsRow_cut h.frow (k:=bs.length) (by omega)
 have hcut:(Y.FL.flatMap fcells).take (bs.length*5)=FB.flatMap fcells:=by
  rw[hFL,List.flatMap_append,List.take_left' (by rw[fc_len,hFBl])]
 rw[hcut] at hrow
 have hap:=h.apart
 rw[hFL,List.pairwise_append] at hap
 refine⟨{ Y with FL:=FB },⟨o1,o2,h.own.put 5 _,h.bank.turn t2 (fun k hk e=>h.xM (e▸hk)),h.made.turn t2 (fun e=>h.M_m e.symm),
  t2.own h.srow (fun g hg e=>h.M_s (by rw[blk_eq] at hg;exact e▸hg)),h.sl,fun q hq=>(h.sas q hq).turn t2 hG,t2.own hrow (fun g hg e=>h.M_f (by rw[blk_eq] at hg;exact e▸hg)),hFB,fun q hq=>(h.fas q (hsub q hq)).turn t2 hG,
  fun q hq=>t2.own (h.ids q (hsub q hq)) (fun g hg e=>h.M_i (hsub q hq) (by rw[blk_eq] at hg;exact e▸hg)),hap.1,h.xM,h.xm,h.xs,h.xf,fun q hq=>h.xi q (hsub q hq),o3,o4⟩,hT',hY0,fun g hg e=>?_⟩
 have hq:(P,f)∈Y.FL:=by rw[hL];simp
 rcases e with e|e|e|e|e|⟨q,hq2,e⟩
 ·exact h.M_i hq (e▸hg)
 ·exact h.xi _ hq g hg e
 ·exact h.m_i hq (e▸hg)
 ·exact h.s_i hq e hg
 ·exact h.f_i hq e hg
 ·exact hap.2.2 q hq2 (P,f) (by simp) g e hg
theorem Mk.Rep.cut2 {E:Mk.Env} {w:World} {M:Nat} {Y:Mk.Lay} {s:Ms} (h:Mk.Rep E w M Y s) {k:Nat} (hk:k≤s.sc.length):∃ Y',Mk.Rep E (w.setCell ⟨M,4,none⟩ (.slice Y.sA k Y.sc)) M Y' { s with sc:=s.sc.take k }∧Turn (Mk.foot M Y) w (w.setCell ⟨M,4,none⟩ (.slice Y.sA k Y.sc))∧(∀ k,Mk.foot M Y' k→Mk.foot M Y k∨w.heap.size≤k)∧Y'.FL=Y.FL∧Y'.fA=Y.fA∧Y'.fc=Y.fc:=by
 have hSl:Y.SL.length=s.sc.length:=by rw[←h.sl,List.length_map]
 have hlen:(s.sc.take k).length=k:=by rw[List.length_take];exact Nat.min_eq_left hk
 have t2:Turn (fun k=>k=M) w (w.setCell ⟨M,4,none⟩ (.slice Y.sA k Y.sc)):=(Turn.refl (fun k=>k=M) w).put (p:=⟨M,4,none⟩) (.inl rfl) _
 have hT':Turn (Mk.foot M Y) w (w.setCell ⟨M,4,none⟩ (.slice Y.sA k Y.sc)):=t2.mono fun i _ hi=> .inl hi
 have hY:∀ i,Mk.foot M { Y with SL:=Y.SL.take k } i→Mk.foot M Y i∨w.heap.size≤i:=fun i hi=> .inl hi
 obtain⟨o1,o2,o3,o4,o5⟩:=h.outer hT' hY
 have hG:∀ i,i<w.heap.size→¬Mk.foot M Y i→¬(i=M)∧¬Mk.foot M { Y with SL:=Y.SL.take k } i:=fun i hlt hi=>⟨fun e=>hi (.inl e),(o5 i hlt hi).2⟩
 have hrow:=ownsRow_cut h.srow hk
 have hcut:(Y.SL.flatMap scells9).take (k*3)=(Y.SL.take k).flatMap scells9:=by
  conv=>lhs;rw[←List.take_append_drop k Y.SL]
  rw[List.flatMap_append,List.take_left' (by rw[sc_len,List.length_take,hSl,Nat.min_eq_left hk])]
 rw[hcut] at hrow
 refine⟨{ Y with SL:=Y.SL.take k },⟨o1,o2,by rw[hlen];exact h.own.put 4 _,h.bank.turn t2 (fun k hk e=>h.xM (e▸hk)),h.made.turn t2 (fun e=>h.M_m e.symm),
  by rw[hlen];exact t2.own hrow (fun g hg e=>h.M_s (by rw[blk_eq] at hg;exact e▸hg)),by rw[List.map_take,h.sl],fun q hq=>(h.sas q (List.mem_of_mem_take hq)).turn t2 hG,t2.own h.frow (fun g hg e=>h.M_f (by rw[blk_eq] at hg;exact e▸hg)),h.fl,fun q hq=>(h.fas q hq).turn t2 hG,
  fun q hq=>t2.own (h.ids q hq) (fun g hg e=>h.M_i hq (by rw[blk_eq] at hg;exact e▸hg)),h.apart,h.xM,h.xm,h.xs,h.xf,h.xi,o3,o4⟩,hT',hY,rfl,rfl,rfl⟩
theorem NumS.of_own {w:World} {A:Option Addr} {n c:Nat} {l:List Int} (h:w.ownsRow 0 3 1 (.slice A n c) n (i64s l)) (hl:l.length=n):NumS w A n l:=
 ⟨hl,fun hn=>by
  rcases h.2 with⟨_,e⟩|⟨g,cap,cur,e,_,hg,_⟩
  ·omega
  ·injection e with e1 _ _
   refine⟨g,0,e1,(Array.getElem?_eq_some_iff.1 hg).1,fun i x hx=>?_⟩
   have:=h.cells (g:=g) (by rw[e1];rfl) i (.int .i64 x) (by rw[List.getElem?_map,hx];rfl)
   simpa [addr_add] using this⟩
theorem cut_fr {A:Option Addr} {n c k:Nat} (W:World) (hA:A.map (·.add 0)=A) (hk:k≤c):(Instr.slice 122 (.slice A n c) none (some (.int .i64 (k:Nat))) none).run Tryz.prog W=.ok (.slice A k c) W:=by
 have hz:(sizeOf (Tryz.prog.elem 122)).run Tryz.prog W=.ok 5 W:=by kernel_rfl
 rw[run_slice_h W 122 A n c (by kernel_rfl) .i64 (k:Nat) (by omega) (by omega),hz]
 simp only[Result.andThen,sliced]
 have e:(if c=0 then A else A.map (·.add (0*5)))=A:=by
  split
  ·rfl
  ·rw[Nat.zero_mul];exact hA
 rw[e]
 simp
theorem kthen (E:Mk.Env) (hE:E.Ok) (hD:Mk.DOk E.D) (w:World) (M:Nat) (Y:Mk.Lay) (s:Ms) (bs:List Fr) (g f:Fr) (v:Value) (A:Option Addr) (n c:Nat) (h:Mk.Rep E w M Y s) (hf:s.fr=bs++[g]) (hs:Mk.Small s) (hb:Mk.Base E.D s) (hfo:Fr.Ok E.D s.N.length f) (hfull:f.parts.length≤f.ids.length) (hn:f.th≠.none)
  (ht:ThAs w (fun k=>¬Mk.foot M Y k) M v f.th) (hA:NumS w A n f.ids) (hg:Gs (fun k=>¬Mk.foot M Y k) A n):
  (∃ b1 b2,v=.func (.func 161) #[] #[.pointer (some ⟨b1,0,none⟩),.pointer (some ⟨b2,0,none⟩)]∧Calls Tryz.prog 161 #[.slice A n c,.pointer (some ⟨b1,0,none⟩),.pointer (some ⟨b2,0,none⟩)] w fun e w'=>Mk.Ans E w M Y (Mk.ends E.D s f.th f.ids) e w')∨
  (∃ b1 b2,v=.func (.func 165) #[] #[.pointer (some ⟨b1,0,none⟩),.pointer (some ⟨b2,0,none⟩)]∧Calls Tryz.prog 165 #[.slice A n c,.pointer (some ⟨b1,0,none⟩),.pointer (some ⟨b2,0,none⟩)] w fun e w'=>Mk.Ans E w M Y (Mk.ends E.D s f.th f.ids) e w')∨
  (∃ b1 b2 b3,v=.func (.func 186) #[] #[.pointer (some ⟨b1,0,none⟩),.pointer (some ⟨b2,0,none⟩),.pointer (some ⟨b3,0,none⟩)]∧Calls Tryz.prog 186 #[.slice A n c,.pointer (some ⟨b1,0,none⟩),.pointer (some ⟨b2,0,none⟩),.pointer (some ⟨b3,0,none⟩)] w fun e w'=>Mk.Ans E w M Y (Mk.ends E.D s f.th f.ids) e w')∨
  (v=.func (.func 187) #[.pointer (some ⟨M,0,none⟩)] #[]∧Calls Tryz.prog 187 #[.pointer (some ⟨M,0,none⟩),.slice A n c] w fun e w'=>Mk.Ans E w M Y (Mk.ends E.D s f.th f.ids) e w')∨
  (∃ b1 b2,v=.func (.func 195) #[] #[.pointer (some ⟨b1,0,none⟩),.pointer (some ⟨b2,0,none⟩)]∧Calls Tryz.prog 195 #[.slice A n c,.pointer (some ⟨b1,0,none⟩),.pointer (some ⟨b2,0,none⟩)] w fun e w'=>Mk.Ans E w M Y (Mk.ends E.D s f.th f.ids) e w'):=by
 have hN:=hb.len
 have hw:∀ z∈f.ids,0≤z∧z≤30000:=fun z hz=>by have:=hfo.ids z hz;omega
 have hwf:∀ z∈f.ids,(Lit.int .i64 z).wf=true:=fun z hz=>WalkArith.wf_i64 (by have:=hw z hz;omega)
 have hlen:=hA.len
 have hle:=hfo.le
 have hl:=hfo.len
 have hth:=hfo.th
 have hEn:E.D.length=E.n:=by rw[←hE.dc.len];exact List.length_map _
 have hpl:∀ (j:Nat) d,E.D[j]?=some d→d.par.length≤1000∧∀ p∈d.par,p.1.size≤maxLen:=fun j d hd=>⟨by have:=(hD.par j d hd).1;omega,fun p hp=>by have:=(hD.par j d hd).2 p hp;unfold maxLen;omega⟩
 cases e:f.th with
 |none=>exact absurd e hn
 |op o=>
  rw[e] at ht hth
  obtain⟨b1,b2,rfl,h1,h2,h3,h4⟩:=ht
  exact .inl ⟨b1,b2,rfl,kopEnds E hE w M Y s bs g o b1 b2 A n c f.ids h hf hs hb.inv h1 h2 h3 h4 hA hwf hg (by omega)⟩
 |fn j=>
  rw[e] at ht hth
  obtain⟨b1,b2,rfl,h1,h2,h3,h4⟩:=ht
  exact .inr (.inl ⟨b1,b2,rfl,kfnEnds E hE w M Y s bs g j b1 b2 A n c f.ids h hf hs (by rw[←hEn];exact hth.1) h3 h4 hA hw (by omega) (hpl j)⟩)
 |bind names t=>
  rw[e] at ht hth
  obtain⟨b1,b2,b3,nA,nc,pA,pc,bx,rfl,h1,h2,h3,h4,h5,h6,h7,h8,h9⟩:=ht
  obtain⟨k1,k2,k3⟩:=hth
  obtain rfl:n=names.length:=by omega
  exact .inr (.inr (.inl ⟨b1,b2,b3,rfl,kletEnds E w M Y s bs g names t bx b1 b2 b3 nA nc pA pc A c f.ids h hf hs h1 h2 h3 h4 h5 h6 h7 h8 h9 hA hwf (fun s hs=>by have:=k2 s hs;unfold maxLen;omega) (by omega)⟩))
 |first=>
  rw[e] at ht hth
  have hth:f.parts.length=1:=hth
  have ht:v=_:=ht
  have hfb:bs.length≤5000:=by have:=hs.fr;rw[hf,List.length_append] at this;omega
  have hgi:g.ids.length≤100000:=by have:=(hs.ids g (by rw[hf];simp)).1;omega
  exact .inr (.inr (.inr (.inl ⟨ht,kgiveFirst E w M Y s bs g A n c f.ids h hf hfb hgi hA (by omega)⟩)))
 |memo j a=>
  rw[e] at ht hth
  obtain⟨b1,b2,rfl,h1,h2,h3,h4⟩:=ht
  obtain⟨k1,k2,k3,k4⟩:=hth
  have har:a.length≤3:=by
   obtain⟨d,hd,_,e⟩:=Bd.arity_get k3
   rw[←e]
   exact(hD.par j d hd).1
  have hks:(Mk.key j a).size≤maxLen:=by
   have:=Mk.size_key (j:=j) (A:=a) (by have:=hE.few;omega) (fun z hz=>WalkArith.wf_i64 (by have:=k4 z hz;omega)) (by omega)
   unfold maxLen
   omega
  exact .inr (.inr (.inr (.inr ⟨b1,b2,rfl,kmemoEnds E w M Y s bs g j a b1 b2 A n c f.ids h hf hs h1 h3 h4 hA hg hwf (by omega) hks (hb.few hD)⟩)))
theorem kstep_ends (E:Mk.Env) (hE:E.Ok) (hD:Mk.DOk E.D) (w:World) (M:Nat) (Y:Mk.Lay) (s:Ms) (bs:List Fr) (g f:Fr) (h:Mk.Rep E w M Y s) (hf:s.fr=(bs++[g])++[f]) (hs:Mk.Small s) (hsc:f.sc≤s.sc.length) (hfull:f.parts.length≤f.ids.length) (hfo:Fr.Ok E.D s.N.length f) (hn:f.th≠.none) (hb:Mk.Base E.D s):
  Calls Tryz.prog 65 #[.pointer (some ⟨M,0,none⟩)] w fun e w'=>Mk.Ans E w M Y (Mk.step E.D s) e w':=by
 rw[Mk.step_ends hf hfull]
 obtain⟨FB,P,gf,hFL,hFB,hfA,hgl,hgF,hc,hfz⟩:=h.last hf
 obtain⟨m,hm⟩:∃ m,(bs++[g]).length=m:=⟨_,rfl⟩
 have hlen:s.fr.length=m+1:=by rw[hf,List.length_append,hm];simp
 have hq:(P,f)∈Y.FL:=by rw[hFL];simp
 have hP:=h.fas _ hq
 rw[hm] at hc hFB
 have c5:w.cell? ⟨M,5,none⟩=some (.slice (some ⟨gf,0,none⟩) (m+1) Y.fc):=by rw[h.own.cell,←hlen,←hfA];rfl
 have hMl:=h.own.lt
 obtain⟨rA,rC⟩:=row_addr h.srow
 obtain⟨rF,rG⟩:=row_addr h.frow
 rw[hfA] at rF
 rw[hlen] at rG
 obtain⟨W1,hW1⟩:∃ W1,W1=(w.alloc (.cells #[.slice P.pA f.parts.length P.pc,.slice P.iA f.ids.length P.ic,P.v,.int .i64 (f.sc:Int),.int .i64 (f.dp:Int)] 130)).drew:=⟨_,rfl⟩
 have hb1:Below w.heap.size w W1:=by
  have:=(Below.refl w.heap.size w).alloc (Nat.le_refl _) (.cells #[.slice P.pA f.parts.length P.pc,.slice P.iA f.ids.length P.ic,P.v,.int .i64 (f.sc:Int),.int .i64 (f.dp:Int)] 130)
  rw[hW1]
  exact⟨this.os,this.tape,this.output,this.size,this.block⟩
 have hl1:Lies W1 w.heap.size 130 #[.slice P.pA f.parts.length P.pc,.slice P.iA f.ids.length P.ic,P.v,.int .i64 (f.sc:Int),.int .i64 (f.dp:Int)]:=by rw[hW1];exact Lies.new w _ _
 have h1:=h.below hb1
 have hb1d:Below w.heap.size w W1.drew:=⟨hb1.os,hb1.tape,hb1.output,hb1.size,hb1.block⟩
 obtain⟨Y2,r2,t2,y2,q2L,q2A,q2c⟩:=(h1.drew).cut2 hsc
 obtain⟨W2,hW2⟩:∃ W2,W2=W1.drew.setCell ⟨M,4,none⟩ (.slice Y.sA f.sc Y.sc):=⟨_,rfl⟩
 rw[←hW2] at r2 t2
 have tM2:Turn (fun k=>k=M) w W2:=by rw[hW2];exact(Turn.of_below (F:=fun k=>k=M) hb1d).put (p:=⟨M,4,none⟩) (.inl rfl) _
 have hb2d:Below W2.heap.size W2 W2.drew:=⟨rfl,rfl,rfl,Nat.le_refl _,fun _ _=>rfl⟩
 obtain⟨Y3,r3,t3,y3,a3⟩:=(r2.drew).pop2 (s:={ s with sc:=s.sc.take f.sc }) (bs:=bs++[g]) (f:=f) hf (FB:=FB) (P:=P) (by rw[q2L];exact hFL)
 rw[q2A,q2c,hfA,hm] at r3 t3
 obtain⟨W3,hW3⟩:∃ W3,W3=W2.drew.setCell ⟨M,5,none⟩ (.slice (some ⟨gf,0,none⟩) m Y.fc):=⟨_,rfl⟩
 rw[←hW3] at r3 t3
 have tM3:Turn (fun k=>k=M) w W3:=by rw[hW3];exact(tM2.step hb2d).put (p:=⟨M,5,none⟩) (.inl rfl) _
 have y3w:∀ k,Mk.foot M Y3 k→Mk.foot M Y k∨w.heap.size≤k:=fun k hk=>(y2 k (y3 k hk)).imp id fun e=>Nat.le_trans hb1d.size e
 have hout:∀ k,w.heap.size≤k→k≠M:=fun k hk e=>by omega
 have hl2:Lies W2 w.heap.size 130 #[.slice P.pA f.parts.length P.pc,.slice P.iA f.ids.length P.ic,P.v,.int .i64 (f.sc:Int),.int .i64 (f.dp:Int)]:=by
  have:Turn (fun k=>k=M) W1 W2:=by rw[hW2];exact((Turn.refl (fun k=>k=M) W1).drew).put (p:=⟨M,4,none⟩) (.inl rfl) _
  exact this.lies hl1 (hout _ (Nat.le_refl _))
 have hl3:Lies W3 w.heap.size 130 #[.slice P.pA f.parts.length P.pc,.slice P.iA f.ids.length P.ic,P.v,.int .i64 (f.sc:Int),.int .i64 (f.dp:Int)]:=by
  have:Turn (fun k=>k=M) W2 W3:=by rw[hW3];exact((Turn.refl (fun k=>k=M) W2).drew).put (p:=⟨M,5,none⟩) (.inl rfl) _
  exact this.lies hl2 (hout _ (Nat.le_refl _))
 have hids:=h.ids _ hq
 have hids3:W3.ownsRow 0 3 1 (.slice P.iA f.ids.length P.ic) f.ids.length (i64s f.ids):=tM3.own hids (fun k hk e=>h.M_i hq (by rw[blk_eq] at hk;exact e▸hk))
 have hA3:=NumS.of_own hids3 rfl
 have hG3:Gs (fun k=>¬Mk.foot M Y3 k) P.iA f.ids.length:=fun a e _=>a3 a.block (by rw[e];rfl)
 have hth3:ThAs W3 (fun k=>¬Mk.foot M Y3 k) M P.v f.th:=hP.th.turn tM3 fun k hlt hk=>⟨fun e=>hk (.inl e),fun e=>(y3w k e).elim hk fun e2=>by omega⟩
 have hs3:Mk.Small { s with sc:=s.sc.take f.sc,fr:=bs++[g] }:=⟨by have:=hs.fr;rw[hlen] at this;show(bs++[g]).length≤_;omega,by show(s.sc.take f.sc).length≤_;rw[List.length_take];have:=hs.sc;omega,fun x hx=>hs.ids x (by rw[hf];exact List.mem_append_left _ hx),hs.N⟩
 have hthen:=kthen E hE hD W3 M Y3 { s with sc:=s.sc.take f.sc,fr:=bs++[g] } bs g f P.v P.iA f.ids.length P.ic r3 rfl hs3 (hb.cut f.sc _) hfo hfull hn hth3 hA3 hG3
 have hup:∀ (R:Ms×Int) e w',Mk.Ans E W3 M Y3 R e w'→Mk.Ans E w M Y R e w':=fun R e w' q=>⟨q.1,(((q.2.after t3 fun k hk=> .inl (y3 k hk)).up hb2d).after t2 y2).up hb1d⟩
 generalize Mk.ends E.D { s with sc:=s.sc.take f.sc,fr:=bs++[g] } f.th f.ids=R at hthen ⊢
 have HUp:=Lib.hid hup
 have hilt:=hfull
 have d0:=hc 0 _ rfl
 have d1:=hc 1 _ rfl
 have d2:=hc 2 _ rfl
 have d3:=hc 3 _ rfl
 have d4:=hc 4 _ rfl
 rw[Nat.add_zero] at d0
 simp only at d0 d1 d2 d3 d4
 have e4:W1.cell? ⟨M,4,none⟩=some (.slice Y.sA s.sc.length Y.sc):=by rw[h1.own.cell];rfl
 have f4:=h1.own.free 4
 have zM1:=h1.own.lt
 have e3:W1.cell? ⟨w.heap.size,3,none⟩=some (.int .i64 (f.sc:Int)):=by rw[hl1.cell];rfl
 have g0:W2.cell? ⟨w.heap.size,0,none⟩=some (.slice P.pA f.parts.length P.pc):=by rw[hl2.cell];rfl
 have g1:W2.cell? ⟨w.heap.size,1,none⟩=some (.slice P.iA f.ids.length P.ic):=by rw[hl2.cell];rfl
 have e5:W2.cell? ⟨M,5,none⟩=some (.slice (some ⟨gf,0,none⟩) (m+1) Y.fc):=by
  have:=r2.own.cell 5
  rw[this,q2A,q2c,hfA]
  show some (Value.slice _ s.fr.length _)=_
  rw[hlen]
 have f5:=r2.own.free 5
 have zM2:=r2.own.lt
 have k1:W3.cell? ⟨w.heap.size,1,none⟩=some (.slice P.iA f.ids.length P.ic):=by rw[hl3.cell];rfl
 have k2:W3.cell? ⟨w.heap.size,2,none⟩=some P.v:=by rw[hl3.cell];rfl
 have ll1:=hl1.lt
 have ll2:=hl2.lt
 have ll3:=hl3.lt
 have hscut:∀ W:World,(Instr.slice 121 (.slice Y.sA s.sc.length Y.sc) none (some (.int .i64 (f.sc:Int))) none).run Tryz.prog W=.ok (.slice Y.sA f.sc Y.sc) W:=fun W=>cut_sc W rA (by omega)
 have hfcut:∀ W:World,(Instr.slice 122 (.slice (some ⟨gf,0,none⟩) (m+1) Y.fc) none (some (.int .i64 (m:Int))) none).run Tryz.prog W=.ok (.slice (some ⟨gf,0,none⟩) m Y.fc) W:=fun W=>cut_fr W rF (by omega)
 have hm4:m≤4900:=by have:=hs.fr;omega
 obtain⟨n,hnn⟩:∃ n,f.ids.length=n:=⟨_,rfl⟩
 obtain⟨pn,hpn'⟩:∃ pn,f.parts.length=pn:=⟨_,rfl⟩
 obtain⟨sn,hsn⟩:∃ sn,s.sc.length=sn:=⟨_,rfl⟩
 obtain⟨fs,hfs⟩:∃ fs,f.sc=fs:=⟨_,rfl⟩
 obtain⟨fd,hfd⟩:∃ fd,f.dp=fd:=⟨_,rfl⟩
 obtain⟨v,hv⟩:∃ v,P.v=v:=⟨_,rfl⟩
 obtain⟨pA,hpA⟩:∃ pA,P.pA=pA:=⟨_,rfl⟩
 rw[hnn] at d1 g1 k1 hW1 hilt hthen
 rw[hpn'] at d0 g0 hW1 hilt
 rw[hsn] at e4 hscut
 rw[hfs] at d3 e3 hW1 hscut hW2
 rw[hfd] at d4 hW1
 rw[hv] at d2 hW1 k2 hthen
 rw[hpA] at d0 g0 hW1
 have hni:(pn:Int)≤(n:Int):=by omega
 have hnd:decide ((n:Int)<(pn:Int))=false:=decide_eq_false (by omega)
 have hm1:((m:Int)+1)-1=(m:Int):=by omega
 have hwm:IntKind.i64.wrap (m:Int)=(m:Int):=IntWalk.i64_in _ (by omega)
 have hwm1:IntKind.i64.wrap ((m:Int)+1-1)=(m:Int):=by rw[hm1];exact hwm
 have hmi:(0:Int)≤(m:Int):=by omega
 have hml:(m:Int)<(m:Int)+1:=by omega
 have HS:Hid (w.drew.cell? ⟨M,5,none⟩=some (.slice (some ⟨gf,0,none⟩) (m+1) Y.fc)∧w.drew.cell? ⟨gf,m*5,none⟩=some (.slice pA pn P.pc)∧w.drew.cell? ⟨gf,m*5+1,none⟩=some (.slice P.iA n P.ic)∧w.drew.cell? ⟨gf,m*5+2,none⟩=some v∧w.drew.cell? ⟨gf,m*5+3,none⟩=some (.int .i64 (fs:Int))∧w.drew.cell? ⟨gf,m*5+4,none⟩=some (.int .i64 (fd:Int))):=⟨c5,d0,d1,d2,d3,d4⟩
 have HSo:Hid (∀ o,(w.drew.alloc o).cell? ⟨M,5,none⟩=some (.slice (some ⟨gf,0,none⟩) (m+1) Y.fc)∧(w.drew.alloc o).cell? ⟨gf,m*5,none⟩=some (.slice pA pn P.pc)∧(w.drew.alloc o).cell? ⟨gf,m*5+1,none⟩=some (.slice P.iA n P.ic)∧(w.drew.alloc o).cell? ⟨gf,m*5+2,none⟩=some v∧(w.drew.alloc o).cell? ⟨gf,m*5+3,none⟩=some (.int .i64 (fs:Int))∧(w.drew.alloc o).cell? ⟨gf,m*5+4,none⟩=some (.int .i64 (fd:Int))):=fun o=>by
  have b:=fun(k i:Nat) (hk:k<w.heap.size)=>((Below.refl w.heap.size w.drew).alloc (Nat.le_refl _) o).cell (p:=⟨k,i,none⟩) hk
  obtain⟨q1,q2,q3,q4,q5,q6⟩:=HS.out
  exact⟨(b _ _ hMl).trans q1,(b _ _ hgl).trans q2,(b _ _ hgl).trans q3,(b _ _ hgl).trans q4,(b _ _ hgl).trans q5,(b _ _ hgl).trans q6⟩
 clear h hf hs hsc hfull hFL hFB hfA hgF hc hfz hlen hq hP hb1 hl1 h1 rA rC rF rG hl2 hl3 hpA r2 t2 y2 r3 t3 y3 a3 q2L q2A q2c tM2 tM3 y3w hout hids hids3 hA3 hG3 hth3 hs3 hup hb1d hb2d hm hnn hpn' hsn hfs hfd hv c5 d0 d1 d2 d3 d4 hfo hn hb hilt
 obtain⟨fn,fa,fb,rfl⟩:∃ fn fa fb,v=.func fn fa fb:=by
  rcases hthen with⟨b1,b2,e,_⟩|⟨b1,b2,e,_⟩|⟨b1,b2,b3,e,_⟩|⟨e,_⟩|⟨b1,b2,e,_⟩ <;> exact⟨_,_,_,e⟩
 have HThen:=Lib.hid hthen
 clear hthen
 have hst:∀ (a:Addr) (W:World),(store a (.func fn fa fb) .plain).run Tryz.prog W=stored Tryz.prog W a (.func fn fa fb) .plain:=fun a W=>run_store Tryz.prog W a _ _ rfl
 go_enter Tryz.func65,Tryz.ntmps65
 go_wp2_with fail
 go_region_held3 (fun W=>W.cell? ⟨M,5,none⟩=some (.slice (some ⟨gf,0,none⟩) (m+1) Y.fc)∧W.cell? ⟨gf,m*5,none⟩=some (.slice pA pn P.pc)∧W.cell? ⟨gf,m*5+1,none⟩=some (.slice P.iA n P.ic)∧W.cell? ⟨gf,m*5+2,none⟩=some (.func fn fa fb)∧W.cell? ⟨gf,m*5+3,none⟩=some (.int .i64 (fs:Int))∧W.cell? ⟨gf,m*5+4,none⟩=some (.int .i64 (fd:Int)))
  (first|(with_reducible exact HS.out)|exact HSo.out _)
  (fail)
 rw[←hW1]
 have hV1:W1.drew.setCell ⟨M,4,none⟩ (.slice Y.sA fs Y.sc)=W2:=hW2.symm
 have hV3:W2.drew.setCell ⟨M,5,none⟩ (.slice (some ⟨gf,0,none⟩) m Y.fc)=W3:=hW3.symm
 clear hW1 hW2 hW3 HS HSo hst
 go_wp2_with fail
 go_still_tail 10,(by kernel_rfl)
 change wpList _ _ _ _ _ W1.drew
 go_wp2_with fail
 go_still_tail 14,(by kernel_rfl)
 change wpList _ _ _ _ _ W2.drew
 rcases HThen.out with⟨b1,b2,e,ht⟩|⟨b1,b2,e,ht⟩|⟨b1,b2,b3,e,ht⟩|⟨e,ht⟩|⟨b1,b2,e,ht⟩
 all_goals
  injection e with e1 e2 e3
  subst e1 e2 e3
  have HT:=Lib.hid ht
  clear ht HThen
  go_wp2_with fail
  refine HT.out.mono ?_
  rintro e w4 q
  have V:=Lib.hid (HUp.out _ _ _ q)
  obtain⟨rfl,_⟩:=q
  clear HT HUp
  go_wp2
  go_ret
  exact V.out
end Go.Proofs.YtcgaeknikfaghaaGreatDoor
