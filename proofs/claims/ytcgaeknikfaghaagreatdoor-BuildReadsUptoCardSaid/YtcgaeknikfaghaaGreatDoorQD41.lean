/- What the proofs of this claim use, text by text. -/
import Derived.Test.YtcgaeknikfaghaaGreatDoorQD40
import Derived.Test.YtcgaeknikfaghaaGreatDoorQD38
set_option linter.unusedSimpArgs false
set_option linter.unusedVariables false
set_option maxRecDepth 100000
set_option maxHeartbeats 25600000
namespace Go.Proofs.YtcgaeknikfaghaaGreatDoor
open Go.RowKit
theorem lrun_step {all:Nat} {H:Nat→Nat} {t:ITok} {l:List ITok} {i used:Nat} {frs:List PFr} {X:Sx} (e:lrun all H (t::l) i used frs=some X):
  (t.1=1∧used+H i≤all∧lrun all H l (i+1) (used+H i) (⟨t.2.2,used,H i,[]⟩::frs)=some X)∨
  (t.1=2∧∃ f,frs=[f]∧X=Sx.node f.at_ f.L)∨
  (t.1=2∧∃ f g fs,frs=f::g::fs∧g.L.length<g.n∧lrun all H l (i+1) used (g.add (Sx.node f.at_ f.L)::fs)=some X)∨
  (t.1≠1∧t.1≠2∧∃ f fs,frs=f::fs∧f.L.length<f.n∧lrun all H l (i+1) used (f.add (Sx.atom t)::fs)=some X):=by
 by_cases h1:t.1=1
 ·rw[lrun_open h1] at e
  by_cases hu:used+H i≤all
  ·rw[if_pos hu] at e
   exact .inl ⟨h1,hu,e⟩
  ·rw[if_neg hu] at e
   cases e
 ·cases frs with
  |nil=>
   rw[lrun_none h1] at e
   cases e
  |cons f fs=>
   by_cases h2:t.1=2
   ·cases fs with
    |nil=>
     rw[lrun_last h2] at e
     injection e with e
     exact .inr (.inl ⟨h2,f,rfl,e.symm⟩)
    |cons g fs=>
     rw[lrun_close h2] at e
     by_cases hg:g.L.length<g.n
     ·rw[if_pos hg] at e
      exact .inr (.inr (.inl ⟨h2,f,g,fs,rfl,hg,e⟩))
     ·rw[if_neg hg] at e
      cases e
   ·rw[lrun_atom h1 h2] at e
    by_cases hg:f.L.length<f.n
    ·rw[if_pos hg] at e
     exact .inr (.inr (.inr ⟨h1,h2,f,fs,rfl,hg,e⟩))
    ·rw[if_neg hg] at e
     cases e
theorem map_cons {frs:List MFr} {f:PFr} {fs:List PFr} (h:frs.map (·.1)=f::fs):∃ fA ms,frs=(f,fA)::ms∧ms.map (·.1)=fs:=by
 cases frs with
 |nil=>cases h
 |cons q ms=>
  injection h with h1 h2
  obtain⟨f',fA⟩:=q
  exact⟨fA,ms,by rw[←h1],h2⟩
theorem make_sexps (n:Nat) (hn:n≤1000000):∃ cs:Array Value,cs.size=n*6∧∀ W:World,(Instr.makeSlice 25 (.int .i64 (n:Nat)) (.int .i64 (n:Nat))).run Tryz.prog W=.ok (.slice (some ⟨W.heap.size,0,none⟩) n n) (W.alloc (.cells cs 27)):=by
 obtain⟨i0,hi,hz0,hz1,hz2⟩:=info_parts infoX
 refine⟨madeCells (Value.agg #[.bool false,.int .i64 0,.string ByteArray.empty,.int .i64 0,.int .i64 0,.slice none 0 0]).cells (n*i0.size),by rw[size_madeCells,hz1],fun W=>?_⟩
 have:=run_makeSlice (P:=Tryz.prog) W 25 27 i0 _ Tryz.underlying25 hi hz0 .i64 .i64 (n:Nat) (n:Nat) (by omega) (Int.le_refl _) (by rw[hz1];simp;omega) (by rw[hz2];omega) (by omega)
 simp only[Int.toNat_natCast] at this
 exact this
structure Laid (W1 wr:World) (R all used m:Nat) (A:Option Addr) (c:Nat) (frs:List MFr):Prop where
 turn:Turn (fun b=>b=R) W1 wr
 lay:Lay wr R all used frs
 own:OwnF wr (R+1) A c frs
 len:frs.length=m
theorem Laid.step {W1 wr w':World} {R all used m:Nat} {A:Option Addr} {c:Nat} {frs:List MFr} (h:Laid W1 wr R all used m A c frs) (hb:Below wr.heap.size wr w'):Laid W1 w' R all used m A c frs:=
 have t:=Turn.of_below (F:=fun _=>False) hb
 ⟨h.turn.trans t (fun _ e=>e.elim),h.lay.turn t id,h.own.turn t (fun _ _=>id),h.len⟩
theorem Laid.rlt {W1 wr:World} {R all used m:Nat} {A:Option Addr} {c:Nat} {frs:List MFr} (h:Laid W1 wr R all used m A c frs):R<wr.heap.size:=by obtain⟨cs,h1,_⟩:=h.lay.room;exact h1.lt
theorem stepF (w:World) {ops:Array Oper} {o:Oper} {a:Act} {K:Act→World→Prop} {Q:Exit→Act→World→Prop} {E:Prop} (hgd:o.guard=none) (s x:Operand)
  (ho:o.op=.call { callee:=.builtin .append,args:=#[s,x],argTypes:=#[25,25] }) (B:Nat) (A:Option Addr) (c:Nat) (frs:List MFr) (n:Nat) (hn:frs.length=n) (q:MFr) (g:Nat) (hg:w.heap.size=g)
  (hs:a.eval s=.slice A n c) (hown:OwnF w B A c frs) (hx:a.eval x=.slice (some ⟨g,0,none⟩) 1 1) (hl:n≤1000000) (hB:B≤w.heap.size)
  (h:∀ A' c' w',OwnF w' B A' c' (q::frs)→w.grownBy w' (Value.slice A n c).ownBlock→K (a.put o.dst (.slice A' (n+1) c')) w'):
  if Region.wanted o (yielded ops a.tmps)=true then Oper.wp Tryz.prog o a (w.alloc (sbox q.sx.1 q.sx.2.1 q.sx.2.2)) K Q else E:=by
 have hw:Region.wanted o (yielded ops a.tmps)=true:=by simp[Region.wanted,hgd]
 rw[if_pos hw]
 subst hn
 subst hg
 obtain⟨i0,hi,hz0,hz1,hz2⟩:=info_parts infoX
 obtain⟨v',w',hr,q1,q2,_,_⟩:=run_append_own_at (P:=Tryz.prog) (w.alloc (sbox q.sx.1 q.sx.2.1 q.sx.2.2)) B 25 o.type 27 i0 (.agg #[.bool false,.int .i64 0,.string ByteArray.empty,.int .i64 0,.int .i64 0,.slice none 0 0]) 6 72 Tryz.underlying25 hi hz0 hz1 hz2 rfl (by decide) (.slice A frs.length c) frs.length (xcellsOf (frs.map MFr.sx).reverse)
  (World.ownsRow.alloc hown _) ⟨w.heap.size,0,none⟩ 1 1 (xcells q.sx) rfl (cell_six_new _ _ _ _ _ _ _ _) (fun u hu=>xs_one [q.sx] u (by simpa [xcellsOf] using hu)) (by unfold maxLen;omega) (by omega) (by simp;omega)
 obtain⟨A',c',rfl⟩:=own_form q1
 have hgb:w.grownBy w' (Value.slice A frs.length c).ownBlock:=⟨q2.os,q2.tape,q2.output,Nat.le_trans (by simp) q2.size,fun k hk hne=>(q2.block k (by simp;omega) hne).trans (Below.heap_alloc w _ k hk)⟩
 unfold Oper.wp
 simp[execOp,ho,resolve,invoke,builtin,hs,hx,hr,Result.andThen]
 refine h A' c' w' ?_ hgb
 unfold OwnF
 rw[xs_rev,List.length_cons]
 exact q1
theorem kadd_laid (W1 W:World) (R all used k:Nat) (A':Option Addr) (c':Nat) (frs:List MFr) (f:PFr) (fA:Option Addr) (fs:List MFr) (x:Sx) (A:Option Addr) (c:Nat) (hlay:Lay W R all used frs) (hsub:∀ q∈(f,fA)::fs,q∈frs)
  (hdis:((f,fA)::fs).Pairwise fun f g=>g.1.st+g.1.n≤f.1.st) (hown:OwnF W (R+1) A' c' ((f,fA)::fs)) (hturn:Turn (fun b=>b=R) W1 W) (hW1:W1.heap.size=R+1) (hlt:f.L.length<f.n) (hx:STree W (InRoom R used frs) x A c) (hk:fs.length=k) (hk9:k≤1000000):
  Calls Tryz.prog 183 #[.slice A' (k+1) c',sval x A c] W fun e w'=>e=.returned (.tuple #[])∧Laid W1 w' R all used (k+1) A' c' ((f.add x,fA)::fs):=by
 obtain⟨O,cu,rfl,hBO,hLO,hcc,_,hcell⟩:=hown.top
 obtain⟨cs,h1,h2⟩:=hlay.room
 obtain⟨f1,f2,f3,f4⟩:=hlay.fr _ (hsub _ List.mem_cons_self)
 have hfA:fA=some ⟨R,f.st*6,none⟩:=f1 (show 0<f.n by omega)
 have hle:=hlay.le
 have f2':f.st+f.n≤used:=f2
 subst hk
 have hcell':cu[fs.length*6+5]?=some (.slice (some ⟨R,f.st*6,none⟩) f.L.length f.n):=by rw[←hfA];exact hcell
 refine(kadd W O R fs.length c' (f.st*6) f.L.length f.n cs cu x A c hLO h1 (by omega) hk9 hcell' hlt (by omega)).mono ?_
 rintro e w' ⟨he,cs',l1,l2,l3,l4,l5,l6⟩
 refine⟨he,⟨hturn.trans l6 (fun q hq=>?_),hlay.added hsub hdis hlt hx l1 (l2.trans h2) l3 (fun cs2 hc2=>?_) l6.size,?_,by rw[List.length_cons]⟩⟩
 ·rcases hq with hq|hq
  ·exact .inl hq
  ·exact .inr (by omega)
 ·have e:cs2=cs:=by
   have:=Option.some.inj (Eq.trans (show W.heap[R]?=some (.cells cs2 27 (0,0)) from hc2).symm (show W.heap[R]?=some (.cells cs 27 (0,0)) from h1))
   injection this
  rw[e]
  exact l4
 ·have l5':Lies w' O 27 (cu.setIfInBounds (fs.length*6+5) (.slice fA (f.L.length+1) f.n)):=by rw[hfA];exact l5
  exact hown.added (x:=x) hLO l5'
theorem Reads.sizes_le {m:List ITok} {M:List Sx} (h:Reads m M):Sx.sizes M≤m.length:=by
 induction h with
 |nil=>exact Nat.le_refl _
 |atom t l L _ _ _ ih=>
  rw[Sx.sizes,Sx.size_eq,List.length_cons]
  show 0+1+_≤_
  omega
 |list o c m l M L _ _ _ _ i1 i2=>
  rw[Sx.sizes,Sx.size_eq,List.length_cons,List.length_append,List.length_cons]
  show Sx.sizes M+1+_≤_
  omega
theorem klist (w:World) (A:Option Addr) (n c:Nat) (o cl:ITok) (m:List ITok) (M:List Sx) (h:TokS w A n (o::(m++[cl]))) (hn:n≤1000000) (ho:o.1=1) (hcl:cl.1=2) (hr:Reads m M):
  Calls Tryz.prog 151 #[.slice A n c] w fun e w'=>(∃ A' c',e=.returned (sval (Sx.node o.2.2 M) A' c')∧STree w' (fun b _=>w.heap.size≤b) (Sx.node o.2.2 M) A' c')∧Below w.heap.size w w':=by
 have hl:=h.len
 have hM:Sx.sizes M≤n:=by
  rw[List.length_cons,List.length_append] at hl
  have:=hr.sizes_le
  omega
 obtain⟨f,hf⟩:∃ f,(fun q=>atP 0 (M.length::(Sx.cnts M++[0])) q)=f:=⟨_,rfl⟩
 have hcr:=crun_all hr ho hcl
 have hlr:=lrun_all hr ho hcl
 rw[hf] at hcr hlr
 obtain⟨l,hll⟩:∃ l,o::(m++[cl])=l:=⟨_,rfl⟩
 obtain⟨X,hX⟩:∃ X,Sx.node o.2.2 M=X:=⟨_,rfl⟩
 obtain⟨all,hall⟩:∃ a,Sx.sizes M=a:=⟨_,rfl⟩
 rw[hll] at hcr hlr h
 rw[hall] at hcr hlr hM
 rw[hX] at hlr ⊢
 have HXl:Hid (X.list=true):=by show _=_;rw[←hX];rfl
 obtain⟨Post,hPost⟩:∃ Post:Ending→World→Prop,Post=fun e w'=>(∃ A' c',e=.returned (sval X A' c')∧STree w' (fun b _=>w.heap.size≤b) X A' c')∧Below w.heap.size w w':=⟨_,rfl⟩
 rw[←hPost]
 have HPo:=Lib.hid hPost
 have HLR:=Lib.hid hlr
 have HT:=Lib.hid h
 have HK:=Lib.hid fun W (hW:Below w.heap.size w W)=>kcounts W A n c l f all (h.below hW) hn hcr
 obtain⟨cs,hcs,hmk⟩:=make_sexps all (by omega)
 have HCS:=Lib.hid hcs
 clear hPost hX hall hll hf hcr hlr hr ho hcl h hl hcs
 go_enter Tryz.func151,Tryz.ntmps151
 go_wp2_with fail
 refine(HK.out _ ((Below.refl _ w).alloc (Nat.le_refl _) _)).mono ?_
 rintro e w1 ⟨⟨g,rfl,hg1,hg2⟩,b1⟩
 obtain⟨r0,hr0⟩:∃ r,w.heap.size=r:=⟨_,rfl⟩
 obtain⟨R,hR⟩:∃ R,w1.heap.size=R:=⟨_,rfl⟩
 have hmk1:=hmk w1
 have hz:Lies w1 r0 27 #[.bool false,.int .i64 0,.string ⟨#[]⟩,.int .i64 0,.int .i64 0,.slice none 0 0]:=hr0▸(Turn.of_below (F:=fun _=>False) b1).lies (Lies.new w _ _) id
 have hg0:r0<g:=by
  rw[World.size_alloc,hr0] at hg1
  omega
 have hgR:g<R:=hR▸hg2.lt
 have hb1:Below r0 w w1:=hr0▸((Below.refl _ w).alloc (Nat.le_refl _) _).trans (b1.mono (by simp))
 generalize hW1:w1.alloc (Obj.cells cs 27)=W1
 have HW1:Hid (HasAt W1 g n f∧Lies W1 r0 27 #[.bool false,.int .i64 0,.string ⟨#[]⟩,.int .i64 0,.int .i64 0,.slice none 0 0]∧Below r0 w W1∧W1.heap.size=R+1∧Laid W1 W1 R all 0 0 none 0 []):=by
  show _∧_
  have e:=(Turn.refl (fun _=>False) w1).alloc (Obj.cells cs 27)
  have e2:Lies (w1.alloc (Obj.cells cs 27)) R 27 cs:=hR▸Lies.new w1 _ cs
  rw[←hW1]
  exact⟨hg2.turn e id,e.lies hz id,hb1.alloc (by rw[hR];omega) _,by simp[hR],⟨Turn.refl _ _,⟨⟨cs,e2,HCS.out⟩,Nat.zero_le _,fun q hq=>absurd hq List.not_mem_nil,List.Pairwise.nil⟩,OwnF.nil _ _,rfl⟩⟩
 have HR0:=Lib.hid hr0
 have hRR:=Lib.hid hR
 clear hz hb1 hg1 hg2 b1 hmk HK
 go_wp2
 (try rw[hW1]);(try rw[hr0]);(try rw[hR])
 rw[hR] at hmk1
 clear hW1 hR hmk1 HCS
 go_loopw [5,6,21] (fun rv ov iv wr=>∃ (i used rm k:Nat) (A':Option Addr) (c':Nat) (Au:Option Addr) (frs:List MFr),i≤n∧k≤i∧used+rm=all∧iv=.int .i64 (i:Nat)∧rv=.slice Au rm rm∧ov=.slice A' k c'∧
  Hid (Laid W1 wr R all used k A' c' frs∧(0<rm→Au=some ⟨R,used*6,none⟩)∧Au.map (·.add 0)=Au∧lrun all f (l.drop i) i used (frs.map (·.1))=some X)) (fun _ _ iv _=>n-(intOf iv).toNat)
 case atStart=>exact⟨0,0,all,0,none,0,some ⟨R,0,none⟩,[],Nat.zero_le _,Nat.le_refl _,Nat.zero_add _,rfl,rfl,rfl,HW1.out.2.2.2.2,fun _=>by rw[Nat.zero_mul],by simp[addr_add],by rw[List.drop_zero];exact HLR.out⟩
 case round=>
  clear HLR
  obtain⟨i,used,rm,k,A',c',Au,frs,hi,hki,hur,rfl,rfl,rfl,HI⟩:=hrel
  obtain⟨hI1,hI2,hI3,hI4⟩:=HI.out
  have hlt:i<n:=by
   rcases Nat.lt_or_ge i n with e|e
   ·exact e
   ·rw[List.drop_of_length_le (by rw[HT.out.len];omega),lrun] at hI4
    cases hI4
  have hbw:Below r0 w wr:=HW1.out.2.2.1.trans (hI1.turn.below (by rw[HW1.out.2.2.2.1];omega) (fun _ e=>by omega))
  have HB:=Lib.hid hbw
  obtain⟨b,off,x,rfl,hx,hdr,hc⟩:=HT.out.get hlt
  obtain⟨z0,z1,z2,z3⟩:=hc wr (HR0.out▸hbw)
  obtain⟨xk,xt,xa⟩:=x
  rw[hdr] at hI4
  have hlt':(i:Int)<(n:Int):=by omega
  have hi0:(0:Int)≤(i:Int):=by omega
  have HL1:=Lib.hid hI1
  have HA:Hid (∀ o2:Obj,Laid W1 (wr.alloc o2) R all used k A' c' frs):=fun o2=>HL1.out.step ((Below.refl _ wr).alloc (Nat.le_refl _) o2)
  have HAd:Hid (∀ o2:Obj,Laid W1 (wr.alloc o2).drew R all used k A' c' frs):=fun o2=>(HA.out o2).step ⟨rfl,rfl,rfl,Nat.le_refl _,fun _ _=>rfl⟩
  have HTb:Hid (∀ W,Below (wr.alloc (Obj.cells #[Value.int IntKind.i64 xk,Value.string xt,Value.int IntKind.i64 xa] 24)).heap.size (wr.alloc (Obj.cells #[Value.int IntKind.i64 xk,Value.string xt,Value.int IntKind.i64 xa] 24)) W→W.cell? ⟨wr.heap.size,2,none⟩=some (.int .i64 xa)∧wr.heap.size<W.heap.size):=fun W hW=>by
   have:=(Turn.of_below (F:=fun _=>False) hW).lies (Lies.new wr 24 _) id
   exact⟨this.cell 2,this.lt⟩
  have HRl:Hid (R<wr.heap.size):=hI1.rlt
  rcases lrun_step hI4 with⟨h1,hu,hr⟩|⟨h2,fr,e,rfl⟩|⟨h2,fr,gr,fs,e,hlg,hr⟩|⟨h1,h2,fr,fs,e,hlg,hr⟩
  ·have h1:xk=1:=h1
   subst h1
   obtain⟨v,hv⟩:∃ v,f i=v:=⟨_,rfl⟩
   rw[hv] at hu hr
   obtain⟨y1,y2⟩:=(HW1.out.1.turn hI1.turn (by omega)).cell hlt
   rw[hv] at y1
   have hgw:g<wr.heap.size:=Nat.lt_trans hgR hI1.rlt
   obtain⟨rm',rfl⟩:∃ r,rm=v+r:=⟨rm-v,by omega⟩
   have hc1:=fun W=>cut_lhm (T:=25) (s:=6) Tryz.underlying25 (fun W=>by kernel_rfl) (A:=Au) (n:=v+rm') (c:=v+rm') (k:=v) W hI3 (by omega)
   obtain⟨Au',hAu⟩:∃ B,(if v+rm'=v then Au else Au.map (·.add (v*6)))=B:=⟨_,rfl⟩
   have hc2:=fun W=>cut_l (T:=25) (s:=6) Tryz.underlying25 (fun W=>by kernel_rfl) (A:=Au) (n:=v+rm') (c:=v+rm') (k:=v) W (by omega)
   rw[hAu,show v+rm'-v=rm' by omega] at hc2
   have hAu1:0<rm'→Au'=some ⟨R,(used+v)*6,none⟩:=fun h=>by
    rw[←hAu,if_neg (by omega),hI2 (by omega)]
    simp[addr_add,Nat.add_mul]
   have hAu2:Au'.map (·.add 0)=Au':=by
    rw[←hAu]
    split
    ·exact hI3
    ·cases Au with
     |none=>rfl
     |some a=>
      have:=hI3
      rw[hI2 (by omega)]
      simp[addr_add]
   have HN:=Lib.hid (And.intro hAu1 (And.intro hAu2 (And.intro hr (show used+v+rm'=all by omega))))
   have HU:Hid (used+v≤all∧(0<v→Au=some ⟨R,used*6,none⟩)):=⟨hu,fun h=>hI2 (by omega)⟩
   clear hI1 hI2 hI3 hI4 HI hbw hx hdr hc hlt hr hv hAu hAu1 hAu2 hu
   go_wp2
   generalize hWT:wr.alloc (Obj.cells #[Value.int IntKind.i64 1,Value.string xt,Value.int IntKind.i64 xa] 24)=WT
   have HWT:Hid (Laid W1 WT R all used k A' c' frs∧(∀ W,Below WT.heap.size WT W→W.cell? ⟨wr.heap.size,2,none⟩=some (.int .i64 xa)∧wr.heap.size<W.heap.size)∧R+1≤WT.heap.size):=by
    show _∧_
    rw[←hWT]
    exact⟨HA.out _,HTb.out,Nat.le_trans HRl.out (by simp)⟩
   have KD:Hid (∀ o2:Obj,Below WT.heap.size WT (WT.alloc o2).drew):=fun o2=>((Turn.refl (fun _=>False) WT).alloc o2).drew.none_ (fun _=>id)
   have HS:=Lib.hid (HWT.out.2.1 WT.drew ⟨rfl,rfl,rfl,Nat.le_refl _,fun _ _=>rfl⟩)
   have HO:Hid (OwnF WT.drew (R+1) A' c' frs):=(HWT.out.1.step (w':=WT.drew) ⟨rfl,rfl,rfl,Nat.le_refl _,fun _ _=>rfl⟩).own
   have HLn:Hid (frs.length=k):=HWT.out.1.len
   have HNew:Hid (∀ A3 c3 w3,OwnF w3 (R+1) A3 c3 ((⟨xa,used,v,[]⟩,Au)::frs)→WT.drew.grownBy w3 (Value.slice A' k c').ownBlock→Laid W1 w3 R all (used+v) (k+1) A3 c3 ((⟨xa,used,v,[]⟩,Au)::frs)∧(w3.cell? ⟨wr.heap.size,2,none⟩=some (.int .i64 xa)∧wr.heap.size<w3.heap.size)):=fun A3 c3 w3 o3 g3=>by
    have tt:Turn (fun q=>R+1≤q∧(Value.slice A' k c').ownBlock=some q) WT.drew w3:=Turn.of_grown g3 (fun q hq _=>⟨(HO.out.lt HLn.out hq).1,hq⟩)
    have ts:=HWT.out.1.step (w':=WT.drew) ⟨rfl,rfl,rfl,Nat.le_refl _,fun _ _=>rfl⟩
    have hne:(Value.slice A' k c').ownBlock≠some wr.heap.size:=fun e=>absurd (HL1.out.own.lt HLn.out e).2 (Nat.lt_irrefl _)
    refine⟨⟨ts.turn.trans tt (fun q hq=> .inr (by rw[HW1.out.2.2.2.1];exact hq.1)),(ts.lay.open_ xa v Au HU.out.1 HU.out.2).turn tt (fun hq=>by omega),o3,by rw[List.length_cons,HLn.out]⟩,?_,Nat.lt_of_lt_of_le HS.out.2 tt.size⟩
    exact(tt.cell (p:=⟨wr.heap.size,2,none⟩) HS.out.2 (fun hq=>hne hq.2)).trans HS.out.1
   clear hWT HA HAd HTb
   go_region_held3 (fun W'=>W'.cell? ⟨wr.heap.size,2,none⟩=some (.int .i64 xa)∧wr.heap.size<W'.heap.size)
    (first|(with_reducible exact HS.out)|(with_reducible exact HWT.out.2.1 _ (KD.out _))|(with_reducible exact(HNew.out _ _ _ O3.out G3.out).2))
    ((refine stepF WT.drew rfl (.tmp 38) (.tmp 45) (by rfl) (R+1) A' c' frs k HLn.out (⟨xa,used,v,[]⟩,Au) WT.heap.size rfl (by rfl) HO.out (by rfl) (by omega) HWT.out.2.2 ?_;intro A3 c3 w3 o3 g3;have O3:=Lib.hid o3;have G3:=Lib.hid g3;clear o3 g3))
   go_wp2
   go_roundw
   case rel=>exact⟨i+1,used+v,rm',k+1,A3,c3,Au',(⟨xa,used,v,[]⟩,Au)::frs,by omega,by omega,HN.out.2.2.2,by go_num,rfl,rfl,(HNew.out _ _ _ O3.out G3.out).1,HN.out.1,HN.out.2.1,by rw[List.map_cons];exact HN.out.2.2.1⟩
   case measure=>simp[intOf];omega
  ·have h2:xk=2:=h2
   subst h2
   obtain⟨fA,ms,rfl,hms⟩:=map_cons e
   obtain rfl:ms=[]:=by simpa using hms
   obtain rfl:k=1:=hI1.len.symm
   obtain⟨O,cu,rfl,hBO,hLO,hcc,hsO,_⟩:=hI1.own.top
   have hz:=hI1.turn.lies HW1.out.2.1 (by omega)
   have u0:=hz.cell 0
   have u1:=hz.cell 1
   have u2:=hz.cell 2
   have u3:=hz.cell 3
   have u4:=hz.cell 4
   have u5:=hz.cell 5
   have f0:=hz.free 0
   have f1:=hz.free 1
   have f2:=hz.free 2
   have f3:=hz.free 3
   have f4:=hz.free 4
   have f5:=hz.free 5
   have hrl:=hz.lt
   simp at u0 u1 u2 u3 u4 u5
   obtain⟨v_,v0,v1,v2,v3,v4,v5⟩:=hsO
   simp only[List.length_nil,Nat.zero_mul,Nat.zero_add] at v0 v1 v2 v3 v4 v5
   obtain⟨y,hy⟩:∃ y,Sx.node fr.at_ fr.L=y:=⟨_,rfl⟩
   have HYl:Hid (y.L=fr.L∧y.list=true):=by rw[←hy];exact⟨rfl,rfl⟩
   rw[hy] at v0 v1 v2 v3 v4 v5
   rw[hy] at HPo
   have hl5:=six_lies hz (.bool y.list) (.int .i64 y.k) (.string y.T) (.int .i64 y.ta) (.int .i64 y.at_) (.slice fA y.L.length fr.n)
   have ht5:=six_turn wr r0 (.bool y.list) (.int .i64 y.k) (.string y.T) (.int .i64 y.ta) (.int .i64 y.at_) (.slice fA y.L.length fr.n)
   have ht6:=(ht5.alloc (Obj.cells #[Value.int IntKind.i64 2,Value.string xt,Value.int IntKind.i64 xa] 24)).alloc (Obj.cells #[.bool y.list,.int .i64 y.k,.string y.T,.int .i64 y.ta,.int .i64 y.at_,.slice fA y.L.length fr.n] 27)
   have hl6:=((((Turn.refl (fun _=>False) (World.six wr r0 (.bool y.list) (.int .i64 y.k) (.string y.T) (.int .i64 y.ta) (.int .i64 y.at_) (.slice fA y.L.length fr.n))).alloc (Obj.cells #[Value.int IntKind.i64 2,Value.string xt,Value.int IntKind.i64 xa] 24)).alloc (Obj.cells #[.bool y.list,.int .i64 y.k,.string y.T,.int .i64 y.ta,.int .i64 y.at_,.slice fA y.L.length fr.n] 27))).lies hl5 id
   have hfr:=hI1.lay.fr _ List.mem_cons_self
   have hfL:TreeL wr (InRoom R used [(fr,fA)]) fA y.L:=by rw[HYl.out.1];exact hfr.2.2.2
   have HE:Hid (STree (((World.six wr r0 (.bool y.list) (.int .i64 y.k) (.string y.T) (.int .i64 y.ta) (.int .i64 y.at_) (.slice fA y.L.length fr.n)).alloc (Obj.cells #[Value.int IntKind.i64 2,Value.string xt,Value.int IntKind.i64 xa] 24)).alloc (Obj.cells #[.bool y.list,.int .i64 y.k,.string y.T,.int .i64 y.ta,.int .i64 y.at_,.slice fA y.L.length fr.n] 27)) (fun b _=>r0≤b) y fA fr.n∧
     Below r0 w (((World.six wr r0 (.bool y.list) (.int .i64 y.k) (.string y.T) (.int .i64 y.ta) (.int .i64 y.at_) (.slice fA y.L.length fr.n)).alloc (Obj.cells #[Value.int IntKind.i64 2,Value.string xt,Value.int IntKind.i64 xa] 24)).alloc (Obj.cells #[.bool y.list,.int .i64 y.k,.string y.T,.int .i64 y.ta,.int .i64 y.at_,.slice fA y.L.length fr.n] 27))):=by
    refine⟨⟨⟨by rw[HYl.out.1];exact hfr.2.2.1,?_⟩,?_⟩,?_⟩
    ·have h1:=hfr.2.1
     have h2:=hI1.lay.le
     have h3:fr.n≤all:=by
      have:fr.st+fr.n≤used:=h1
      omega
     unfold maxLen
     omega
    ·exact hfL.imp ht6.size (fun b off hb hG j _=>ht6.cell (p:=⟨b,off+j,none⟩) hb (by rw[show(⟨b,off+j,none⟩:Addr).block=R from hG.1];omega)) (fun b off _ hG=>by rw[hG.1];omega)
    ·exact hbw.trans (ht6.below (Nat.le_of_lt hrl) (fun _ e=>Nat.le_of_eq e.symm))
   have e0:=hl6.cell 0
   have e1:=hl6.cell 1
   have e2:=hl6.cell 2
   have e3:=hl6.cell 3
   have e4:=hl6.cell 4
   have e5:=hl6.cell 5
   simp at e0 e1 e2 e3 e4 e5
   have HEc:=Lib.hid (And.intro e0 (And.intro e1 (And.intro e2 (And.intro e3 (And.intro e4 e5)))))
   clear e0 e1 e2 e3 e4 e5
   clear hI1 hI2 hI3 hI4 HI hbw hx hdr hc hlt hms e hl5 ht5 ht6 hl6 hfr hfL hz
   go_wp2
   obtain⟨e0,e1,e2,e3,e4,e5⟩:=HEc.out
   refine bodyPost_ret (v:=sval y fA fr.n) (by simp[results,Tryz.results151,go_sem,e0,e1,e2,e3,e4,e5]) rfl ?_
   rw[HPo.out]
   rw[hr0]
   exact⟨⟨fA,fr.n,rfl,HE.out.1⟩,HE.out.2⟩
  ·have h2:xk=2:=h2
   subst h2
   obtain⟨fA,ms,rfl,hms⟩:=map_cons e
   obtain⟨gA,ns,rfl,hns⟩:=map_cons hms
   obtain⟨kk,hk'⟩:∃ kk,ns.length+1=kk:=⟨_,rfl⟩
   obtain rfl:k=kk+1:=by rw[←hI1.len,List.length_cons,List.length_cons,hk']
   obtain⟨O,cu,rfl,hBO,hLO,hcc,hsO,_⟩:=hI1.own.top
   rw[List.length_cons,hk'] at hsO hcc
   obtain⟨v_,v0,v1,v2,v3,v4,v5⟩:=hsO
   have hfr:=hI1.lay.fr _ List.mem_cons_self
   have hcut:=fun W=>cut_h (T:=25) (s:=6) Tryz.underlying25 (fun W=>by kernel_rfl) (n:=kk+1) (c:=c') (k:=kk) W (own_add hI1.own) (by omega)
   have hz0:((kk:Int) == 0)=false:=beq_eq_false_iff_ne.2 (by omega)
   have hk1:(kk:Int)<(kk:Int)+1:=by omega
   have hk2:(0:Int)≤(kk:Int):=by omega
   have HAd2:Hid (∀ o1 o2:Obj,Calls Tryz.prog 183 #[.slice (some ⟨O,0,none⟩) kk c',sval (Sx.node fr.at_ fr.L) fA fr.n] ((wr.alloc o1).alloc o2) fun e w'=>e=.returned (.tuple #[])∧Laid W1 w' R all used kk (some ⟨O,0,none⟩) c' ((gr.add (Sx.node fr.at_ fr.L),gA)::ns)):=fun o1 o2=>by
    have tt:=((Turn.refl (fun _=>False) wr).alloc o1).alloc o2
    have hl2:=hI1.lay.turn tt id
    have hfr2:=hl2.fr _ List.mem_cons_self
    subst hk'
    refine kadd_laid W1 _ R all used ns.length _ c' _ gr gA ns (Sx.node fr.at_ fr.L) fA fr.n hl2 (fun q hq=>List.mem_cons_of_mem _ hq) (List.pairwise_cons.1 hI1.lay.disj).2 (hI1.own.pop.turn tt (fun _ _=>id)) (hI1.turn.trans tt (fun _ e=>e.elim)) HW1.out.2.2.2.1 hlg ⟨⟨hfr.2.2.1,?_⟩,hfr2.2.2.2⟩ rfl (by omega)
    have h1:fr.st+fr.n≤used:=hfr.2.1
    unfold maxLen
    omega
   have HN:Hid (lrun all f (l.drop (i+1)) (i+1) used (((gr.add (Sx.node fr.at_ fr.L),gA)::ns).map (·.1))=some X):=by
    show _=_
    rw[List.map_cons,hns]
    exact hr
   have HI23:=Lib.hid (And.intro hI2 hI3)
   generalize Sx.node fr.at_ fr.L=y at v0 v1 v2 v3 v4 v5 HAd2 HN
   clear hI1 hI2 hI3 hI4 HI hbw hx hdr hc hlt hms e hns hr hfr hLO hcc
   go_wp2_with (go_at_call 183;refine(HAd2.out _ _).mono ?_;rintro e w4 ⟨rfl,h4⟩;have H4:=Lib.hid h4;clear h4)
   go_roundw
   case rel=>exact⟨i+1,used,rm,kk,some ⟨O,0,none⟩,c',Au,(gr.add y,gA)::ns,by omega,by omega,hur,by go_num,rfl,rfl,H4.out,HI23.out.1,HI23.out.2,HN.out⟩
   case measure=>simp[intOf];omega
  ·obtain⟨fA,ms,rfl,hms⟩:=map_cons e
   obtain⟨kk,hk'⟩:∃ kk,ms.length+1=kk:=⟨_,rfl⟩
   obtain rfl:k=kk:=by rw[←hI1.len,List.length_cons,hk']
   have b1:(xk == 1)=false:=beq_eq_false_iff_ne.2 h1
   have b2:(xk == 2)=false:=beq_eq_false_iff_ne.2 h2
   have HAt:=Lib.hid fun W=>katom (xk,xt,xa) W
   have HAd2:Hid (∀ (o1:Obj) (W:World),Below (wr.alloc o1).heap.size (wr.alloc o1) W→Calls Tryz.prog 183 #[.slice A' k c',sval (Sx.atom (xk,xt,xa)) none 0] W fun e w'=>e=.returned (.tuple #[])∧Laid W1 w' R all used k A' c' ((fr.add (Sx.atom (xk,xt,xa)),fA)::ms)):=fun o1 W hW=>by
    have tt:Turn (fun _=>False) wr W:=((Turn.refl (fun _=>False) wr).alloc o1).step hW
    subst hk'
    exact kadd_laid W1 _ R all used ms.length _ c' _ fr fA ms (Sx.atom (xk,xt,xa)) none 0 (hI1.lay.turn tt id) (fun q hq=>hq) hI1.lay.disj (hI1.own.turn tt (fun _ _=>id)) (hI1.turn.trans tt (fun _ e=>e.elim)) HW1.out.2.2.2.1 hlg ⟨⟨Nat.le_refl _,Nat.zero_le _⟩,.nil _⟩ rfl (by omega)
   have HN:Hid (lrun all f (l.drop (i+1)) (i+1) used (((fr.add (Sx.atom (xk,xt,xa)),fA)::ms).map (·.1))=some X):=by
    show _=_
    rw[List.map_cons,hms]
    exact hr
   have HI23:=Lib.hid (And.intro hI2 hI3)
   generalize Sx.atom (xk,xt,xa)=y at HAt HAd2 HN
   clear hI1 hI2 hI3 hI4 HI hbw hx hdr hc hlt hms e hr h1 h2
   go_wp2_with (first
    |(go_at_call 125;refine(HAt.out _).mono ?_;rintro e w3 ⟨rfl,b3⟩;have B3:=Lib.hid b3;clear b3)
    |(go_at_call 183;refine(HAd2.out _ _ B3.out).mono ?_;rintro e w4 ⟨rfl,h4⟩;have H4:=Lib.hid h4;clear h4))
   go_roundw
   case rel=>exact⟨i+1,used,rm,k,A',c',Au,(fr.add y,fA)::ms,by omega,by omega,hur,by go_num,rfl,rfl,H4.out,HI23.out.1,HI23.out.2,HN.out⟩
   case measure=>simp[intOf];omega
end Go.Proofs.YtcgaeknikfaghaaGreatDoor
namespace Go.Proofs.YtcgaeknikfaghaaGreatDoor
open Go.RowKit
abbrev iagg (x:MItem):Value:=.agg #[.bool x.X.list,.int .i64 x.X.k,.string x.X.T,.int .i64 x.X.ta,.int .i64 x.X.at_,.slice x.A x.X.L.length x.c,.int .i64 x.E,.int .i64 x.at_]
def FirstSays (z:Int) (l:List ITok) (x:SItem) (s:Nat):Prop:=0<s∧s≤l.length∧∀ J,Says z (l.drop s) J→Says z l (x::J)
abbrev FirstSaid6 (w:World) (l:List ITok) (z:Int) (e:Ending) (w':World):Prop:=
 (∃ (x:MItem) (s:Nat),e=.returned (.tuple #[iagg x,.int .i64 (s:Nat)])∧STree w' (fun b _=>w.heap.size≤b) x.X x.A x.c∧FirstSays z l x.pure s)∧Below w.heap.size w w'
theorem FirstSays.ends {z:Int} {t:ITok} {l:List ITok} (h1:t.1=1) (hc:clos 0 0 (t::l)=none):FirstSays z (t::l) ⟨Sx.zero,51,z⟩ (t::l).length:=⟨by simp,Nat.le_refl _,fun J hJ=>by
 rw[List.drop_length] at hJ
 cases hJ
 exact .ends t l h1 hc⟩
theorem FirstSays.list {z:Int} {o c:ITok} {m r:List ITok} {M:List Sx} (ho:o.1=1) (hc:c.1=2) (hr:Reads m M):FirstSays z (o::(m++c::r)) (if 64<Sx.deeps M+1 then⟨Sx.zero,2,o.2.2⟩ else⟨Sx.node o.2.2 M,0,o.2.2⟩) (m.length+2):=⟨by omega,by simp,fun J hJ=>by
 have e:(o::(m++c::r)).drop (m.length+2)=r:=by
  rw[show o::(m++c::r)=(o::(m++[c]))++r by simp,show m.length+2=(o::(m++[c])).length by simp,List.drop_left]
 rw[e] at hJ
 split
 ·exact .deep o c m r M J ho hc hr (by assumption) hJ
 ·exact .list o c m r M J ho hc hr (by assumption) hJ⟩
theorem TokS.first {w:World} {A:Option Addr} {n k:Nat} {l l':List ITok} (h:TokS w A n l) (hk:k≤n) (e:l.take k=l'):TokS w A k l':=by
 subst e
 refine⟨by rw[List.length_take,h.len];omega,fun h0=>?_⟩
 obtain⟨b,off,e,hlt,hc⟩:=h.at_ (by omega)
 refine⟨b,off,e,hlt,fun i x hx=>hc i x ?_⟩
 rw[List.getElem?_take] at hx
 split at hx
 ·exact hx
 ·cases hx
theorem tok_addr {w:World} {A:Option Addr} {n:Nat} {l:List ITok} (h:TokS w A n l) (hn:0<n):A.map (·.add 0)=A:=by
 obtain⟨b,off,rfl,_⟩:=h.at_ hn
 simp[addr_add]
abbrev World.eight (w:World) (g:Nat) (u0 u1 u2 u3 u4 u5 u6 u7:Value):World:=(((((((w.setCell ⟨g,0,none⟩ u0).setCell ⟨g,1,none⟩ u1).setCell ⟨g,2,none⟩ u2).setCell ⟨g,3,none⟩ u3).setCell ⟨g,4,none⟩ u4).setCell ⟨g,5,none⟩ u5).setCell ⟨g,6,none⟩ u6).setCell ⟨g,7,none⟩ u7
theorem eight_turn (w:World) (g:Nat) (u0 u1 u2 u3 u4 u5 u6 u7:Value):Turn (fun b=>b=g) w (World.eight w g u0 u1 u2 u3 u4 u5 u6 u7):=
 ((six_turn w g u0 u1 u2 u3 u4 u5).put (p:=⟨g,6,none⟩) (.inl rfl) u6).put (p:=⟨g,7,none⟩) (.inl rfl) u7
theorem eight_below {B:Nat} {w0 w:World} {g:Nat} {u0 u1 u2 u3 u4 u5 u6 u7:Value} (h:Below B w0 w) (hB:B≤w0.heap.size) (hg:B≤g):Below B w0 (World.eight w g u0 u1 u2 u3 u4 u5 u6 u7):=
 h.trans ((eight_turn w g u0 u1 u2 u3 u4 u5 u6 u7).below (Nat.le_trans hB h.size) (fun _ e=>e▸hg))
theorem eight_lies {w:World} {g:Nat} {t:TypeId} {a0 a1 a2 a3 a4 a5 a6 a7:Value} (h:Lies w g t #[a0,a1,a2,a3,a4,a5,a6,a7]) (u0 u1 u2 u3 u4 u5 u6 u7:Value):Lies (World.eight w g u0 u1 u2 u3 u4 u5 u6 u7) g t #[u0,u1,u2,u3,u4,u5,u6,u7]:=by
 have:=(((((((h.put 0 u0).put 1 u1).put 2 u2).put 3 u3).put 4 u4).put 5 u5).put 6 u6).put 7 u7
 have e:(((((((#[a0,a1,a2,a3,a4,a5,a6,a7].setIfInBounds 0 u0).setIfInBounds 1 u1).setIfInBounds 2 u2).setIfInBounds 3 u3).setIfInBounds 4 u4).setIfInBounds 5 u5).setIfInBounds 6 u6).setIfInBounds 7 u7=#[u0,u1,u2,u3,u4,u5,u6,u7]:=by simp
 rw[e] at this
 exact this
theorem FirstSaid6.mk {w w':World} {l:List ITok} {z:Int} {e:Ending} (x:MItem) (s:Nat) (he:e=.returned (.tuple #[iagg x,.int .i64 (s:Nat)])) (ht:STree w' (fun b _=>w.heap.size≤b) x.X x.A x.c) (hs:FirstSays z l x.pure s) (hb:Below w.heap.size w w'):FirstSaid6 w l z e w':=⟨⟨x,s,he,ht,hs⟩,hb⟩
theorem kbracketed (w:World) (A:Option Addr) (n c:Nat) (t:ITok) (r:List ITok) (z:Int) (h:TokS w A n (t::r)) (hn:n≤1000000) (hnc:n≤c) (h1:t.1=1):
  Calls Tryz.prog 124 #[.slice A n c,.int .i64 z] w fun e w'=>FirstSaid6 w (t::r) z e w':=by
 obtain⟨Post,hPost⟩:∃ Post:Ending→World→Prop,Post=fun e w'=>FirstSaid6 w (t::r) z e w':=⟨_,rfl⟩
 rw[←hPost]
 have HPo:=Lib.hid hPost
 have HX:=Lib.hid fun W (hW:Below w.heap.size w W)=>kextent W A n c (t::r) t (h.below hW) rfl h1 hn
 have hlen:=h.len
 have hn0:0<n:=by rw[←hlen];simp
 cases hcl:clos 0 0 (t::r) with
 |none=>
  rw[hcl] at HX
  have HF:=Lib.hid (FirstSays.ends (z:=z) h1 hcl)
  rw[hlen] at HF
  clear hPost h hcl hlen
  go_enter Tryz.func124,Tryz.ntmps124
  go_wp2_with fail
  refine(HX.out _ ((Below.refl _ w).alloc (Nat.le_refl _) _)).mono ?_
  rintro e w1 ⟨⟨y,rfl⟩,b1⟩
  obtain⟨r0,hr0⟩:∃ r,w.heap.size=r:=⟨_,rfl⟩
  have hz:=hr0▸(Turn.of_below (F:=fun _=>False) b1).lies (Lies.new w _ _) id
  have HB:=Lib.hid (((Below.refl _ w).alloc (Nat.le_refl _) _).trans (b1.mono (by simp)))
  clear b1
  have u0:=hz.cell 0
  have u1:=hz.cell 1
  have u2:=hz.cell 2
  have u3:=hz.cell 3
  have u4:=hz.cell 4
  have u5:=hz.cell 5
  have u6:=hz.cell 6
  have u7:=hz.cell 7
  have f0:=hz.free 0
  have f1:=hz.free 1
  have f2:=hz.free 2
  have f3:=hz.free 3
  have f4:=hz.free 4
  have f5:=hz.free 5
  have f6:=hz.free 6
  have f7:=hz.free 7
  have hrl:=hz.lt
  simp at u0 u1 u2 u3 u4 u5 u6 u7
  have hl8:=eight_lies hz (.bool false) (.int .i64 0) (.string ⟨#[]⟩) (.int .i64 0) (.int .i64 0) (.slice none 0 0) (.int .i64 51) (.int .i64 z)
  have ht8:=eight_turn w1 r0 (.bool false) (.int .i64 0) (.string ⟨#[]⟩) (.int .i64 0) (.int .i64 0) (.slice none 0 0) (.int .i64 51) (.int .i64 z)
  have e0:=hl8.cell 0
  have e1:=hl8.cell 1
  have e2:=hl8.cell 2
  have e3:=hl8.cell 3
  have e4:=hl8.cell 4
  have e5:=hl8.cell 5
  have e6:=hl8.cell 6
  have e7:=hl8.cell 7
  simp at e0 e1 e2 e3 e4 e5 e6 e7
  have HEc:=Lib.hid (And.intro e0 (And.intro e1 (And.intro e2 (And.intro e3 (And.intro e4 (And.intro e5 (And.intro e6 e7)))))))
  clear e0 e1 e2 e3 e4 e5 e6 e7
  have HT8:=Lib.hid ht8
  clear hl8 ht8 hz
  go_wp2
  obtain⟨e0,e1,e2,e3,e4,e5,e6,e7⟩:=HEc.out
  refine bodyPost_ret (v:=.tuple #[.agg #[.bool false,.int .i64 0,.string ⟨#[]⟩,.int .i64 0,.int .i64 0,.slice none 0 0,.int .i64 51,.int .i64 z],.int .i64 (n:Nat)]) (by simp[results,Tryz.results124,go_sem,e0,e1,e2,e3,e4,e5,e6,e7]) rfl ?_
  rw[HPo.out]
  exact FirstSaid6.mk ⟨Sx.zero,none,0,51,z⟩ n (by rfl) ⟨⟨Nat.le_refl _,Nat.zero_le _⟩,.nil _⟩ HF.out (HB.out.trans (HT8.out.below HB.out.size (fun _ e=>by omega)))
 |some sd=>
  obtain⟨s,d⟩:=sd
  rw[hcl] at HX
  obtain⟨m,M,cl,r',rfl,hc,hr,rfl,rfl⟩:=clos_reads h1 hcl
  have HF:=Lib.hid (FirstSays.list (z:=z) (r:=r') h1 hc hr)
  have HTk:=Lib.hid h
  have hs2:m.length+2≤n:=by rw[←hlen];simp
  obtain⟨xk,xt,xa⟩:=t
  obtain⟨b,off,x,rfl,hx,_,hc3⟩:=h.get (i:=0) hn0
  obtain rfl:(xk,xt,xa)=x:=by simpa using hx
  obtain⟨s,hs⟩:∃ s,m.length+2=s:=⟨_,rfl⟩
  rw[hs] at HX HF hs2
  have hsb:((s:Int) == 0)=false:=beq_eq_false_iff_ne.2 (by omega)
  have HC3:=Lib.hid hc3
  by_cases hd:64<Sx.deeps M+1
  ·rw[if_pos hd] at HF
   obtain⟨dd,hdd⟩:∃ d,Sx.deeps M+1=d:=⟨_,rfl⟩
   rw[hdd] at HX hd
   have hd':(64:Int)<(dd:Int):=by omega
   clear hPost h hcl hlen hdd hd hc hr hx hc3
   go_enter Tryz.func124,Tryz.ntmps124
   go_wp2_with fail
   refine(HX.out _ ((Below.refl _ w).alloc (Nat.le_refl _) _)).mono ?_
   rintro e w1 ⟨⟨y,y',rfl,rfl,rfl⟩,b1⟩
   obtain⟨r0,hr0⟩:∃ r,w.heap.size=r:=⟨_,rfl⟩
   have hz:=hr0▸(Turn.of_below (F:=fun _=>False) b1).lies (Lies.new w _ _) id
   have HB:=Lib.hid (((Below.refl _ w).alloc (Nat.le_refl _) _).trans (b1.mono (by simp)))
   obtain⟨z0,z1,z2,z3⟩:=HC3.out w1 HB.out
   simp only[Nat.zero_mul,Nat.add_zero] at z1 z2 z3
   have hn0':(0:Int)<(n:Int):=by omega
   clear b1
   have u0:=hz.cell 0
   have u1:=hz.cell 1
   have u2:=hz.cell 2
   have u3:=hz.cell 3
   have u4:=hz.cell 4
   have u5:=hz.cell 5
   have u6:=hz.cell 6
   have u7:=hz.cell 7
   have f0:=hz.free 0
   have f1:=hz.free 1
   have f2:=hz.free 2
   have f3:=hz.free 3
   have f4:=hz.free 4
   have f5:=hz.free 5
   have f6:=hz.free 6
   have f7:=hz.free 7
   have hrl:=hz.lt
   simp at u0 u1 u2 u3 u4 u5 u6 u7
   have hl8:=eight_lies hz (.bool false) (.int .i64 0) (.string ⟨#[]⟩) (.int .i64 0) (.int .i64 0) (.slice none 0 0) (.int .i64 2) (.int .i64 xa)
   have ht8:=eight_turn w1 r0 (.bool false) (.int .i64 0) (.string ⟨#[]⟩) (.int .i64 0) (.int .i64 0) (.slice none 0 0) (.int .i64 2) (.int .i64 xa)
   have e0:=hl8.cell 0
   have e1:=hl8.cell 1
   have e2:=hl8.cell 2
   have e3:=hl8.cell 3
   have e4:=hl8.cell 4
   have e5:=hl8.cell 5
   have e6:=hl8.cell 6
   have e7:=hl8.cell 7
   simp at e0 e1 e2 e3 e4 e5 e6 e7
   have HEc:=Lib.hid (And.intro e0 (And.intro e1 (And.intro e2 (And.intro e3 (And.intro e4 (And.intro e5 (And.intro e6 e7)))))))
   clear e0 e1 e2 e3 e4 e5 e6 e7
   have HT8:=Lib.hid ht8
   clear hl8 ht8 hz
   go_wp2
   obtain⟨e0,e1,e2,e3,e4,e5,e6,e7⟩:=HEc.out
   refine bodyPost_ret (v:=.tuple #[.agg #[.bool false,.int .i64 0,.string ⟨#[]⟩,.int .i64 0,.int .i64 0,.slice none 0 0,.int .i64 2,.int .i64 xa],.int .i64 (s:Nat)]) (by simp[results,Tryz.results124,go_sem,e0,e1,e2,e3,e4,e5,e6,e7]) rfl ?_
   rw[HPo.out]
   exact FirstSaid6.mk ⟨Sx.zero,none,0,2,xa⟩ s (by rfl) ⟨⟨Nat.le_refl _,Nat.zero_le _⟩,.nil _⟩ HF.out (HB.out.trans (HT8.out.below HB.out.size (fun _ e=>by omega)))
  ·rw[if_neg hd] at HF
   have htk:TokS w (some ⟨b,off,none⟩) s ((xk,xt,xa)::(m++[cl])):=h.first hs2 (by rw[←hs,show(xk,xt,xa)::(m++cl::r')=((xk,xt,xa)::(m++[cl]))++r' by simp,show m.length+2=((xk,xt,xa)::(m++[cl])).length by simp,List.take_left])
   have HK:=Lib.hid fun W (hW:Below w.heap.size w W)=>klist W (some ⟨b,off,none⟩) s c (xk,xt,xa) cl m M (htk.below hW) (by omega) h1 hc hr
   obtain⟨dd,hdd⟩:∃ d,Sx.deeps M+1=d:=⟨_,rfl⟩
   rw[hdd] at HX hd
   have hd':¬(64:Int)<(dd:Int):=by omega
   have hcut:=fun W=>cut_h (T:=114) (s:=3) Tryz.underlying114 (fun W=>by kernel_rfl) (n:=n) (c:=c) (k:=s) W (tok_addr h hn0) (by omega)
   obtain⟨y,hy⟩:∃ y,Sx.node xa M=y:=⟨_,rfl⟩
   have hy':Sx.node (xk,xt,xa).2.2 M=y:=hy
   rw[hy'] at HK HF
   clear hPost h hcl hlen hdd hd hc hr hx hc3 htk hy hy'
   go_enter Tryz.func124,Tryz.ntmps124
   go_wp2_with fail
   refine(HX.out _ ((Below.refl _ w).alloc (Nat.le_refl _) _)).mono ?_
   rintro e w1 ⟨⟨q,q',rfl,rfl,rfl⟩,b1⟩
   obtain⟨r0,hr0⟩:∃ r,w.heap.size=r:=⟨_,rfl⟩
   have hz:=hr0▸(Turn.of_below (F:=fun _=>False) b1).lies (Lies.new w _ _) id
   have HB:=Lib.hid (((Below.refl _ w).alloc (Nat.le_refl _) _).trans (b1.mono (by simp)))
   have HZ:=Lib.hid hz
   have HBD:Hid (Below w.heap.size w w1.drew∧Below w1.heap.size w1 w1.drew):=⟨⟨HB.out.os,HB.out.tape,HB.out.output,HB.out.size,HB.out.block⟩,⟨rfl,rfl,rfl,Nat.le_refl _,fun _ _=>rfl⟩⟩
   have KS:Hid (∀ W,Below w.heap.size w W→W.cell? ⟨b,off+2,none⟩=some (.int .i64 xa)∧b<W.heap.size):=fun W hW=>by
    obtain⟨z0,z1,z2,z3⟩:=HC3.out W hW
    simp only[Nat.zero_mul,Nat.add_zero] at z3
    exact⟨z3,z0⟩
   have HS:=Lib.hid (KS.out _ HBD.out.1)
   have hn0':(0:Int)<(n:Int):=by omega
   clear b1 hz
   go_wp2
   go_region_held3 (fun W'=>W'.cell? ⟨b,off+2,none⟩=some (.int .i64 xa)∧b<W'.heap.size)
    (first|(with_reducible exact HS.out)|(with_reducible exact KS.out _ B2.out)|(with_reducible exact KS.out _ (eight_below B2.out (Nat.le_refl _) (Nat.le_of_eq hr0))))
    (first|(go_at_call 151;(with_reducible refine(HK.out _ ?_).mono ?_);(with_reducible exact HBD.out.1);rintro e w2 ⟨⟨A2,c2,rfl,t2⟩,b2⟩;have B2:=Lib.hid (HBD.out.1.trans (b2.mono HBD.out.1.size));have T2:=Lib.hid t2;have hz:=(Turn.of_below (F:=fun _=>False) (HBD.out.2.trans (b2.mono HBD.out.2.size))).lies HZ.out id;have u0:=hz.cell 0;have u1:=hz.cell 1;have u2:=hz.cell 2;have u3:=hz.cell 3;have u4:=hz.cell 4;have u5:=hz.cell 5;have u6:=hz.cell 6;have u7:=hz.cell 7;have f0:=hz.free 0;have f1:=hz.free 1;have f2:=hz.free 2;have f3:=hz.free 3;have f4:=hz.free 4;have f5:=hz.free 5;have f6:=hz.free 6;have f7:=hz.free 7;have hrl:=hz.lt;simp at u0 u1 u2 u3 u4 u5 u6 u7;have HZ2:=Lib.hid hz;clear b2 t2 hz))
   have hl8:=eight_lies HZ2.out (.bool y.list) (.int .i64 y.k) (.string y.T) (.int .i64 y.ta) (.int .i64 y.at_) (.slice A2 y.L.length c2) (.int .i64 0) (.int .i64 xa)
   have ht8:=eight_turn w2 r0 (.bool y.list) (.int .i64 y.k) (.string y.T) (.int .i64 y.ta) (.int .i64 y.at_) (.slice A2 y.L.length c2) (.int .i64 0) (.int .i64 xa)
   have HT8:=Lib.hid ht8
   have HL8:=Lib.hid hl8
   clear hl8 ht8
   have hlt0:r0<w1.drew.heap.size:=HZ.out.lt
   have HFin:Hid (STree (World.eight w2 r0 (.bool y.list) (.int .i64 y.k) (.string y.T) (.int .i64 y.ta) (.int .i64 y.at_) (.slice A2 y.L.length c2) (.int .i64 0) (.int .i64 xa)) (fun q _=>w.heap.size≤q) y A2 c2):=⟨T2.out.le,T2.out.tree.imp HT8.out.size (fun q o2 hb hG j _=>HT8.out.cell (p:=⟨q,o2+j,none⟩) hb (by show ¬q=r0;omega)) (fun q o2 _ hG=>by omega)⟩
   go_wp2
   have e0:=HL8.out.cell 0
   have e1:=HL8.out.cell 1
   have e2:=HL8.out.cell 2
   have e3:=HL8.out.cell 3
   have e4:=HL8.out.cell 4
   have e5:=HL8.out.cell 5
   have e6:=HL8.out.cell 6
   have e7:=HL8.out.cell 7
   simp at e0 e1 e2 e3 e4 e5 e6 e7
   refine bodyPost_ret (v:=.tuple #[.agg #[.bool y.list,.int .i64 y.k,.string y.T,.int .i64 y.ta,.int .i64 y.at_,.slice A2 y.L.length c2,.int .i64 0,.int .i64 xa],.int .i64 (s:Nat)]) (by simp[results,Tryz.results124,go_sem,e0,e1,e2,e3,e4,e5,e6,e7]) rfl ?_
   rw[HPo.out]
   exact FirstSaid6.mk ⟨y,A2,c2,0,xa⟩ s rfl HFin.out HF.out (B2.out.trans (HT8.out.below B2.out.size (fun _ e=>by omega)))
end Go.Proofs.YtcgaeknikfaghaaGreatDoor
namespace Go.Proofs.YtcgaeknikfaghaaGreatDoor
open Go.RowKit
theorem FirstSays.close {z:Int} {t:ITok} {r:List ITok} (h:t.1=2):FirstSays z (t::r) ⟨Sx.zero,60,t.2.2⟩ 1:=⟨by omega,by simp,fun J hJ=> .close t r J h hJ⟩
theorem FirstSays.atom {z:Int} {t:ITok} {r:List ITok} (h1:t.1≠1) (h2:t.1≠2):FirstSays z (t::r) ⟨Sx.atom t,0,t.2.2⟩ 1:=⟨by omega,by simp,fun J hJ=> .atom t r J h1 h2 hJ⟩
theorem kfirst6 (w:World) (A:Option Addr) (n c:Nat) (t:ITok) (r:List ITok) (z:Int) (h:TokS w A n (t::r)) (hn:n≤1000000) (hnc:n≤c):
  Calls Tryz.prog 89 #[.slice A n c,.int .i64 z] w fun e w'=>FirstSaid6 w (t::r) z e w':=by
 obtain⟨Post,hPost⟩:∃ Post:Ending→World→Prop,Post=fun e w'=>FirstSaid6 w (t::r) z e w':=⟨_,rfl⟩
 rw[←hPost]
 have HPo:=Lib.hid hPost
 have hlen:=h.len
 have hn0:0<n:=by rw[←hlen];simp
 obtain⟨xk,xt,xa⟩:=t
 obtain⟨b,off,x,rfl,hx,_,hc3⟩:=h.get (i:=0) hn0
 obtain rfl:(xk,xt,xa)=x:=by simpa using hx
 have HH:=Lib.hid h
 obtain⟨z0,z1,z2,z3⟩:=hc3 w (Below.refl _ _)
 simp only[Nat.zero_mul,Nat.add_zero] at z1 z2 z3
 have hn0':(0:Int)<(n:Int):=by omega
 have hb1:Below w.heap.size w ((w.alloc (Obj.cells #[Value.bool false,Value.int IntKind.i64 0,Value.string { data:=#[] },Value.int IntKind.i64 0,Value.int IntKind.i64 0,Value.slice none 0 0,Value.int IntKind.i64 0,Value.int IntKind.i64 0] 72)).alloc (Obj.cells #[Value.int IntKind.i64 xk,Value.string xt,Value.int IntKind.i64 xa] 24)):=((Below.refl _ w).alloc (Nat.le_refl _) _).alloc (by simp) _
 have HB1:=Lib.hid hb1
 by_cases h2:xk=2
 ·subst h2
  have HF:=Lib.hid (FirstSays.close (z:=z) (t:=(2,xt,xa)) (r:=r) rfl)
  clear hPost h hlen hx hc3 hb1
  go_enter Tryz.func89,Tryz.ntmps89
  go_wp2
  refine bodyPost_ret (v:=.tuple #[.agg #[.bool false,.int .i64 0,.string ⟨#[]⟩,.int .i64 0,.int .i64 0,.slice none 0 0,.int .i64 60,.int .i64 xa],.int .i64 1]) (by simp[results,Tryz.results89,go_sem]) rfl ?_
  rw[HPo.out]
  exact FirstSaid6.mk ⟨Sx.zero,none,0,60,xa⟩ 1 (by rfl) ⟨⟨Nat.le_refl _,Nat.zero_le _⟩,.nil _⟩ HF.out (((Below.refl _ w).alloc (Nat.le_refl _) _).alloc (by simp) _)
 ·by_cases h1:xk=1
  ·subst h1
   have HK:=Lib.hid fun W (hW:Below w.heap.size w W)=>kbracketed W (some ⟨b,off,none⟩) n c (1,xt,xa) r z (HH.out.below hW) hn hnc rfl
   clear hPost h hlen hx hc3 hb1
   go_enter Tryz.func89,Tryz.ntmps89
   go_wp2_with fail
   refine(HK.out _ HB1.out).mono ?_
   rintro e w2 ⟨⟨x,s,rfl,t2,hs⟩,b2⟩
   obtain⟨r0,hr0⟩:∃ r,w.heap.size=r:=⟨_,rfl⟩
   have hz:Lies w2 r0 72 #[Value.bool false,Value.int IntKind.i64 0,Value.string { data:=#[] },Value.int IntKind.i64 0,Value.int IntKind.i64 0,Value.slice none 0 0,Value.int IntKind.i64 0,Value.int IntKind.i64 0]:=hr0▸(Turn.of_below (F:=fun _=>False) b2).lies (((Turn.refl (fun _=>False) (w.alloc _)).alloc _).lies (Lies.new w _ _) id) id
   have HB2:=Lib.hid (HB1.out.trans (b2.mono HB1.out.size))
   have hlt0:r0<((w.alloc (Obj.cells #[Value.bool false,Value.int IntKind.i64 0,Value.string { data:=#[] },Value.int IntKind.i64 0,Value.int IntKind.i64 0,Value.slice none 0 0,Value.int IntKind.i64 0,Value.int IntKind.i64 0] 72)).alloc (Obj.cells #[Value.int IntKind.i64 1,Value.string xt,Value.int IntKind.i64 xa] 24)).heap.size:=by simp;omega
   have hl8:=eight_lies hz (.bool x.X.list) (.int .i64 x.X.k) (.string x.X.T) (.int .i64 x.X.ta) (.int .i64 x.X.at_) (.slice x.A x.X.L.length x.c) (.int .i64 x.E) (.int .i64 x.at_)
   have ht8:=eight_turn w2 r0 (.bool x.X.list) (.int .i64 x.X.k) (.string x.X.T) (.int .i64 x.X.ta) (.int .i64 x.X.at_) (.slice x.A x.X.L.length x.c) (.int .i64 x.E) (.int .i64 x.at_)
   have HFin:Hid (STree (World.eight w2 r0 (.bool x.X.list) (.int .i64 x.X.k) (.string x.X.T) (.int .i64 x.X.ta) (.int .i64 x.X.at_) (.slice x.A x.X.L.length x.c) (.int .i64 x.E) (.int .i64 x.at_)) (fun q _=>w.heap.size≤q) x.X x.A x.c):=⟨t2.le,t2.tree.imp ht8.size (fun q o2 hb hG j _=>ht8.cell (p:=⟨q,o2+j,none⟩) hb (by show ¬q=r0;omega)) (fun q o2 _ hG=>by omega)⟩
   have u0:=hz.cell 0
   have u1:=hz.cell 1
   have u2:=hz.cell 2
   have u3:=hz.cell 3
   have u4:=hz.cell 4
   have u5:=hz.cell 5
   have u6:=hz.cell 6
   have u7:=hz.cell 7
   have f0:=hz.free 0
   have f1:=hz.free 1
   have f2:=hz.free 2
   have f3:=hz.free 3
   have f4:=hz.free 4
   have f5:=hz.free 5
   have f6:=hz.free 6
   have f7:=hz.free 7
   have hrl:=hz.lt
   simp at u0 u1 u2 u3 u4 u5 u6 u7
   have HT8:=Lib.hid ht8
   have HL8:=Lib.hid hl8
   have HF:=Lib.hid hs
   clear hl8 ht8 hz b2 t2 hs
   go_wp2
   have e0:=HL8.out.cell 0
   have e1:=HL8.out.cell 1
   have e2:=HL8.out.cell 2
   have e3:=HL8.out.cell 3
   have e4:=HL8.out.cell 4
   have e5:=HL8.out.cell 5
   have e6:=HL8.out.cell 6
   have e7:=HL8.out.cell 7
   simp at e0 e1 e2 e3 e4 e5 e6 e7
   refine bodyPost_ret (v:=.tuple #[iagg x,.int .i64 (s:Nat)]) (by simp[results,Tryz.results89,go_sem,e0,e1,e2,e3,e4,e5,e6,e7]) rfl ?_
   rw[HPo.out]
   exact FirstSaid6.mk x s rfl HFin.out HF.out (HB2.out.trans (HT8.out.below HB2.out.size (fun _ e=>by omega)))
  ·have HF:=Lib.hid (FirstSays.atom (z:=z) (t:=(xk,xt,xa)) (r:=r) h1 h2)
   have b1:(xk == 1)=false:=beq_eq_false_iff_ne.2 h1
   have b2:(xk == 2)=false:=beq_eq_false_iff_ne.2 h2
   have HK:=Lib.hid fun W=>katom (xk,xt,xa) W
   obtain⟨y,hy⟩:∃ y,Sx.atom (xk,xt,xa)=y:=⟨_,rfl⟩
   rw[hy] at HK HF
   have HYL:Hid (y.L.length=0):=by show _=_;rw[←hy];rfl
   clear hPost h hlen hx hc3 hb1 h1 h2 hy
   go_enter Tryz.func89,Tryz.ntmps89
   go_wp2
   obtain⟨r0,hr0⟩:∃ r,w.heap.size=r:=⟨_,rfl⟩
   have hW2:Lies ((w.alloc (Obj.cells #[Value.bool false,Value.int IntKind.i64 0,Value.string { data:=#[] },Value.int IntKind.i64 0,Value.int IntKind.i64 0,Value.slice none 0 0,Value.int IntKind.i64 0,Value.int IntKind.i64 0] 72)).alloc (Obj.cells #[Value.int IntKind.i64 xk,Value.string xt,Value.int IntKind.i64 xa] 24)) r0 72 #[Value.bool false,Value.int IntKind.i64 0,Value.string { data:=#[] },Value.int IntKind.i64 0,Value.int IntKind.i64 0,Value.slice none 0 0,Value.int IntKind.i64 0,Value.int IntKind.i64 0]∧Lies ((w.alloc (Obj.cells #[Value.bool false,Value.int IntKind.i64 0,Value.string { data:=#[] },Value.int IntKind.i64 0,Value.int IntKind.i64 0,Value.slice none 0 0,Value.int IntKind.i64 0,Value.int IntKind.i64 0] 72)).alloc (Obj.cells #[Value.int IntKind.i64 xk,Value.string xt,Value.int IntKind.i64 xa] 24)) (r0+1) 24 #[Value.int IntKind.i64 xk,Value.string xt,Value.int IntKind.i64 xa]:=by
    subst hr0
    refine⟨((Turn.refl (fun _=>False) _).alloc _).lies (Lies.new w _ _) id,?_⟩
    have:=Lies.new (w.alloc (Obj.cells #[Value.bool false,Value.int IntKind.i64 0,Value.string { data:=#[] },Value.int IntKind.i64 0,Value.int IntKind.i64 0,Value.slice none 0 0,Value.int IntKind.i64 0,Value.int IntKind.i64 0] 72)) 24 #[Value.int IntKind.i64 xk,Value.string xt,Value.int IntKind.i64 xa]
    rw[World.size_alloc] at this
    exact this
   generalize ((w.alloc (Obj.cells #[Value.bool false,Value.int IntKind.i64 0,Value.string { data:=#[] },Value.int IntKind.i64 0,Value.int IntKind.i64 0,Value.slice none 0 0,Value.int IntKind.i64 0,Value.int IntKind.i64 0] 72)).alloc (Obj.cells #[Value.int IntKind.i64 xk,Value.string xt,Value.int IntKind.i64 xa] 24))=W2 at HB1 hW2 ⊢
   rw[hr0]
   have HW2:=Lib.hid hW2
   have HD:Hid (Below W2.heap.size W2 W2.drew):=⟨rfl,rfl,rfl,Nat.le_refl _,fun _ _=>rfl⟩
   have KS:Hid (∀ W,Below W2.heap.size W2 W→W.cell? ⟨r0+1,0,none⟩=some (.int .i64 xk)∧W.cell? ⟨r0+1,1,none⟩=some (.string xt)∧W.cell? ⟨r0+1,2,none⟩=some (.int .i64 xa)∧r0+1<W.heap.size):=fun W hW=>by
    have:=(Turn.of_below (F:=fun _=>False) hW).lies HW2.out.2 id
    exact⟨this.cell 0,this.cell 1,this.cell 2,this.lt⟩
   have KS8:Hid (∀ W,Below W2.heap.size W2 W→∀ v0 v1 v2 v3 v4 v5 v6 v7:Value,(World.eight W r0 v0 v1 v2 v3 v4 v5 v6 v7).cell? ⟨r0+1,0,none⟩=some (.int .i64 xk)∧(World.eight W r0 v0 v1 v2 v3 v4 v5 v6 v7).cell? ⟨r0+1,1,none⟩=some (.string xt)∧(World.eight W r0 v0 v1 v2 v3 v4 v5 v6 v7).cell? ⟨r0+1,2,none⟩=some (.int .i64 xa)∧r0+1<(World.eight W r0 v0 v1 v2 v3 v4 v5 v6 v7).heap.size):=fun W hW v0 v1 v2 v3 v4 v5 v6 v7=>by
    have:=(eight_turn W r0 v0 v1 v2 v3 v4 v5 v6 v7).lies ((Turn.of_below (F:=fun _=>False) hW).lies HW2.out.2 id) (by omega)
    exact⟨this.cell 0,this.cell 1,this.cell 2,this.lt⟩
   have HS:=Lib.hid (KS.out _ HD.out)
   clear hW2
   go_region_held3 (fun W'=>W'.cell? ⟨r0+1,0,none⟩=some (.int .i64 xk)∧W'.cell? ⟨r0+1,1,none⟩=some (.string xt)∧W'.cell? ⟨r0+1,2,none⟩=some (.int .i64 xa)∧r0+1<W'.heap.size)
    (first|(with_reducible exact HS.out)|(with_reducible exact KS.out _ B2.out)|(with_reducible exact KS8.out _ B2.out _ _ _ _ _ _ _ _))
    (first|(go_at_call 125;(with_reducible refine(HK.out _).mono ?_);rintro e w2 ⟨rfl,b2⟩;have B2:=Lib.hid (HD.out.trans (b2.mono HD.out.size));have hz:=(Turn.of_below (F:=fun _=>False) B2.out).lies HW2.out.1 id;have u0:=hz.cell 0;have u1:=hz.cell 1;have u2:=hz.cell 2;have u3:=hz.cell 3;have u4:=hz.cell 4;have u5:=hz.cell 5;have u6:=hz.cell 6;have u7:=hz.cell 7;have f0:=hz.free 0;have f1:=hz.free 1;have f2:=hz.free 2;have f3:=hz.free 3;have f4:=hz.free 4;have f5:=hz.free 5;have f6:=hz.free 6;have f7:=hz.free 7;have hrl:=hz.lt;simp at u0 u1 u2 u3 u4 u5 u6 u7;have HZ2:=Lib.hid hz;clear b2 hz))
   have HL8:=Lib.hid (eight_lies HZ2.out (.bool y.list) (.int .i64 y.k) (.string y.T) (.int .i64 y.ta) (.int .i64 y.at_) (.slice none y.L.length 0) (.int .i64 0) (.int .i64 xa))
   have HT8:=Lib.hid (eight_turn w2 r0 (.bool y.list) (.int .i64 y.k) (.string y.T) (.int .i64 y.ta) (.int .i64 y.at_) (.slice none y.L.length 0) (.int .i64 0) (.int .i64 xa))
   go_wp2
   have e0:=HL8.out.cell 0
   have e1:=HL8.out.cell 1
   have e2:=HL8.out.cell 2
   have e3:=HL8.out.cell 3
   have e4:=HL8.out.cell 4
   have e5:=HL8.out.cell 5
   have e6:=HL8.out.cell 6
   have e7:=HL8.out.cell 7
   simp at e0 e1 e2 e3 e4 e5 e6 e7
   refine bodyPost_ret (v:=.tuple #[.agg #[.bool y.list,.int .i64 y.k,.string y.T,.int .i64 y.ta,.int .i64 y.at_,.slice none y.L.length 0,.int .i64 0,.int .i64 xa],.int .i64 1]) (by simp[results,Tryz.results89,go_sem,e0,e1,e2,e3,e4,e5,e6,e7]) rfl ?_
   rw[HPo.out]
   exact FirstSaid6.mk ⟨y,none,0,0,xa⟩ 1 rfl ⟨⟨Nat.le_of_eq HYL.out,Nat.zero_le _⟩,List.eq_nil_of_length_eq_zero HYL.out▸.nil _⟩ HF.out ((HB1.out.trans (B2.out.mono HB1.out.size)).trans (HT8.out.below (HB1.out.trans (B2.out.mono HB1.out.size)).size (fun _ e=>by omega)))
end Go.Proofs.YtcgaeknikfaghaaGreatDoor
namespace Go.Proofs.YtcgaeknikfaghaaGreatDoor
open Go.RowKit
theorem TokS.rest {w:World} {A:Option Addr} {n c s:Nat} {l:List ITok} (h:TokS w A n l) (hs:s≤n) (hnc:n≤c):TokS w (if c=s then A else A.map (·.add (s*3))) (n-s) (l.drop s):=by
 refine⟨by rw[List.length_drop,h.len],fun h0=>?_⟩
 obtain⟨b,off,e,hlt,hc⟩:=h.at_ (by omega)
 rw[if_neg (by omega),e]
 refine⟨b,off+s*3,by simp[addr_add],hlt,fun i x hx=>?_⟩
 rw[List.getElem?_drop] at hx
 have:=hc (s+i) x hx
 rw[show off+s*3+i*3=off+(s+i)*3 by omega]
 exact this
theorem kparse (w:World) (A:Option Addr) (n c:Nat) (l:List ITok) (z:Int) (h:TokS w A n l) (hn:n≤1000000) (hnc:n≤c):
  Calls Tryz.prog 60 #[.slice A n c,.int .i64 z] w fun e w'=>ParseSaid w l z e w':=by
 obtain⟨Post,hPost⟩:∃ Post:Ending→World→Prop,Post=fun e w'=>ParseSaid w l z e w':=⟨_,rfl⟩
 rw[←hPost]
 have HPo:=Lib.hid hPost
 have HH:=Lib.hid h
 clear hPost h
 go_enter Tryz.func60,Tryz.ntmps60
 go_wp2
 go_loopw [0,5] (fun lv ov wr=>∃ (i k m:Nat) (Al:Option Addr) (cl:Nat) (A':Option Addr) (c':Nat) (li:List MItem),i+k=n∧m≤i∧k≤cl∧lv=.slice Al k cl∧ov=.slice A' m c'∧Below w.heap.size w wr∧
  Hid (TokS w Al k (l.drop i)∧OwnI wr w.heap.size A' c' li∧li.length=m∧∀ J,Says z (l.drop i) J→Says z l (li.map MItem.pure++J))) (fun lv _ _=>(match lv with| .slice _ k _=>k|_=>0))
 case atStart=>exact⟨0,n,0,A,c,none,0,[],Nat.zero_add _,Nat.le_refl _,hnc,rfl,rfl,Below.refl _ _,by rw[List.drop_zero];exact HH.out,OwnI.nil _ _,rfl,fun J hJ=>by rw[List.drop_zero] at hJ;exact hJ⟩
 case round=>
  obtain⟨i,k,m,Al,cl,A',c',li,hik,hmi,hkc,rfl,rfl,hb,HI⟩:=hrel
  obtain⟨hI0,hI1,hI2,hI3⟩:=HI.out
  have HB:=Lib.hid hb
  by_cases hk0:0<k
  ·have hk0':(0:Int)<(k:Int):=by omega
   have hlen:=hI0.len
   obtain⟨t,r,htr⟩:∃ t r,l.drop i=t::r:=by
    cases hd:l.drop i with
    |nil=>rw[hd] at hlen;simp at hlen;omega
    |cons t r=>exact⟨t,r,rfl⟩
   have HT:=Lib.hid hI0
   rw[htr] at hI0 hI3
   have HF:=Lib.hid (kfirst6 wr Al k cl t r z (hI0.below hb) (by omega) hkc)
   have HTR:=Lib.hid htr
   have HO:=Lib.hid hI1
   have HM:=Lib.hid hI2
   have HNl:Hid (n=l.length):=HH.out.len.symm
   have HSay:=Lib.hid hI3
   have hlen2:(t::r).length=k:=by rw[←htr];exact hlen
   have HL2:=Lib.hid hlen2
   have hkn:k≤1000000:=by omega
   clear hI0 hI1 hI2 hI3 HI hb htr hlen hlen2
   go_wp2_with fail
   refine HF.out.mono ?_
   rintro e w2 ⟨⟨x,s,rfl,t2,hs0,hs1,hs2⟩,b2⟩
   rw[HL2.out] at hs1
   have hB2:=HB.out.trans (b2.mono HB.out.size)
   have HAl:Hid (∀ o,OwnI (w2.alloc o) w.heap.size A' c' li∧w.heap.size≤(w2.alloc o).heap.size∧Below w.heap.size w (w2.alloc o)∧STree (w2.alloc o) (OffRow w.heap.size A' m c') x.X x.A x.c):=fun o=>
    have e:=b2.alloc b2.size o
    ⟨HO.out.kept e,Nat.le_trans hB2.size (by simp),hB2.alloc hB2.size o,(STree.kept ⟨t2.le,t2.tree.mono fun q _ _ hq=>⟨Nat.le_trans HB.out.size hq,fun e=>absurd (HO.out.lt HM.out e).2 (Nat.not_lt.2 hq)⟩⟩ ((Below.refl _ w2).alloc (Nat.le_refl _) o))⟩
   have HN:Hid (∀ J,Says z (l.drop (i+s)) J→Says z l (((li++[x]).map MItem.pure)++J)):=fun J hJ=>by
    rw[List.map_append,List.append_assoc]
    refine HSay.out _ (hs2 J ?_)
    rw[←HTR.out,List.drop_drop]
    exact hJ
   obtain⟨Al',hAl'⟩:∃ B,(if cl=s then Al else Al.map (·.add (s*3)))=B:=⟨_,rfl⟩
   have HTn:Hid (TokS w Al' (k-s) (l.drop (i+s))):=by
    have:=HT.out.rest hs1 hkc
    rw[hAl',List.drop_drop] at this
    exact this
   have hcut:=fun W=>cut_l (T:=114) (s:=3) Tryz.underlying114 (fun W=>by kernel_rfl) (A:=Al) (n:=k) (c:=cl) (k:=s) W hs1
   rw[hAl'] at hcut
   have hsk:(s:Int)≤(k:Int):=by omega
   clear b2 t2 hs2 hB2 hAl' HF
   go_wp2_with (at_builtin;refine appendI _ rfl (.tmp 17) (.tmp 19) rfl w.heap.size A' c' li m HM.out x _ (by simp) rfl (HAl.out _).1 (HAl.out _).2.2.2 rfl (by omega) (HAl.out _).2.1 ?_;intro A3 c3 w3 o3 g3;have O3:=Lib.hid o3;have B3:=Lib.hid ((HAl.out _).2.2.1.grown g3 (HAl.out _).2.1 (fun q hq=>(HO.out.lt HM.out hq).1));clear o3 g3)
   go_roundw
   case rel=>exact⟨i+s,k-s,m+1,Al',cl-s,A3,c3,li++[x],by omega,by omega,by omega,rfl,rfl,B3.out,HTn.out,O3.out,by rw[List.length_append,HM.out];rfl,HN.out⟩
   case measure=>simp;omega
  ·obtain rfl:k=0:=by omega
   have HE:=Lib.hid (ParseSaid.mk (z:=z) (l:=l) hI2 (by rw[HH.out.len];omega) hI1 (by have:=hI3 [] (by rw[List.eq_nil_of_length_eq_zero hI0.len];exact .nil);rw[List.append_nil] at this;exact this) hb)
   clear hI0 hI1 hI2 hI3 HI hb
   go_wp2
   rw[HPo.out]
   exact HE.out
end Go.Proofs.YtcgaeknikfaghaaGreatDoor
namespace Go.Proofs.YtcgaeknikfaghaaGreatDoor
open Go.RowKit Go.Shelf
theorem OwnL.fits {w:World} {B:Nat} {A:Option Addr} {c:Nat} {l:List MTok} (h:OwnL w B A c l):l.length≤c:=by
 rcases h.2 with⟨e,hn⟩|⟨g,cap,cur,e,hb,_,hc,_⟩
 ·omega
 ·injection e with e1 e2 e3
  subst e3
  exact hc
theorem kread (s:ByteArray) (w:World) (hs:s.size≤100000000) (hm:MaxL w):
  Calls Tryz.prog 27 #[.string s] w fun e w'=>ReadSaid w s e w':=by
 obtain⟨Post,hPost⟩:∃ Post:Ending→World→Prop,Post=fun e w'=>ReadSaid w s e w':=⟨_,rfl⟩
 rw[←hPost]
 have HPo:=Lib.hid hPost
 have HL:=Lib.hid (klex s w hs hm)
 clear hPost hm
 go_enter Tryz.func27,Tryz.ntmps27
 go_wp2_with fail
 refine HL.out.mono ?_
 rintro e w1 ⟨A1,c1,l1,E,p,rfl,q1⟩
 have HQ:=Lib.hid q1
 have hT:=q1.own.toks
 obtain⟨n1,hn1⟩:∃ n,l1.length=n:=⟨_,rfl⟩
 have h4:=q1.few
 have hcap:=q1.own.fits
 rw[hn1] at hT h4 hcap ⊢
 have HP:=Lib.hid (kparse w1 A1 n1 c1 (l1.map toI) (s.size:Nat) hT (by omega) hcap)
 have HN1:Hid (l1.length=n1):=hn1
 clear q1 hT hn1 HL
 go_wp2_with fail
 refine HP.out.mono ?_
 rintro e w2 ⟨⟨A2,c2,li,rfl,hli,ho,hsay⟩,b2⟩
 have hB:Below w.heap.size w w2:=HQ.out.below.trans (b2.mono HQ.out.below.size)
 have ho':=ho.base HQ.out.below.size
 rw[List.length_map,HN1.out] at hli
 obtain⟨n,hn⟩:∃ n,li.length=n:=⟨_,rfl⟩
 rw[hn] at hli ⊢
 have hRd:ReadOf s (readOf (li.map MItem.pure) E p):=⟨l1,E,p,_,HQ.out.of,hsay,rfl⟩
 clear HP b2 hsay ho
 by_cases hE:E=0
 ·subst hE
  rw[readOf_ok] at hRd
  have HE:=Lib.hid (ReadSaid.mk hn (by omega) ho' hRd hB)
  clear ho' hRd hB hn hli HQ HN1
  go_wp2
  rw[HPo.out]
  exact HE.out
 ·have hEb:(E == 0)=false:=beq_eq_false_iff_ne.2 hE
  have HB:=Lib.hid hB
  have HN:=Lib.hid hn
  have HO:=Lib.hid ho'
  have hRd':Hid (ReadOf s (cutEnd (li.map MItem.pure)++[⟨Sx.zero,E,(p:Int)⟩])):=by
   unfold readOf at hRd
   rw[if_neg hE] at hRd
   exact hRd
  cases n with
  |zero=>
   have HR:Hid (ReadOf s ((li++[MItem.mk Sx.zero none 0 E (p:Int)]).map MItem.pure)):=by
    have:=hRd'.out
    rw[cutEnd_nil hn] at this
    show ReadOf _ _
    rw[List.map_append]
    exact this
   clear ho' hRd hB hn HQ HN1 hE hRd'
   go_wp2_with (at_builtin;refine appendI _ rfl (.tmp 38) (.tmp 42) rfl w.heap.size A2 c2 li 0 HN.out ⟨Sx.zero,none,0,E,(p:Int)⟩ _ rfl rfl HO.out ⟨⟨Nat.le_refl _,Nat.zero_le _⟩,.nil _⟩ rfl (by omega) HB.out.size ?_;intro A3 c3 w3 o3 g3;have O3:=Lib.hid o3;have B3:=Lib.hid (HB.out.grown g3 HB.out.size (fun q hq=>(HO.out.lt HN.out hq).1));clear o3 g3)
   rw[HPo.out]
   exact ReadSaid.mk (by rw[List.length_append,HN.out];rfl) (by omega) O3.out HR.out B3.out
  |succ n=>
   obtain⟨x,hx,hlast⟩:=last_of hn
   have hp:=ho'.parts
   have hnn:n<li.length:=by omega
   have hii:=(ho'.its hn).get (i:=n) (by omega)
   obtain⟨b,off,y,A',c',rfl,hy,_,hs,_,hc6,_⟩:=hii
   have hyE:y.E=x.E:=by
    rw[List.getElem?_map,hx] at hy
    injection hy with hy
    rw[←hy]
   have hlt:=hs.lt
   rw[hyE] at hc6
   have hn0:(0:Int)≤(n:Int):=by omega
   have hnlt:(n:Int)<(n:Int)+1:=by omega
   by_cases h51:x.E=51
   ·rw[h51] at hc6
    have HR:Hid (ReadOf s ((li.take n++[MItem.mk Sx.zero none 0 E (p:Int)]).map MItem.pure)):=by
     have:=hRd'.out
     rw[cutEnd_yes hn hlast h51] at this
     show ReadOf _ _
     rw[List.map_append]
     exact this
    have HNt:Hid ((li.take n).length=n):=by show _=_;rw[List.length_take,Nat.min_eq_left (by omega)]
    have HOt:=Lib.hid (ho'.take (k:=n) (by omega))
    have hcut:=fun W=>cut_h (T:=69) (s:=8) Tryz.underlying69 (fun W=>by kernel_rfl) (n:=n+1) (c:=c2) (k:=n) W (own_add ho'.row) (by have:=hp.1;omega)
    clear ho' hRd hB hn HQ HN1 hE hRd' hp hx hlast hy hs hyE hnn h51
    go_wp2_with (at_builtin;refine appendI _ rfl (.tmp 38) (.tmp 42) rfl w.heap.size _ c2 (li.take n) n HNt.out ⟨Sx.zero,none,0,E,(p:Int)⟩ _ rfl rfl HOt.out ⟨⟨Nat.le_refl _,Nat.zero_le _⟩,.nil _⟩ rfl (by omega) HB.out.size ?_;intro A3 c3 w3 o3 g3;have O3:=Lib.hid o3;have B3:=Lib.hid (HB.out.grown g3 HB.out.size (fun q hq=>(HOt.out.lt HNt.out hq).1));clear o3 g3)
    rw[HPo.out]
    exact ReadSaid.mk (by rw[List.length_append,HNt.out];rfl) (by omega) O3.out HR.out B3.out
   ·have h51b:(x.E == 51)=false:=beq_eq_false_iff_ne.2 h51
    have HR:Hid (ReadOf s ((li++[MItem.mk Sx.zero none 0 E (p:Int)]).map MItem.pure)):=by
     have:=hRd'.out
     rw[cutEnd_no hlast h51] at this
     show ReadOf _ _
     rw[List.map_append]
     exact this
    clear ho' hRd hB hn HQ HN1 hE hRd' hp hx hlast hy hs hyE hnn h51
    go_wp2_with (at_builtin;refine appendI _ rfl (.tmp 38) (.tmp 42) rfl w.heap.size _ c2 li (n+1) HN.out ⟨Sx.zero,none,0,E,(p:Int)⟩ _ rfl rfl HO.out ⟨⟨Nat.le_refl _,Nat.zero_le _⟩,.nil _⟩ rfl (by omega) HB.out.size ?_;intro A3 c3 w3 o3 g3;have O3:=Lib.hid o3;have B3:=Lib.hid (HB.out.grown g3 HB.out.size (fun q hq=>(HO.out.lt HN.out hq).1));clear o3 g3)
    rw[HPo.out]
    exact ReadSaid.mk (by rw[List.length_append,HN.out];rfl) (by omega) O3.out HR.out B3.out
end Go.Proofs.YtcgaeknikfaghaaGreatDoor
