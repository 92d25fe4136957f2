/- What the proofs of this claim use, text by text. -/
import Derived.Test.YtcgaeknikfaghaaGreatDoorQD34
import Derived.Deep.LoopGhost
import Derived.Test.YtcgaeknikfaghaaGreatDoorQD31
import Derived.Test.YtcgaeknikfaghaaGreatDoorQD35
set_option linter.unusedSimpArgs false
set_option linter.unusedVariables false
set_option maxRecDepth 100000
set_option maxHeartbeats 25600000
namespace Go.Proofs.YtcgaeknikfaghaaGreatDoor
open Go.RowKit
theorem Mk.Ok.all {D:List Dc} {s:Ms} (h:Mk.Ok D s):∀ f∈s.fr,Fr.Ok D s.N.length f:=fun f hf=>by
 obtain⟨bs,g,e,h1,h2⟩:=h.fr
 rw[e] at hf
 rcases List.mem_append.1 hf with hf|hf
 ·exact(h1 f hf).1
 ·rw[List.mem_singleton.1 hf];exact h2
theorem Mk.Env.Ok.len {E:Mk.Env} (hE:E.Ok):E.D.length=E.n:=by rw[←hE.dc.len];exact List.length_map _
theorem kstep (E:Mk.Env) (hE:E.Ok) (hG:Gl E.w0) (hD:Mk.DOk E.D) (w:World) (M:Nat) (Y:Mk.Lay) (s:Ms) (h:Mk.Rep E w M Y s) (hok:Mk.Ok E.D s) (hl:Mk.Live s) (hf:Mk.Fits s):
  Calls Tryz.prog 65 #[.pointer (some ⟨M,0,none⟩)] w fun e w'=>Mk.Ans E w M Y (Mk.step E.D s) e w':=by
 have hs:Mk.Small s:=⟨by have:=hf.fr;omega,by have:=hf.sc;omega,fun f hm=>⟨by have:=hok.all f hm;have:=this.le;have:=(hok.all f hm).len;omega,by have:=hf.dp f hm;omega⟩,hok.len⟩
 have hpl:∀ (j:Nat) d,E.D[j]?=some d→d.par.length≤1000∧∀ p∈d.par,p.1.size≤maxLen:=fun j d hd=>⟨by have:=(hD.par j d hd).1;omega,fun p hp=>by have:=(hD.par j d hd).2 p hp;unfold maxLen;omega⟩
 rcases hok.ways hl with⟨bs,f,x,e,h1,hx,hfi,hw⟩|⟨bs,g,f,e,h1,hle,hn,hw⟩
 ·exact kstep_part E hE hG w M Y s bs f x h e hs (fun y hy=>by have:=(hok.sc y hy).1;rw[hE.len] at this;exact this) (hf.le f (by rw[e];simp)) hx hfi h1.len hpl
 ·exact kstep_ends E hE hD w M Y s bs g f h e hs (hf.le f (by rw[e];simp)) hle h1 hn hok.toBase
theorem Mk.Rep.first {E:Mk.Env} {w:World} {M:Nat} {Y:Mk.Lay} {s:Ms} (h:Mk.Rep E w M Y s) {g:Fr} {r:List Fr} (hf:s.fr=g::r):
  ∃ (gf:Nat) (iA:Option Addr) (ic:Nat),w.cell? ⟨M,5,none⟩=some (.slice (some ⟨gf,0,none⟩) s.fr.length Y.fc)∧gf<w.heap.size∧w.cell? ⟨gf,1,none⟩=some (.slice iA g.ids.length ic)∧NumS w iA g.ids.length g.ids:=by
 obtain⟨q,FL,hFL⟩:∃ q FL,Y.FL=q::FL:=by
  have:=h.fl
  rw[hf] at this
  cases hY:Y.FL with
  |nil=>rw[hY] at this;cases this
  |cons q FL=>exact⟨q,FL,rfl⟩
 have hq:q.2=g:=by
  have:=h.fl
  rw[hf,hFL] at this
  injection this
 have hrow:=h.frow
 have hids:=h.ids q (by rw[hFL];simp)
 rw[hq] at hids
 have hc:=h.own.cell 5
 rcases hrow.2 with⟨_,e⟩|⟨gf,cap,cur,e,_,hg,_⟩
 ·rw[hf] at e;simp at e
 ·injection e with e1 _ _
  refine⟨gf,q.1.iA,q.1.ic,by rw[hc,←e1];rfl,(Array.getElem?_eq_some_iff.1 hg).1,?_,NumS.of_own hids rfl⟩
  have:=hrow.cells (g:=gf) (by rw[e1];rfl) 1 (.slice q.1.iA g.ids.length q.1.ic) (by rw[hFL,List.flatMap_cons,←hq];rfl)
  simpa [addr_add] using this
theorem Mk.start_ok {D:List Dc} {N:List Nd} {sc:Sc} {x:Sx} (hI:Tm.Inv N) (hN:N.length≤20000) (hsc:Bd.In N (sc.map (·.2))) (hx:Sx.Fine x):Mk.Ok D (Mk.start D N sc x):=
 ⟨⟨hI,hN,fun y hy=>by rw[List.mem_singleton.1 hy];exact⟨Nat.le_refl _,fun q hq=>hsc _ (List.mem_map_of_mem hq)⟩,Bd.Apart.nil _ _,fun _ h=>(List.not_mem_nil h).elim⟩,
  ⟨[],⟨[x],[],.none,1,0⟩,rfl,fun _ h=>(List.not_mem_nil h).elim,⟨Nat.zero_le _,fun _ h=>(List.not_mem_nil h).elim,by simp,fun y hy=>by rw[List.mem_singleton.1 hy];exact hx,rfl⟩⟩,⟨⟨[x],[],.none,1,0⟩,[],rfl,rfl,fun _ h=>(List.not_mem_nil h).elim⟩⟩
theorem Mk.Run.ways {D:List Dc} {n:Nat} {s s2:Ms} (h:Mk.Run D n s s2):(n=0∧s=s2)∨∃ m s1,n=m+1∧Mk.Live s∧Mk.Fits s∧Mk.step D s=(s1,0)∧Mk.Run D m s1 s2:=by
 cases h with
 |zero=>exact .inl ⟨rfl,rfl⟩
 |succ h1 h2 h3 h4=>exact .inr ⟨_,_,rfl,h1,h2,h3,h4⟩
theorem Mk.Live.first {s:Ms} (h:Mk.Live s):∃ g r,s.fr=g::r∧g.ids=[]:=by
 unfold Mk.Live at h
 cases hf:s.fr with
 |nil=>rw[hf] at h;cases h
 |cons g r=>rw[hf] at h;exact⟨g,r,rfl,by simpa using h⟩
theorem kterm (E:Mk.Env) (hE:E.Ok) (hG:Gl E.w0) (hD:Mk.DOk E.D) (w:World) (M:Nat) (Y:Mk.Lay) (N:List Nd) (x:Sx) (A:Option Addr) (c:Nat) (mo:Option Nat) (sc:Sc)
  (h:Mk.Rep E w M Y ⟨N,[],[],[]⟩) (hx:STree w (fun b _=>¬Mk.foot M Y b) x A c) (hfx:Sx.Fine x) (hv:ScAs w (fun k=>¬Mk.foot M Y k) (.map mo) ⟨sc,true,E.n⟩) (hI:Tm.Inv N) (hN:N.length≤20000) (hsc:Bd.In N (sc.map (·.2))) (hroom:x.size+Mk.room E.D E.D.length≤4700):
  Calls Tryz.prog 32 #[.pointer (some ⟨M,0,none⟩),sval x A c,.map mo] w fun e w'=>e=.returned (.tuple #[.int .i64 (Bd.tm E.D E.D.length sc N x).2.1,.int .i64 (Bd.tm E.D E.D.length sc N x).2.2])∧∃ s',Mk.Left E w M Y s' w'∧s'.N=(Bd.tm E.D E.D.length sc N x).1:=by
 have hEnd:=Mk.runs E.D N sc x hI hsc hroom
 have hgood:=(Bd.good E.D E.D.length x sc N hI hsc).2
 obtain⟨T,hT⟩:∃ T,Bd.tm E.D E.D.length sc N x=T:=⟨_,rfl⟩
 rw[hT] at hEnd hgood ⊢
 obtain⟨N',idz,err⟩:=T
 simp only at hEnd ⊢
 have hok0:=Mk.start_ok (D:=E.D) hI hN hsc hfx
 obtain⟨sE,n0,hrun,hfin⟩:∃ sE n0,Mk.Run E.D n0 (Mk.start E.D N sc x) sE∧((err=0∧sE.N=N'∧sE.fr=[⟨[x],[idz],.none,1,0⟩])∨(err≠0∧idz=0∧Mk.Live sE∧Mk.Fits sE∧∃ s'',Mk.step E.D sE=(s'',err)∧s''.N=N')):=by
  by_cases he:err=0
  ·obtain⟨n,s',h1,h2,h3,_⟩:=hEnd.1 he
   exact⟨s',n,h1,.inl ⟨he,h2,h3⟩⟩
  ·obtain⟨n,s',s'',h1,h2,h3,h4,h5⟩:=hEnd.2 he
   exact⟨s',n,h1,.inr ⟨he,hgood.2 he,h2,h3,s'',h4,h5⟩⟩
 obtain⟨W0,hW0⟩:∃ W0,w.alloc (sbox x A c)=W0:=⟨_,rfl⟩
 have hB0:Below w.heap.size w W0:=by rw[←hW0];exact(Below.refl _ w).alloc (Nat.le_refl _) _
 have hbx:SAt W0 w.heap.size 0 x A c:=by rw[←hW0];exact sbox_at w x A c
 have h0:=h.below hB0
 have HB:Hid (Calls Tryz.prog 64 #[.pointer (some ⟨M,0,none⟩),sval x A c,.agg #[.map mo,.bool false,.int .i64 (E.n:Int)],.nilFunc] W0.drew fun e w'=>e=.returned (.tuple #[])∧Mk.Left E w M Y (Mk.start E.D N sc x) w'):=by
  have hq:Below W0.heap.size W0 W0.drew:=⟨rfl,rfl,rfl,Nat.le_refl _,fun _ _=>rfl⟩
  have hb:=hB0.trans (hq.mono hB0.size)
  have ht:Turn (fun _=>False) w W0.drew:=Turn.of_below hb
  have:=kbody E W0.drew M Y ⟨N,[],[],[]⟩ x A c (.map mo) false sc E.n .nilFunc .none (h.below hb) ⟨hx.le,hx.tree.turn9 ht fun k _ hk=>⟨id,hk⟩⟩ (hv.turn ht fun k _ hk=>⟨id,hk⟩) rfl (by simp) (by simp)
  refine this.mono fun e w' q=>⟨q.1,?_⟩
  have:=q.2.up hb
  rw[←hE.len] at this
  exact this
 have HStep:=Lib.hid fun(W:World) (Y':Mk.Lay) (s:Ms) (r:Mk.Rep E W M Y' s) (ho:Mk.Ok E.D s) (hl:Mk.Live s) (hf:Mk.Fits s)=>kstep E hE hG hD W M Y' s r ho hl hf
 have HNext:=Lib.hid fun(s s1:Ms) (ho:Mk.Ok E.D s) (hl:Mk.Live s) (hs:Mk.step E.D s=(s1,0))=>ho.step hD hl hs
 have c1:W0.cell? ⟨M,1,none⟩=some (.slice E.A E.n E.c):=by rw[h0.own.cell];rfl
 have zM:=h0.own.lt
 have HFin:=Lib.hid hfin
 have HRun:=Lib.hid hrun
 have HOk:=Lib.hid hok0
 obtain⟨xn,hxn⟩:∃ xn,x.L.length=xn:=⟨_,rfl⟩
 obtain⟨xl,hxl⟩:∃ xl,x.list=xl:=⟨_,rfl⟩
 obtain⟨xk,hxk⟩:∃ xk,x.k=xk:=⟨_,rfl⟩
 obtain⟨xT,hxT⟩:∃ xT,x.T=xT:=⟨_,rfl⟩
 obtain⟨xta,hxta⟩:∃ xta,x.ta=xta:=⟨_,rfl⟩
 obtain⟨xa,hxa⟩:∃ xa,x.at_=xa:=⟨_,rfl⟩
 obtain⟨_,b0,b1,b2,b3,b4,b5⟩:=hbx
 simp only[Nat.zero_add] at b0 b1 b2 b3 b4 b5
 obtain⟨EA,hEA⟩:∃ EA,E.A=EA:=⟨_,rfl⟩
 obtain⟨En,hEn⟩:∃ En,E.n=En:=⟨_,rfl⟩
 obtain⟨Ec,hEc⟩:∃ Ec,E.c=Ec:=⟨_,rfl⟩
 unfold sval at HB ⊢
 rw[hxn,hxl,hxk,hxT,hxta,hxa] at HB ⊢
 rw[hEn] at HB c1
 rw[hEA,hEc] at c1
 rw[hxl] at b0
 rw[hxk] at b1
 rw[hxT] at b2
 rw[hxta] at b3
 rw[hxa] at b4
 rw[hxn] at b5
 have hW0':w.alloc (.cells #[.bool xl,.int .i64 xk,.string xT,.int .i64 xta,.int .i64 xa,.slice A xn c] 27)=W0:=by rw[←hW0,←hxl,←hxk,←hxT,←hxta,←hxa,←hxn]
 clear hG h hx hfx hv hI hN hsc hroom hEnd hgood hT hok0 hrun hfin hB0 h0 hxn hxl hxk hxT hxta hxa hEA hEn hEc hW0
 go_enter Tryz.func32,Tryz.ntmps32
 go_wp2_with fail
 clear hW0'
 go_still_tail 9,(by kernel_rfl)
 change wpList _ _ _ _ _ W0.drew
 go_wp2_with fail
 refine HB.out.mono ?_
 rintro e w1 ⟨rfl,l1⟩
 have L1:=Lib.hid l1
 clear HB l1 b0 b1 b2 b3 b4 b5 c1 zM
 go_wp2_with fail
 go_loopg [8] n0 (fun gk ev wr=>∃ s,Mk.Run E.D gk s sE∧Hid (Mk.Left E w M Y s wr∧Mk.Ok E.D s))
 case atStart=>exact⟨_,HRun.out,L1.out,HOk.out⟩
 case round=>
  obtain⟨s,hrn,HI⟩:=hrel
  obtain⟨⟨Y',r1,t1,y1⟩,hok⟩:=HI.out
  clear L1 HRun HOk HI
  rcases hrn.ways with⟨rfl,rfl⟩|⟨m,s1,rfl,hl,hft,hst,hr2⟩
  ·rcases HFin.out with⟨rfl,hN,hfr⟩|⟨he,rfl,hl,hft,s'',hst,hN⟩
   ·obtain⟨gf,iA,ic,c5,hgl,c1,hnum⟩:=r1.first hfr
    have hfl:s.fr.length=1:=by rw[hfr];rfl
    rw[hfl] at c5
    simp only[List.length_singleton] at c1 hnum
    obtain⟨bi,oi,z,rfl,hz,_,_,hc⟩:=hnum.get (i:=0) (by decide)
    obtain rfl:idz=z:=by simpa using hz
    obtain⟨hbi,cz⟩:=hc wr (Below.refl _ _)
    rw[Nat.add_zero] at cz
    have zM:=r1.own.lt
    have HE:Hid (∃ s',Mk.Left E w M Y s' wr∧s'.N=N'):=⟨s,⟨Y',r1,t1,y1⟩,hN⟩
    clear hrn HFin HStep HNext r1 t1 y1 hok hN hfr hfl hnum hz hc hE hD
    go_wp2
    go_ret2
    exact⟨rfl,HE.out⟩
   ·obtain⟨g,r,hfr,hids⟩:=hl.first
    obtain⟨gf,iA,ic,c5,hgl,c1,_⟩:=r1.first hfr
    rw[hids] at c1
    simp only[List.length_nil] at c1
    obtain⟨sn,hsn⟩:∃ sn,s.fr.length=sn:=⟨_,rfl⟩
    have hs0:(0:Int)<(sn:Int):=by rw[←hsn,hfr];simp
    rw[hsn] at c5
    have zM:=r1.own.lt
    have HS:=Lib.hid (HStep.out wr Y' s r1 hok hl hft)
    rw[hst] at HS
    have HE:Hid (∀ w',Mk.Left E wr M Y' s'' w'→∃ s',Mk.Left E w M Y s' w'∧s'.N=N'):=fun w' q=>⟨s'',q.after t1 y1,hN⟩
    have hne:(err != 0)=true:=by simpa using he
    clear hrn HFin HStep HNext r1 t1 y1 hok hN hfr hids hsn hl hft hst hE hD he
    go_wp2_with fail
    refine HS.out.mono ?_
    rintro e w2 ⟨rfl,v⟩
    have V:=Lib.hid (HE.out w2 v)
    clear HS HE v c5 c1
    go_wp2
    go_ret2
    exact⟨rfl,V.out⟩
  ·obtain⟨g,r,hfr,hids⟩:=hl.first
   obtain⟨gf,iA,ic,c5,hgl,c1,_⟩:=r1.first hfr
   rw[hids] at c1
   simp only[List.length_nil] at c1
   obtain⟨sn,hsn⟩:∃ sn,s.fr.length=sn:=⟨_,rfl⟩
   have hs0:(0:Int)<(sn:Int):=by rw[←hsn,hfr];simp
   rw[hsn] at c5
   have zM:=r1.own.lt
   have HS:=Lib.hid (HStep.out wr Y' s r1 hok hl hft)
   rw[hst] at HS
   have HE:Hid (∀ w',Mk.Left E wr M Y' s1 w'→Mk.Left E w M Y s1 w'∧Mk.Ok E.D s1):=fun w' q=>⟨q.after t1 y1,HNext.out s s1 hok hl hst⟩
   have HR2:=Lib.hid hr2
   clear hrn HFin HStep HNext r1 t1 y1 hok hfr hids hsn hl hft hst hE hD hr2
   go_wp2_with fail
   refine HS.out.mono ?_
   rintro e w2 ⟨rfl,v⟩
   have V:=Lib.hid (HE.out w2 v)
   clear HS HE v c5 c1
   go_wp2
   go_roundg m
   case rel=>exact⟨s1,HR2.out,V.out⟩
   case measure=>omega
structure Mk.Begin (w0 w:World) (b:Nat) (F:Nat→Prop) (N:List Nd) (A:Option Addr) (n c:Nat) (L:List (DcP×Dc)):Prop where
 base:Below w0.heap.size w0 w
 T:Pow9 w0
 K:Ask9 w0
 bk:Bk w b F N
 low:∀ k,F k→w0.heap.size≤k
 dc:DcS w (fun k=>¬F k) A n c L
 few:n≤200
 ok:Mk.DOk (L.map (·.2))
theorem knewMaker (w0 w:World) (b:Nat) (F:Nat→Prop) (N:List Nd) (A:Option Addr) (n c:Nat) (L:List (DcP×Dc)) (h:Mk.Begin w0 w b F N A n c L):
  Calls Tryz.prog 31 #[.pointer (some ⟨b,0,none⟩),.slice A n c] w fun e w'=>(∃ (E:Mk.Env) (M:Nat) (Y:Mk.Lay),e=.returned (.pointer (some ⟨M,0,none⟩))∧E.Ok∧E.w0=w0∧E.D=L.map (·.2)∧E.n=n∧E.bk=b∧Mk.Rep E w' M Y ⟨N,[],[],[]⟩∧Y.Fb=F∧∀ k,Mk.foot M Y k→F k∨w.heap.size≤k)∧Below w.heap.size w w':=by
 have HP:=Lib.hid (kplaces w A n c L h.dc (by have:=h.few;omega) (fun q hq=>by have:=h.ok.name q.2 (List.mem_map_of_mem hq);unfold maxLen;omega))
 have hmm:∀ W:World,(Instr.makeMap 98 none).run Tryz.prog W=.ok (.map (some W.heap.size)) (W.alloc (.map #[] 0)):=fun W=>run_makeMap _ W
 have HH:=Lib.hid h
 clear h
 go_enter Tryz.func31,Tryz.ntmps31
 go_wp2_with fail
 refine HP.out.mono ?_
 rintro e w1 ⟨rfl,⟨Dm,ho,hT⟩,b1⟩
 obtain⟨W2,hW2⟩:∃ W2,w1.alloc (.map #[] 0)=W2:=⟨_,rfl⟩
 obtain⟨W3,hW3⟩:∃ W3,W2.alloc (.cells #[.pointer (some ⟨b,0,none⟩),.slice A n c,.map (some w.heap.size),.map (some w1.heap.size),.slice none 0 0,.slice none 0 0] 124)=W3:=⟨_,rfl⟩
 have hs2:W2.heap.size=w1.heap.size+1:=by rw[←hW2];simp
 have hB12:Below w1.heap.size w1 W2:=by rw[←hW2];exact(Below.refl _ _).alloc (Nat.le_refl _) _
 have hB23:Below W2.heap.size W2 W3:=by rw[←hW3];exact(Below.refl _ _).alloc (Nat.le_refl _) _
 have hB13:Below w1.heap.size w1 W3:=hB12.trans (hB23.mono hB12.size)
 have hB03:Below w.heap.size w W3:=b1.trans (hB13.mono b1.size)
 have hh:=HH.out
 have hlow:=hh.bk.lt
 have hE:Mk.Env.Ok ⟨w0,A,n,c,L,w1,fun k=>¬F k,w.heap.size,b⟩:=⟨hh.dc.turn (Turn.of_below (F:=fun _=>False) b1) fun k _ hk=>⟨id,hk⟩,hh.few,hh.T,hh.K,fun k hk _ e=>(by have hk:w.heap.size≤k:=hk;have:=hlow k e;omega),⟨_,n,Dm,by have:=hh.few;unfold maxLen;omega,ho,hT⟩⟩
 have hown:W3.ownsMap Tryz.prog 9 (plainElem (H:=Unit) Tryz.prog 3) w1.heap.size 0 (.map []):=by
  have:=World.ownsMap_made (P:=Tryz.prog) (H:=Unit) w1 9 (plainElem Tryz.prog 3)
  rw[hW2] at this
  exact(Turn.of_below (F:=fun _=>False) hB23).map this id
 have hrep:Mk.Rep ⟨w0,A,n,c,L,w1,fun k=>¬F k,w.heap.size,b⟩ W3 W2.heap.size ⟨w1.heap.size,none,0,none,0,F,[],[]⟩ ⟨N,[],[],[]⟩:=by
  refine⟨hh.base.trans (hB03.mono hh.base.size),fun k hk=>?_,?_,hh.bk.below hB03,⟨⟨.map [],hown,TellM.none_,rfl⟩,List.nodup_nil⟩,World.ownsRow_nil _ _ _ _,rfl,fun _ hq=>(List.not_mem_nil hq).elim,World.ownsRow_nil _ _ _ _,rfl,fun _ hq=>(List.not_mem_nil hq).elim,fun _ hq=>(List.not_mem_nil hq).elim,.nil,
   fun e=>?_,fun e=>?_,fun g e=>(by cases e),fun g e=>(by cases e),fun _ hq=>(List.not_mem_nil hq).elim,(Turn.of_below hB13),fun k hP hk e=>?_⟩
  ·have h0:=hh.base.size
   have h1:=b1.size
   show w0.heap.size≤k
   rcases hk with rfl|hk|rfl|e|e|⟨q,hq,_⟩
   ·omega
   ·exact hh.low k hk
   ·show w0.heap.size≤w1.heap.size;omega
   ·cases e
   ·cases e
   ·exact(List.not_mem_nil hq).elim
  ·rw[←hW3];exact Lies.new W2 _ _
  ·have:=hlow _ e
   have:=b1.size
   omega
  ·have:w1.heap.size<w.heap.size:=hlow _ e
   have:=b1.size
   omega
  ·have hk:k<w1.heap.size:=hk
   rcases e with rfl|e|rfl|e|e|⟨q,hq,_⟩
   ·omega
   ·exact hP e
   ·exact absurd hk (Nat.lt_irrefl w1.heap.size)
   ·cases e
   ·cases e
   ·exact(List.not_mem_nil hq).elim
 have HE:Hid (∃ (E:Mk.Env) (M:Nat) (Y:Mk.Lay),Ending.returned (.pointer (some ⟨W2.heap.size,0,none⟩))=.returned (.pointer (some ⟨M,0,none⟩))∧E.Ok∧E.w0=w0∧E.D=L.map (·.2)∧E.n=n∧E.bk=b∧Mk.Rep E W3 M Y ⟨N,[],[],[]⟩∧Y.Fb=F∧∀ k,Mk.foot M Y k→F k∨w.heap.size≤k):=
  ⟨_,_,_,rfl,hE,rfl,rfl,rfl,rfl,hrep,rfl,fun k hk=>by
   have h1:=b1.size
   rcases hk with rfl|hk|rfl|e|e|⟨q,hq,_⟩
   ·exact .inr (by omega)
   ·exact .inl hk
   ·exact .inr h1
   ·cases e
   ·cases e
   ·exact(List.not_mem_nil hq).elim⟩
 have HB3:=Lib.hid hB03
 rw[hs2] at HE
 clear hE hrep hown hh hlow hB12 hB23 hB13 hB03 HH HP ho hT b1
 go_wp2
 go_ret
 exact⟨HE.out,HB3.out⟩
theorem kTerm (w0 w:World) (b:Nat) (F:Nat→Prop) (N:List Nd) (A:Option Addr) (n c:Nat) (L:List (DcP×Dc)) (x:Sx) (xA:Option Addr) (xc:Nat) (h:Mk.Begin w0 w b F N A n c L) (hG:Gl w0) (hI:Tm.Inv N) (hN:N.length≤20000)
  (hx:STree w (fun k _=>¬F k) x xA xc) (hfx:Sx.Fine x) (hroom:x.size+Mk.room (L.map (·.2)) n≤4700):
  Calls Tryz.prog 12 #[.pointer (some ⟨b,0,none⟩),.slice A n c,sval x xA xc] w fun e w'=>BAns w b F (Bd.tm (L.map (·.2)) n [] N x) e w':=by
 obtain⟨W0,hW0⟩:∃ W0,w.alloc (sbox x xA xc)=W0:=⟨_,rfl⟩
 have hB0:Below w.heap.size w W0:=by rw[←hW0];exact(Below.refl _ w).alloc (Nat.le_refl _) _
 have hB0d:Below w.heap.size w W0.drew:=⟨hB0.os,hB0.tape,hB0.output,hB0.size,hB0.block⟩
 have hL0:Lies W0 w.heap.size 27 #[.bool x.list,.int .i64 x.k,.string x.T,.int .i64 x.ta,.int .i64 x.at_,.slice xA x.L.length xc]:=by rw[←hW0];exact Lies.new w _ _
 have hS:∀ W,Lies W w.heap.size 27 #[.bool x.list,.int .i64 x.k,.string x.T,.int .i64 x.ta,.int .i64 x.at_,.slice xA x.L.length xc]→(W.cell? ⟨w.heap.size,0,none⟩=some (.bool x.list)∧W.cell? ⟨w.heap.size,1,none⟩=some (.int .i64 x.k)∧W.cell? ⟨w.heap.size,2,none⟩=some (.string x.T)∧W.cell? ⟨w.heap.size,3,none⟩=some (.int .i64 x.ta)∧W.cell? ⟨w.heap.size,4,none⟩=some (.int .i64 x.at_)∧W.cell? ⟨w.heap.size,5,none⟩=some (.slice xA x.L.length xc)):=fun W h=>
  ⟨h.cell 0,h.cell 1,h.cell 2,h.cell 3,h.cell 4,h.cell 5⟩
 have HN:Hid (Calls Tryz.prog 31 #[.pointer (some ⟨b,0,none⟩),.slice A n c] W0.drew fun e w1=>∃ M:Nat,e=.returned (.pointer (some ⟨M,0,none⟩))∧(w1.cell? ⟨w.heap.size,0,none⟩=some (.bool x.list)∧w1.cell? ⟨w.heap.size,1,none⟩=some (.int .i64 x.k)∧w1.cell? ⟨w.heap.size,2,none⟩=some (.string x.T)∧w1.cell? ⟨w.heap.size,3,none⟩=some (.int .i64 x.ta)∧w1.cell? ⟨w.heap.size,4,none⟩=some (.int .i64 x.at_)∧w1.cell? ⟨w.heap.size,5,none⟩=some (.slice xA x.L.length xc))∧
   Calls Tryz.prog 32 #[.pointer (some ⟨M,0,none⟩),sval x xA xc,.map none] w1 fun e w'=>BAns w b F (Bd.tm (L.map (·.2)) n [] N x) e w'∧(w'.cell? ⟨w.heap.size,0,none⟩=some (.bool x.list)∧w'.cell? ⟨w.heap.size,1,none⟩=some (.int .i64 x.k)∧w'.cell? ⟨w.heap.size,2,none⟩=some (.string x.T)∧w'.cell? ⟨w.heap.size,3,none⟩=some (.int .i64 x.ta)∧w'.cell? ⟨w.heap.size,4,none⟩=some (.int .i64 x.at_)∧w'.cell? ⟨w.heap.size,5,none⟩=some (.slice xA x.L.length xc))):=by
  have hb0:Mk.Begin w0 W0.drew b F N A n c L:=⟨h.base.trans (hB0d.mono h.base.size),h.T,h.K,h.bk.below hB0d,h.low,h.dc.turn (Turn.of_below (F:=fun _=>False) hB0d) fun k _ hk=>⟨id,hk⟩,h.few,h.ok⟩
  refine(knewMaker w0 W0.drew b F N A n c L hb0).mono ?_
  rintro e w1 ⟨⟨E,M,Y,rfl,hE,e0,eD,en,ebk,hrep,hFb,hft⟩,b1⟩
  have hl1:Lies w1 w.heap.size 27 #[.bool x.list,.int .i64 x.k,.string x.T,.int .i64 x.ta,.int .i64 x.at_,.slice xA x.L.length xc]:=(b1.block _ hL0.lt).trans hL0
  have hW0s:W0.drew.heap.size=w.heap.size+1:=by rw[←hW0];simp[World.drew]
  have hbw:Below w.heap.size w w1:=hB0d.trans (b1.mono hB0d.size)
  have hnf:∀ k,k<W0.drew.heap.size→¬F k→¬Mk.foot M Y k:=fun k hk hF e=>(hft k e).elim hF fun e2=>by omega
  have hnb:¬F w.heap.size:=fun e=>by have:=h.bk.lt _ e;omega
  have hx1:STree w1 (fun k _=>¬Mk.foot M Y k) x xA xc:=⟨hx.le,hx.tree.turn9 (Turn.of_below (F:=fun _=>False) hbw) fun k hlt hk=>⟨id,hnf k (by omega) hk⟩⟩
  have hlen:E.D.length=n:=by rw[hE.len,en]
  have hk:=kterm E hE (by rw[e0];exact hG) (by rw[eD];exact h.ok) w1 M Y N x xA xc none [] hrep hx1 hfx (.inl ⟨rfl,rfl⟩) hI hN (fun _ hp=>(List.not_mem_nil hp).elim) (by rw[hlen,eD];exact hroom)
  rw[hlen,eD] at hk
  refine⟨M,rfl,hS w1 hl1,hk.mono ?_⟩
  rintro e w2 ⟨rfl,s',⟨Y',r2,t2,y2⟩,hN'⟩
  refine⟨⟨rfl,Y'.Fb,?_,?_,fun k hk=>?_⟩,hS w2 (t2.lies hl1 (hnf _ (by omega) hnb))⟩
  ·have:=r2.bank
   rw[ebk,hN'] at this
   exact this
  ·exact(Turn.of_below (F:=F) hbw).trans t2 fun k hk=>(hft k hk).imp id fun e=>by omega
  ·rcases y2 k (.inr (.inl hk)) with e|e
   ·exact(hft k e).imp id fun e=>by omega
   ·have:=hbw.size
    exact .inr (by omega)
 have HS:=Lib.hid (hS W0.drew hL0)
 generalize Bd.tm (L.map (·.2)) n [] N x=R at HN ⊢
 obtain⟨xn,hxn⟩:∃ xn,x.L.length=xn:=⟨_,rfl⟩
 obtain⟨xl,hxl⟩:∃ xl,x.list=xl:=⟨_,rfl⟩
 obtain⟨xk,hxk⟩:∃ xk,x.k=xk:=⟨_,rfl⟩
 obtain⟨xT,hxT⟩:∃ xT,x.T=xT:=⟨_,rfl⟩
 obtain⟨xta,hxta⟩:∃ xta,x.ta=xta:=⟨_,rfl⟩
 obtain⟨xa,hxa⟩:∃ xa,x.at_=xa:=⟨_,rfl⟩
 have hW0':w.alloc (.cells #[.bool xl,.int .i64 xk,.string xT,.int .i64 xta,.int .i64 xa,.slice xA xn xc] 27)=W0:=by rw[←hW0,←hxl,←hxk,←hxT,←hxta,←hxa,←hxn]
 unfold sval at HN ⊢
 rw[hxn,hxl,hxk,hxT,hxta,hxa] at HN HS ⊢
 clear h hG hI hN hx hfx hroom hB0 hB0d hL0 hS hxn hxl hxk hxT hxta hxa hW0
 go_enter Tryz.func12,Tryz.ntmps12
 go_wp2_with fail
 go_region_held3 (fun W=>W.cell? ⟨w.heap.size,0,none⟩=some (.bool xl)∧W.cell? ⟨w.heap.size,1,none⟩=some (.int .i64 xk)∧W.cell? ⟨w.heap.size,2,none⟩=some (.string xT)∧W.cell? ⟨w.heap.size,3,none⟩=some (.int .i64 xta)∧W.cell? ⟨w.heap.size,4,none⟩=some (.int .i64 xa)∧W.cell? ⟨w.heap.size,5,none⟩=some (.slice xA xn xc))
  (first|exact HS.out|assumption)
  (first|(go_at_call 31;refine HN.out.mono ?_;rintro e w1 ⟨M,rfl,hk1,hg⟩)|(go_at_call 32;refine Calls.mono (by assumption) ?_;rintro e w2 ⟨⟨rfl,v⟩,hk2⟩))
 all_goals
  have V:=Lib.hid v
  clear v
  go_wp2
  go_ret2
  exact⟨rfl,V.out⟩
theorem Mk.Begin.below {w0 w w':World} {b:Nat} {F:Nat→Prop} {N:List Nd} {A:Option Addr} {n c:Nat} {L:List (DcP×Dc)} (h:Mk.Begin w0 w b F N A n c L) (hb:Below w.heap.size w w'):Mk.Begin w0 w' b F N A n c L:=
 ⟨h.base.trans (hb.mono h.base.size),h.T,h.K,h.bk.below hb,h.low,h.dc.turn (Turn.of_below (F:=fun _=>False) hb) fun k _ hk=>⟨id,hk⟩,h.few,h.ok⟩
theorem Mk.Begin.next {w0 w w':World} {b:Nat} {F F':Nat→Prop} {N N':List Nd} {A:Option Addr} {n c:Nat} {L:List (DcP×Dc)} (h:Mk.Begin w0 w b F N A n c L) (hB:Bk w' b F' N') (hT:Turn F w w') (hF:∀ k,F' k→F k∨w.heap.size≤k):Mk.Begin w0 w' b F' N' A n c L:=
 ⟨h.base.trans (hT.below h.base.size h.low),h.T,h.K,hB,fun k hk=>(hF k hk).elim (h.low k) fun e=>Nat.le_trans h.base.size e,h.dc.turn hT fun k hlt hk=>⟨hk,fun e=>(hF k e).elim hk fun e2=>by omega⟩,h.few,h.ok⟩
theorem Sx.Fine.of:∀ (k:Nat) (x:Sx),x.size≤k→x.size≤1000→x.wide≤1048576→Sx.Fine x
 |0,x,h,_,_=>absurd h (by have:=x.size_pos;omega)
 |k+1,x,h,h2,h3=>by
  have hw:=x.wide_eq
  refine .mk x (by omega) (by have:=x.size_eq;have:=Sx.sizes_length x.L;omega) fun y hy=>?_
  have h4:=Sx.size_lt hy
  have h5:=Sx.wide_mem hy
  exact Sx.Fine.of k y (by omega) (by omega) (by omega)
theorem Mk.room_sum (D:List Dc):∀ k,k≤D.length→Mk.room D k=Bd.sizes (D.take k)+k
 |0,_=>by rw[Mk.room];simp[Bd.sizes]
 |k+1,h=>by
  have hd:D[k]?=some D[k]:=List.getElem?_eq_getElem h
  rw[Mk.room,Mk.room_sum D k (by omega),Bd.sizes_take hd,hd]
  simp only[Option.map_some,Option.getD_some]
  omega
theorem Bd.cnt_macs (D:List Dc):∀ k,k≤D.length→Bd.cnt D (fun _=>true) k=Bd.macs (D.take k)
 |0,_=>by rw[Bd.cnt];rfl
 |k+1,h=>by
  have hd:D[k]?=some D[k]:=List.getElem?_eq_getElem h
  rw[Bd.cnt,Bd.cnt_macs D k (by omega),Bd.macs_take hd]
  unfold Bd.arity
  rw[hd]
  simp only
  cases D[k].mac <;> simp
theorem Bd.Few.ok {D:List Dc} {x:Sx} (h:Bd.Few D x) (hB:∀ d∈D,DcB 1048576 d):Mk.DOk D∧∀ k,k≤D.length→Mk.room D k≤660:=by
 have hs:∀ (j:Nat) d,D[j]?=some d→d.body.size≤600:=fun j d hd=>by
  have h1:=h.sizes
  have h2:=List.getElem?_eq_some_iff.1 hd
  have h3:=Bd.sizes_take hd
  have h4:Bd.sizes (D.take (j+1))≤Bd.sizes D:=by
   conv=>rhs;rw[←List.take_append_drop (j+1) D]
   unfold Bd.sizes
   rw[List.map_append,List.sum_append]
   omega
  omega
 refine⟨⟨fun j d hd=>⟨h.par d (List.mem_of_getElem? hd),(hB d (List.mem_of_getElem? hd)).par⟩,fun j d hd=>Sx.Fine.of d.body.size d.body (Nat.le_refl _) (by have:=hs j d hd;omega) (hB d (List.mem_of_getElem? hd)).wide,fun d hd=>(hB d hd).name,?_⟩,fun k hk=>?_⟩
 ·rw[Bd.cnt_macs D _ (Nat.le_refl _),List.take_length]
  exact h.macs
 ·rw[Mk.room_sum D k hk]
  have h1:=h.sizes
  have h2:=h.n
  have h4:Bd.sizes (D.take k)≤Bd.sizes D:=by
   conv=>rhs;rw[←List.take_append_drop k D]
   unfold Bd.sizes
   rw[List.map_append,List.sum_append]
   omega
  omega
theorem awD_ok:Mk.DOk awD:=⟨fun j d hd=>by
 have:=List.mem_of_getElem? hd
 rw[List.mem_singleton.1 this]
 exact⟨by decide,fun _ hp=>(List.not_mem_nil hp).elim⟩,fun j d hd=>by
 have:=List.mem_of_getElem? hd
 rw[List.mem_singleton.1 this]
 exact .mk _ (by decide) (by decide) fun _ hy=>(List.not_mem_nil hy).elim,fun d hd=>by rw[List.mem_singleton.1 hd];decide,by decide⟩
theorem awX_fine {x:Sx} (h:x.size≤1000) (h2:x.wide≤1048576):Sx.Fine x:=Sx.Fine.of _ x (Nat.le_refl _) h h2
theorem awX1_s:awX1.size≤600∧awX1.wide≤1048576:=⟨by simp[Sx.size,Sx.sizes],by decide +kernel⟩
theorem awX2_s:awX2.size≤600∧awX2.wide≤1048576:=⟨by simp[Sx.size,Sx.sizes],by decide +kernel⟩
theorem awX3_s:awX3.size≤600∧awX3.wide≤1048576:=⟨by simp[Sx.size,Sx.sizes],by decide +kernel⟩
theorem awD_room:Mk.room awD 1≤100:=by decide +kernel
theorem awN_inv:Tm.Inv awN:=by
 have h:=(Bd.good awD 1 awX1 [] [] Tm.Inv.nil (fun _ h=>(List.not_mem_nil h).elim)).1.1
 simp only[awX1_tm] at h
 exact h
abbrev awL:List (DcP×Dc):=[(⟨none,0,none,0⟩,⟨⟨#[120]⟩,2,false,[],Sx.zero⟩)]
theorem kawake10 (w:World) (hT:Pow9 w) (hK:Ask9 w) (hG:Gl w):
  Calls Tryz.prog 10 #[] w fun e w'=>e=.returned (.bool true)∧Below w.heap.size w w':=by
 obtain⟨W1,hW1⟩:∃ W1,w.alloc (.cells Z9 37)=W1:=⟨_,rfl⟩
 obtain⟨W2,hW2⟩:∃ W2,W1.alloc (.cells #[.string ⟨#[120]⟩,.int .i64 2,.bool false,.slice none 0 0,.bool false,.int .i64 0,.string ⟨#[]⟩,.int .i64 0,.int .i64 0,.slice none 0 0] 56)=W2:=⟨_,rfl⟩
 have hs1:W1.heap.size=w.heap.size+1:=by rw[←hW1];simp
 have hs2:W2.heap.size=w.heap.size+2:=by rw[←hW2];simp;omega
 have hB1:Below w.heap.size w W1:=by rw[←hW1];exact(Below.refl _ w).alloc (Nat.le_refl _) _
 have hB2:Below W1.heap.size W1 W2:=by rw[←hW2];exact(Below.refl _ _).alloc (Nat.le_refl _) _
 have hB02:=hB1.trans (hB2.mono hB1.size)
 have hbk:Bk W2 w.heap.size (fun k=>k=w.heap.size) []:=by
  have:=knew9 w
  rw[hW1] at this
  exact this.below hB2
 have hLd:Lies W2 W1.heap.size 56 #[.string ⟨#[120]⟩,.int .i64 2,.bool false,.slice none 0 0,.bool false,.int .i64 0,.string ⟨#[]⟩,.int .i64 0,.int .i64 0,.slice none 0 0]:=by
  have:=Lies.new W1 56 #[.string ⟨#[120]⟩,.int .i64 2,.bool false,.slice none 0 0,.bool false,.int .i64 0,.string ⟨#[]⟩,.int .i64 0,.int .i64 0,.slice none 0 0]
  rw[hW2] at this
  exact this
 have hdc:DcS W2 (fun k=>¬k=w.heap.size) (some ⟨W1.heap.size,0,none⟩) 1 1 awL:=by
  refine⟨rfl,(fun e=>by cases e),fun _=>⟨W1.heap.size,0,rfl,by omega,by omega,fun i q hq=>?_⟩⟩
  have hi:i=0:=by
   have:=(List.getElem?_eq_some_iff.1 hq).1
   simpa using this
  subst hi
  obtain rfl:q=(⟨none,0,none,0⟩,⟨⟨#[120]⟩,2,false,[],Sx.zero⟩):=by simpa using hq.symm
  refine⟨fun j u hu=>?_,⟨⟨fun h=>absurd h (by decide)⟩,⟨⟨Nat.le_refl _,Nat.zero_le _⟩,.nil _⟩⟩⟩
  rw[Nat.zero_mul,Nat.add_zero,Nat.zero_add,hLd.cell,←Array.getElem?_toList]
  exact hu
 have hBeg:Mk.Begin w W2 w.heap.size (fun k=>k=w.heap.size) [] (some ⟨W1.heap.size,0,none⟩) 1 1 awL:=⟨hB02,hT,hK,hbk,fun k hk=>by omega,hdc,by decide,awD_ok⟩
 have HBeg:=Lib.hid hBeg
 have HGl:=Lib.hid hG
 have HR1:=Lib.hid (kRead10 W2 awS1 awX1 (by decide) awS1_read)
 have HR:=Lib.hid fun(W:World) (s:ByteArray) (x:Sx) (hs:s.size≤4000000) (h:ReadOf s [⟨x,0,0⟩])=>kRead10 W s x hs h
 have HTm:Hid (∀ (W:World) (F:Nat→Prop) (N:List Nd) (x:Sx) (xA:Option Addr) (xc:Nat),Mk.Begin w W w.heap.size F N (some ⟨W1.heap.size,0,none⟩) 1 1 awL→Tm.Inv N→N.length≤20000→STree W (fun k _=>¬F k) x xA xc→x.size≤600→x.wide≤1048576→
   Calls Tryz.prog 12 #[.pointer (some ⟨w.heap.size,0,none⟩),.slice (some ⟨W1.heap.size,0,none⟩) 1 1,sval x xA xc] W fun e w'=>BAns W w.heap.size F (Bd.tm awD 1 [] N x) e w'):=fun W F N x xA xc h1 h2 h3 h4 h5 h6=>
  kTerm w W w.heap.size F N _ 1 1 awL x xA xc h1 hG h2 h3 h4 (awX_fine (by omega) h6) (by have:=awD_room;show x.size+Mk.room awD 1≤_;omega)
 clear hBeg hdc hLd hbk hB02 hB2 hB1 hs1 hs2 hT hK hG
 go_enter Tryz.func10,Tryz.ntmps10
 go_wp2_with fail
 have hbw:=HBeg.out.bk.lt
 refine HR1.out.mono ?_
 rintro e w3 ⟨⟨A1,c1,rfl,hx⟩,b3⟩
 have hb3:=HBeg.out.below b3
 have HT1:=Lib.hid (HTm.out w3 _ [] awX1 A1 c1 hb3 Tm.Inv.nil (by decide) ⟨hx.le,hx.tree.mono fun k _ _ hk e=>by have:=hbw k e;omega⟩ awX1_s.1 awX1_s.2)
 rw[awX1_tm] at HT1
 have HB3:=Lib.hid hb3
 clear hb3 hx b3 HR1 hbw HBeg
 go_wp2_with fail
 refine HT1.out.mono ?_
 rintro e w4 ⟨rfl,F4,k4,t4,f4⟩
 have HB4:=Lib.hid (HB3.out.next k4 t4 f4)
 clear HT1 HB3 k4 t4 f4
 go_wp2_with fail
 refine(HR.out w4 awS2 awX2 (by decide) awS2_read).mono ?_
 rintro e w5 ⟨⟨A2,c2,rfl,hx⟩,b5⟩
 have hb5:=HB4.out.below b5
 have HT2:=Lib.hid (HTm.out w5 _ awN awX2 A2 c2 hb5 awN_inv (by decide) ⟨hx.le,hx.tree.mono fun k _ _ hk e=>by have:=HB4.out.bk.lt k e;omega⟩ awX2_s.1 awX2_s.2)
 rw[awX2_tm] at HT2
 have HB5:=Lib.hid hb5
 clear hb5 hx b5 HB4
 go_wp2_with fail
 refine HT2.out.mono ?_
 rintro e w6 ⟨rfl,F6,k6,t6,f6⟩
 have HB6:=Lib.hid (HB5.out.next k6 t6 f6)
 clear HT2 HB5 k6 t6 f6
 go_wp2_with fail
 refine(HR.out w6 awS3 awX3 (by decide) awS3_read).mono ?_
 rintro e w7 ⟨⟨A3,c3,rfl,hx⟩,b7⟩
 have hb7:=HB6.out.below b7
 have HT3:=Lib.hid (HTm.out w7 _ awN awX3 A3 c3 hb7 awN_inv (by decide) ⟨hx.le,hx.tree.mono fun k _ _ hk e=>by have:=HB6.out.bk.lt k e;omega⟩ awX3_s.1 awX3_s.2)
 rw[awX3_tm] at HT3
 have HB7:=Lib.hid hb7
 clear hb7 hx b7 HB6
 go_wp2_with fail
 refine HT3.out.mono ?_
 rintro e w8 ⟨rfl,F8,k8,t8,f8⟩
 have hb8:=HB7.out.next k8 t8 f8
 have HAt:=Lib.hid (kat9 w8 w.heap.size F8 awN 4 aw_m hb8.bk rfl)
 have HB8:=Lib.hid hb8.base
 clear HT3 HB7 k8 t8 f8 hb8 HTm
 go_wp2_with fail
 refine HAt.out.mono ?_
 rintro e w9 ⟨⟨P,rfl,_⟩,b9⟩
 have HB9:=Lib.hid (HB8.out.trans (b9.mono HB8.out.size))
 clear HAt b9 HB8
 obtain⟨W10,hW10⟩:∃ W10,w9.alloc (.cells #[.int .i64 17,.int .i64 2,.slice P.A P.n P.c,.string ByteArray.empty,.bool P.g,.slice P.B P.m P.d,.slice P.C P.p P.f] 50)=W10:=⟨_,rfl⟩
 have hB10:Below w.heap.size w W10:=by rw[←hW10];exact HB9.out.alloc HB9.out.size _
 have hl10:Lies W10 w9.heap.size 50 #[.int .i64 17,.int .i64 2,.slice P.A P.n P.c,.string ByteArray.empty,.bool P.g,.slice P.B P.m P.d,.slice P.C P.p P.f]:=by rw[←hW10];exact Lies.new w9 _ _
 have HB10:=Lib.hid hB10
 have HL10:=Lib.hid hl10
 have HR4:=Lib.hid (HR.out W10 awS4 awX4 (by decide) awS4_read)
 have HSo:=Lib.hid fun(W:World) (A:Option Addr) (c:Nat)=>ksort10 W awX4 A c
 have HRl:Hid (∀ W,Calls Tryz.prog 21 #[.string ⟨#[108,101,116]⟩] W fun e w'=>e=.returned (.bool true)∧w'=W):=fun W=>by
  have:=kreserved ⟨#[108,101,116]⟩ W
  rwa [show Bd.reserved (⟨#[108,101,116]⟩:ByteArray).data.toList=true by decide] at this
 have HRx:Hid (∀ W,Calls Tryz.prog 21 #[.string ⟨#[120]⟩] W fun e w'=>e=.returned (.bool false)∧w'=W):=fun W=>by
  have:=kreserved ⟨#[120]⟩ W
  rwa [show Bd.reserved (⟨#[120]⟩:ByteArray).data.toList=false by decide] at this
 clear HB9 hB10 hl10 HR HGl
 go_wp2_with fail
 refine HR4.out.mono ?_
 rintro e w11 ⟨⟨A4,c4,rfl,_⟩,b11⟩
 have HS4:=Lib.hid (HSo.out w11 A4 c4)
 rw[show Bd.sort awX4=(3,0) by decide] at HS4
 have HB11:=Lib.hid b11
 clear HR4 HSo b11
 go_wp2_with fail
 refine HS4.out.mono ?_
 rintro e w12 ⟨rfl,b12⟩
 have hl12:=((HB11.out.trans (b12.mono HB11.out.size)).block _ HL10.out.lt).trans HL10.out
 have c12:w12.cell? ⟨w9.heap.size,0,none⟩=some (.int .i64 17):=by rw[Lies.cell (t:=50) (cs:=#[.int .i64 17,.int .i64 2,.slice P.A P.n P.c,.string ByteArray.empty,.bool P.g,.slice P.B P.m P.d,.slice P.C P.p P.f]) hl12];rfl
 have HE:=Lib.hid (HB10.out.trans ((HB11.out.trans (b12.mono HB11.out.size)).mono HB10.out.size))
 clear HS4 HB11 HB10 HL10 b12 hl12
 go_wp2_with (go_at_call 21;(first|(with_reducible refine(HRl.out _).mono ?_)|(with_reducible refine(HRx.out _).mono ?_));rintro e w13 ⟨rfl,rfl⟩)
 go_ret
 exact⟨rfl,HE.out⟩
structure Came (w:World) (A:Option Addr) (n c:Nat) (L:List (DcP×Dc)) (x:Sx) (xA:Option Addr) (xc:Nat):Prop where
 dc:DcS w (fun _=>True) A n c L
 n:n≤1048576
 dcs:∀ q∈L,DcB 1048576 q.2
 tree:STree w AnyP x xA xc
 size:x.size≤1048576
 wide:x.wide≤1048576
theorem Came.below {w w':World} {A:Option Addr} {n c:Nat} {L:List (DcP×Dc)} {x:Sx} {xA:Option Addr} {xc:Nat} (h:Came w A n c L x xA xc) (hb:Below w.heap.size w w'):Came w' A n c L x xA xc:=
 ⟨h.dc.turn (Turn.of_below (F:=fun _=>False) hb) fun _ _ _=>⟨id,trivial⟩,h.n,h.dcs,h.tree.kept hb,h.size,h.wide⟩
theorem Came.few {w:World} {A:Option Addr} {n c:Nat} {L:List (DcP×Dc)} {x:Sx} {xA:Option Addr} {xc:Nat} (h:Came w A n c L x xA xc):
  Calls Tryz.prog 11 #[.slice A n c,sval x xA xc] w fun e w'=>FewSaid (L.map (·.2)) x e∧Below w.heap.size w w':=
 kfew10 w A n c L x xA xc h.dc h.tree (by have:=h.n;omega) (by have:=h.size;omega) fun q hq=>by have:=(h.dcs q hq).size;omega
theorem Came.begin {w W:World} {A:Option Addr} {n c:Nat} {L:List (DcP×Dc)} {x:Sx} {xA:Option Addr} {xc:Nat} (h:Came w A n c L x xA xc) (hf:Bd.Few (L.map (·.2)) x) (hT:Pow9 w) (hK:Ask9 w) (hb:Below w.heap.size w W):
  Mk.Begin w (W.alloc (.cells Z9 37)) W.heap.size (fun k=>k=W.heap.size) [] A n c L:=by
 have hB:Below w.heap.size w (W.alloc (.cells Z9 37)):=hb.alloc hb.size _
 refine⟨hB,hT,hK,knew9 W,fun k hk=>by rw[hk];exact hb.size,h.dc.turn (Turn.of_below (F:=fun _=>False) hB) fun k hk _=>⟨id,fun e=>by have:=hb.size;omega⟩,?_,(hf.ok fun d hd=>?_).1⟩
 ·have:=hf.n
  rw[List.length_map,h.dc.len] at this
  omega
 ·obtain⟨q,hq,rfl⟩:=List.mem_map.1 hd
  exact h.dcs q hq
theorem Came.term {w W:World} {b:Nat} {F:Nat→Prop} {N:List Nd} {A:Option Addr} {n c:Nat} {L:List (DcP×Dc)} {x:Sx} {xA:Option Addr} {xc:Nat} (h:Came w A n c L x xA xc) (hf:Bd.Few (L.map (·.2)) x) (hG:Gl w) (hB:Mk.Begin w W b F N A n c L) (hI:Tm.Inv N) (hN:N.length≤20000):
  Calls Tryz.prog 12 #[.pointer (some ⟨b,0,none⟩),.slice A n c,sval x xA xc] W fun e w'=>BAns W b F (Bd.tm (L.map (·.2)) n [] N x) e w':=by
 refine kTerm w W b F N A n c L x xA xc hB hG hI hN ⟨h.tree.le,h.tree.tree.imp hB.base.size (fun b off hlt _ j _=>hB.base.cell (p:=⟨b,off+j,none⟩) hlt) fun b off hlt _ e=>by have:=hB.low b e;omega⟩ (Sx.Fine.of _ x (Nat.le_refl _) (by have:=hf.size;omega) h.wide) ?_
 have hn:n=(L.map (·.2)).length:=by rw[List.length_map,h.dc.len]
 have:=(hf.ok fun d hd=>by
  obtain⟨q,hq,rfl⟩:=List.mem_map.1 hd
  exact h.dcs q hq).2 n (by omega)
 have:=hf.size
 omega
theorem DcB.mono {B C:Nat} {d:Dc} (h:DcB B d) (hB:B≤C):DcB C d:=⟨Nat.le_trans h.name hB,fun p hp=>Nat.le_trans (h.par p hp) hB,Nat.le_trans h.size hB,Nat.le_trans h.wide hB⟩
theorem Came.opened {W:World} {A:Option Addr} {n c:Nat} {L:List (DcP×Dc)} {x:Sx} {xA:Option Addr} {xc:Nat} {B C:Nat} (h:DcS W (fun _=>True) A n c L∧n≤c∧c≤maxLen∧n≤B∧∀ q∈L,DcB B q.2) (hx:STree W AnyP x xA xc∧x.size≤C∧x.wide≤C) (hk:B+C≤1048576):Came W A n c L x xA xc:=
 ⟨h.1,by have:=h.2.2.2.1;omega,fun q hq=>(h.2.2.2.2 q hq).mono (by omega),hx.1,by have:=hx.2.1;omega,by have:=hx.2.2;omega⟩
abbrev XCells (W:World) (k:Nat) (x:Sx) (xA:Option Addr) (xc:Nat):Prop:=W.cell? ⟨k,0,none⟩=some (.bool x.list)∧W.cell? ⟨k,1,none⟩=some (.int .i64 x.k)∧W.cell? ⟨k,2,none⟩=some (.string x.T)∧W.cell? ⟨k,3,none⟩=some (.int .i64 x.ta)∧W.cell? ⟨k,4,none⟩=some (.int .i64 x.at_)∧W.cell? ⟨k,5,none⟩=some (.slice xA x.L.length xc)
theorem xbox (w:World) (x:Sx) (xA:Option Addr) (xc:Nat) {W:World} (h:Below (w.alloc (sbox x xA xc)).heap.size (w.alloc (sbox x xA xc)) W):XCells W w.heap.size x xA xc:=by
 obtain⟨_,b0,b1,b2,b3,b4,b5⟩:=(sbox_at w x xA xc).below h
 exact⟨b0,b1,b2,b3,b4,b5⟩
end Go.Proofs.YtcgaeknikfaghaaGreatDoor
