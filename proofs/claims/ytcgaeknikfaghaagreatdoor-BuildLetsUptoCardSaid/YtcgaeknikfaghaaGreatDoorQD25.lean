/- What the proofs of this claim use, text by text. -/
import Derived.Test.YtcgaeknikfaghaaGreatDoorQD24
set_option linter.unusedSimpArgs false
set_option linter.unusedVariables false
set_option maxRecDepth 100000
set_option maxHeartbeats 25600000
namespace Go.Proofs.YtcgaeknikfaghaaGreatDoor
open Go.RowKit
theorem any_take {α:Type} {p:α→Bool} {l:List α} {i:Nat} {x:α} (h:l[i]?=some x):(l.take (i+1)).any p=((l.take i).any p||p x):=by rw[take_one h,List.any_append];simp
theorem kcall (E:Mk.Env) (hE:E.Ok) (w:World) (M:Nat) (Y:Mk.Lay) (s:Ms) (bs:List Fr) (f:Fr) (j:Nat) (A:Option Addr) (n c:Nat) (l:List Int) (h:Mk.Rep E w M Y s) (hf:s.fr=bs++[f]) (hs:Mk.Small s) (hj:j<E.n) (hA:NumS w A n l) (hw:∀ z∈l,0≤z∧z≤30000) (hn:n≤1000)
  (hpl:∀ d,E.D[j]?=some d→d.par.length≤1000∧∀ p∈d.par,p.1.size≤maxLen):
  Calls Tryz.prog 166 #[.pointer (some ⟨M,0,none⟩),.int .i64 (j:Int),.slice A n c] w fun x w'=>Mk.Ans E w M Y (Mk.call E.D s j l) x w':=by
 obtain⟨b,off,P,d,hEA,hbl,hL,hD,hdc,hc⟩:=hE.dc.get hj
 obtain⟨hpl1,hpl2⟩:=hpl d hD
 have hwf:∀ z∈l,(Lit.int .i64 z).wf=true:=fun z hz=>WalkArith.wf_i64 (by have:=hw z hz;omega)
 have hll:=hA.len
 have c1:w.cell? ⟨M,1,none⟩=some (.slice (some ⟨b,off,none⟩) E.n E.c):=by rw[h.own.cell,←hEA];rfl
 have zM:=h.own.lt
 obtain⟨hbw,hcc⟩:=hc w h.pl
 have k0:=hcc 0 _ rfl
 have k1:=hcc 1 _ rfl
 have k2:=hcc 2 _ rfl
 have k3:=hcc 3 _ rfl
 have k4:=hcc 4 _ rfl
 have k5:=hcc 5 _ rfl
 have k6:=hcc 6 _ rfl
 have k7:=hcc 7 _ rfl
 have k8:=hcc 8 _ rfl
 have k9:=hcc 9 _ rfl
 rw[Nat.add_zero] at k0
 obtain⟨pn,hpn⟩:∃ pn,d.par.length=pn:=⟨_,rfl⟩
 have hj0:(0:Int)≤(j:Int):=by omega
 have hjn:(j:Int)<(E.n:Int):=by omega
 obtain⟨W1,hW1⟩:∃ W1,(w.alloc (.cells #[.pointer (some ⟨M,0,none⟩)] 74)).alloc (.cells #[.string d.name,.int .i64 d.sort,.bool d.mac,.slice P.A d.par.length P.c,.bool d.body.list,.int .i64 d.body.k,.string d.body.T,.int .i64 d.body.ta,.int .i64 d.body.at_,.slice P.B d.body.L.length P.d] 56)=W1:=⟨_,rfl⟩
 have hB1:Below w.heap.size w W1:=by rw[←hW1];exact((Below.refl _ w).alloc (Nat.le_refl _) _).alloc (by simp) _
 have hL1:Lies W1 w.heap.size 74 #[.pointer (some ⟨M,0,none⟩)]:=by rw[←hW1];exact(Below.heap_alloc _ _ _ (by simp)).trans (Lies.new w _ _)
 have hL2:Lies W1 (w.heap.size+1) 56 #[.string d.name,.int .i64 d.sort,.bool d.mac,.slice P.A d.par.length P.c,.bool d.body.list,.int .i64 d.body.k,.string d.body.T,.int .i64 d.body.ta,.int .i64 d.body.at_,.slice P.B d.body.L.length P.d]:=by
  have:=Lies.new (w.alloc (.cells #[.pointer (some ⟨M,0,none⟩)] 74)) 56 #[.string d.name,.int .i64 d.sort,.bool d.mac,.slice P.A d.par.length P.c,.bool d.body.list,.int .i64 d.body.k,.string d.body.T,.int .i64 d.body.ta,.int .i64 d.body.at_,.slice P.B d.body.L.length P.d]
  rw[World.size_alloc] at this
  rw[←hW1]
  exact this
 have HR:Hid (∀ W,Below W1.heap.size W1 W→Mk.Rep E W M Y s∧NumS W A n l∧Below w.heap.size w W∧Lies W w.heap.size 74 #[.pointer (some ⟨M,0,none⟩)]∧Lies W (w.heap.size+1) 56 #[.string d.name,.int .i64 d.sort,.bool d.mac,.slice P.A d.par.length P.c,.bool d.body.list,.int .i64 d.body.k,.string d.body.T,.int .i64 d.body.ta,.int .i64 d.body.at_,.slice P.B d.body.L.length P.d]):=fun W hW=>by
  have hb:=hB1.trans (hW.mono hB1.size)
  exact⟨h.below hb,hA.below hb,hb,(hW.block _ hL1.lt).trans hL1,(hW.block _ hL2.lt).trans hL2⟩
 have hcall:Mk.call E.D s j l=if l.length≠d.par.length then(s,1) else match Mk.hit s.made j l with
   |some id=>Mk.give s id 0
   |none=>if(List.zip l d.par).any (fun q=>decide (Bd.sortAt s.N q.1≠q.2.2))=true then(s,90) else(Mk.body s d.body (List.zip (d.par.map (·.1)) l) j (.memo j l),0):=by
  unfold Mk.call
  rw[hD]
  rfl
 rw[hcall]
 by_cases hlen:l.length≠d.par.length
 ·rw[if_pos hlen]
  have hne:((n:Int) != (pn:Int))=true:=by simp;omega
  have HE:=Lib.hid (Mk.Left.same h hB1)
  have hk3:=hL2.cell 3
  rw[hpn] at hk3 k3 hW1
  simp at hk3
  clear h hf hs hA hw hwf hc hcc hbl hL hD hdc hpl1 hpl2 hpl HR hcall hL1 hL2 hB1 hpn hll hlen hEA
  go_enter Tryz.func166,Tryz.ntmps166
  go_wp2
  go_ret
  exact⟨rfl,HE.out⟩
 rw[if_neg hlen]
 obtain rfl:n=pn:=by omega
 have hks:(Mk.key j l).size≤30000:=Mk.size_key (by have:=hE.few;omega) hwf (by omega)
 have HS:=Lib.hid (kspell10 W1 j A n c l (hA.below hB1) hwf hn (by have:=hE.few;omega) ((h.below hB1).pow hE))
 have hk3:=hL2.cell 3
 simp at hk3
 have HMade:Hid (∀ W,Below W1.heap.size W1 W→(Instr.lookup 98 (.map (some Y.mb)) (.string (Mk.key j l)) true).run Tryz.prog W=.ok (.tuple #[.int .i64 ((Mk.hit s.made j l).getD 0),.bool (Mk.hit s.made j l).isSome]) W):=fun W hW=>(HR.out W hW).1.made.look (by unfold maxLen;omega)
 have HM3:Hid (∀ W,Below W1.heap.size W1 W→W.cell? ⟨M,3,none⟩=some (.map (some Y.mb))∧W.cell? ⟨M,0,none⟩=some (.pointer (some ⟨E.bk,0,none⟩))∧M<W.heap.size):=fun W hW=>by
  have h1:=(HR.out W hW).1.own
  exact⟨by rw[h1.cell];rfl,by rw[h1.cell];rfl,h1.lt⟩
 obtain⟨key,hkey⟩:∃ key,Mk.key j l=key:=⟨_,rfl⟩
 have HKey:=Lib.hid hkey
 rw[hkey] at HS HMade
 cases hh:Mk.hit s.made j l with
 |some id=>
  have hb:bs.length≤5000:=by have:=hs.fr;rw[hf,List.length_append] at this;omega
  have hn2:f.ids.length≤100000:=by have:=(hs.ids f (by rw[hf];simp)).1;omega
  have HG:Hid (∀ W,Below W1.heap.size W1 W→Calls Tryz.prog 162 #[.pointer (some ⟨M,0,none⟩),.int .i64 id,.int .i64 0] W fun x w'=>Mk.Ans E w M Y (Mk.give s id 0) x w'):=fun W hW=>by
   obtain⟨r1,_,r3,_⟩:=HR.out W hW
   exact(kgive E W M Y s bs f id 0 r1 hf hb hn2).mono fun x w' q=>q.up r3
  rw[hh] at HMade
  simp only[Option.getD_some,Option.isSome_some] at HMade
  rw[hpn] at hk3 k3 hW1
  have hL1c:=hL1.cell 0
  simp at hL1c
  have HLm:Hid (∀ W,Below W1.heap.size W1 W→W.cell? ⟨w.heap.size,0,none⟩=some (.pointer (some ⟨M,0,none⟩))∧w.heap.size<W.heap.size):=fun W hW=>by
   obtain⟨_,_,_,r4,_⟩:=HR.out W hW
   exact⟨by rw[r4.cell];rfl,r4.lt⟩
  obtain⟨mb,hmb⟩:∃ mb,Y.mb=mb:=⟨_,rfl⟩
  rw[hmb] at HMade HM3
  clear h hf hs hA hw hwf hc hcc hbl hL hD hdc hpl1 hpl2 hpl HR hcall hL1 hL2 hB1 hpn hll hlen hEA hh hb hn2 hks hkey HKey hmb
  go_enter Tryz.func166,Tryz.ntmps166
  go_wp2_with fail
  refine HS.out.mono ?_
  rintro e w2 ⟨rfl,b2⟩
  obtain⟨W3,hW3⟩:∃ W3,w2.alloc (.cells #[.string key] 9)=W3:=⟨_,rfl⟩
  have hB3:Below W1.heap.size W1 W3:=by rw[←hW3];exact b2.alloc b2.size _
  have hK3:Lies W3 w2.heap.size 9 #[.string key]:=by rw[←hW3];exact Lies.new w2 _ _
  have HB3:Hid (∀ nq,Below W1.heap.size W1 (W3.drewN nq)):=fun nq=>below_drewN hB3 nq
  have hkc:=hK3.cell 0
  have hkl:=hK3.lt
  simp at hkc
  obtain⟨m3,m0,ml⟩:=HM3.out W3 hB3
  obtain⟨lm,lml⟩:=HLm.out W3 hB3
  have hlk:∀ nq,(Instr.lookup 98 (.map (some mb)) (.string key) true).run Tryz.prog (W3.drewN nq)=.ok (.tuple #[.int .i64 id,.bool true]) (W3.drewN nq):=fun nq=>HMade.out _ (HB3.out nq)
  clear HS HMade HM3 HLm b2 hB3 hK3 hk3 hL1c
  go_wp2_with fail
  go_quiet (fail)
  go_wp2_with fail
  refine(HG.out _ (HB3.out nq)).mono ?_
  rintro e w4 ⟨rfl,v⟩
  have V:=Lib.hid v
  clear HG v
  go_wp2
  go_ret
  exact⟨rfl,V.out⟩
 |none=>
  simp only
  rw[hh] at HMade
  simp only[Option.getD_none,Option.isSome_none] at HMade
  have hsp:∀ i z p,l[i]?=some z→d.par[i]?=some p→(List.zip l d.par)[i]?=some (z,p):=fun i z p h1 h2=>by rw[List.getElem?_zip_eq_some];exact⟨h1,h2⟩
  have HZ:=Lib.hid hsp
  have HPar:Hid (∀ W,Below W1.heap.size W1 W→∀ i,i<n→∃ bp op p,P.A=some ⟨bp,op,none⟩∧d.par[i]?=some p∧bp<W.heap.size∧W.cell? ⟨bp,op+i*2,none⟩=some (.string p.1)∧W.cell? ⟨bp,op+i*2+1,none⟩=some (.int .i64 p.2)):=fun W hW i hi=>by
   obtain⟨bp,op,p,e1,e2,e3⟩:=hdc.par.get (i:=i) (by omega)
   obtain⟨x1,x2,x3⟩:=e3 W (HR.out W hW).1.pl
   exact⟨bp,op,p,e1,e2,x1,x2,x3⟩
  have HId:Hid (∀ W,Below W1.heap.size W1 W→∀ i,i<n→∃ bi oi z,A=some ⟨bi,oi,none⟩∧l[i]?=some z∧0≤z∧∀ W',Below W.heap.size W W'→bi<W'.heap.size∧W'.cell? ⟨bi,oi+i,none⟩=some (.int .i64 z)):=fun W hW i hi=>by
   obtain⟨bi,oi,z,e1,e2,e3,_,e5⟩:=(HR.out W hW).2.1.get hi
   exact⟨bi,oi,z,e1,e2,(hw z e3).1,e5⟩
  have HSort:Hid (∀ W,Below W1.heap.size W1 W→∀ z,0≤z→Calls Tryz.prog 48 #[.pointer (some ⟨E.bk,0,none⟩),.int .i64 z] W fun e w'=>e=.returned (.int .i64 (Bd.sortAt s.N z))∧Below W.heap.size W w'):=fun W hW z hz=>ksortOf W E.bk Y.Fb s.N z (HR.out W hW).1.bank hz
  obtain⟨xl,hxl⟩:∃ xl,d.body.list=xl:=⟨_,rfl⟩
  obtain⟨xk,hxk⟩:∃ xk,d.body.k=xk:=⟨_,rfl⟩
  obtain⟨xT,hxT⟩:∃ xT,d.body.T=xT:=⟨_,rfl⟩
  obtain⟨xta,hxta⟩:∃ xta,d.body.ta=xta:=⟨_,rfl⟩
  obtain⟨xa,hxa⟩:∃ xa,d.body.at_=xa:=⟨_,rfl⟩
  obtain⟨xn,hxn⟩:∃ xn,d.body.L.length=xn:=⟨_,rfl⟩
  have HBd:Hid (∀ W,Below W1.heap.size W1 W→W.cell? ⟨w.heap.size,0,none⟩=some (.pointer (some ⟨M,0,none⟩))∧W.cell? ⟨w.heap.size+1,3,none⟩=some (.slice P.A n P.c)∧W.cell? ⟨w.heap.size+1,4,none⟩=some (.bool xl)∧W.cell? ⟨w.heap.size+1,5,none⟩=some (.int .i64 xk)∧W.cell? ⟨w.heap.size+1,6,none⟩=some (.string xT)∧W.cell? ⟨w.heap.size+1,7,none⟩=some (.int .i64 xta)∧W.cell? ⟨w.heap.size+1,8,none⟩=some (.int .i64 xa)∧W.cell? ⟨w.heap.size+1,9,none⟩=some (.slice P.B xn P.d)):=fun W hW=>by
   obtain⟨_,_,_,r4,r5⟩:=HR.out W hW
   rw[←hxl,←hxk,←hxT,←hxta,←hxa,←hxn,←hpn]
   exact⟨by rw[r4.cell];rfl,by rw[r5.cell];rfl,by rw[r5.cell];rfl,by rw[r5.cell];rfl,by rw[r5.cell];rfl,by rw[r5.cell];rfl,by rw[r5.cell];rfl,by rw[r5.cell];rfl⟩
  have HPN:Hid (∀ W,Below W1.heap.size W1 W→Calls Tryz.prog 40 #[.slice P.A n P.c] W fun e w'=>(∃ A' c',e=.returned (.slice A' n c')∧Rd w' (fun k=>W.heap.size≤k) A' n c' ((d.par.map (·.1)).map .string))∧Below W.heap.size W w'):=fun W hW=>by
   have:=kparamNames W P.A P.c d.par ((hdc.par.turn (G':=E.P) (HR.out W hW).1.pl fun k _ hk=>⟨fun e=>e hk,hk⟩)) (by omega)
   rwa [hpn] at this
  have HBo:Hid (∀ W w5 A5 c5,Below W1.heap.size W1 W→Below W.heap.size W w5→Rd w5 (fun k=>W.heap.size≤k) A5 n c5 ((d.par.map (·.1)).map .string)→Calls Tryz.prog 47 #[.slice A5 n c5,.slice A n c] w5 fun e w'=>e=.returned (.map (some w5.heap.size))∧Below w5.heap.size w5 w'∧∃ q D,w'.ownsMap Tryz.prog 9 (plainElem (H:=Unit) Tryz.prog 3) w5.heap.size q D∧TellS D (Bd.bound (List.zip (d.par.map (·.1)) l))):=fun W w5 A5 c5 hW h5 hr=>
   kbound w5 A5 n c5 A c (d.par.map (·.1)) l hr ((HR.out W hW).2.1.below h5) hwf (fun s hs=>by
    obtain⟨p,hp,rfl⟩:=List.mem_map.1 hs
    exact hpl2 p hp) (by omega)
  have hft:∀ k,w.heap.size≤k→¬Mk.foot M Y k:=fun k hk e=>by have:=h.lt k e;omega
  have HBody:Hid (∀ W w6 mp bkey,Below W1.heap.size W1 W→Below W.heap.size W w6→W.heap.size≤mp→(∃ q D,w6.ownsMap Tryz.prog 9 (plainElem (H:=Unit) Tryz.prog 3) mp q D∧TellS D (Bd.bound (List.zip (d.par.map (·.1)) l)))→Lies W bkey 9 #[.string key]→w.heap.size≤bkey→
    Calls Tryz.prog 64 #[.pointer (some ⟨M,0,none⟩),.agg #[.bool xl,.int .i64 xk,.string xT,.int .i64 xta,.int .i64 xa,.slice P.B xn P.d],.agg #[.map (some mp),.bool false,.int .i64 (j:Int)],.func (.func 195) #[] #[.pointer (some ⟨w.heap.size,0,none⟩),.pointer (some ⟨bkey,0,none⟩)]] w6 fun e w'=>(e=.returned (.tuple #[])∧Mk.Left E w M Y (Mk.body s d.body (List.zip (d.par.map (·.1)) l) j (.memo j l)) w')∧w'.cell? ⟨w.heap.size,0,none⟩=some (.pointer (some ⟨M,0,none⟩))∧w'.cell? ⟨w.heap.size+1,3,none⟩=some (.slice P.A n P.c)∧w'.cell? ⟨w.heap.size+1,4,none⟩=some (.bool xl)∧w'.cell? ⟨w.heap.size+1,5,none⟩=some (.int .i64 xk)∧w'.cell? ⟨w.heap.size+1,6,none⟩=some (.string xT)∧w'.cell? ⟨w.heap.size+1,7,none⟩=some (.int .i64 xta)∧w'.cell? ⟨w.heap.size+1,8,none⟩=some (.int .i64 xa)∧w'.cell? ⟨w.heap.size+1,9,none⟩=some (.slice P.B xn P.d)):=fun W w6 mp bkey hW h6 hmp hown hbk hbk2=>by
   have hW6:=hW.trans (h6.mono hW.size)
   obtain⟨r1,r2,r3,r4,r5⟩:=HR.out w6 hW6
   obtain⟨q,D,ho,ht⟩:=hown
   have hkk:Lies w6 bkey 9 #[.string (Mk.key j l)]:=by rw[HKey.out];exact(h6.block _ hbk.lt).trans hbk
   have:=kbody E w6 M Y s d.body P.B P.d (.map (some mp)) false (List.zip (d.par.map (·.1)) l) j _ (.memo j l) r1 ⟨hdc.body.le,r1.input hdc.body.tree⟩ (.inr ⟨mp,q,D,rfl,hft mp (by have:=hW.size;have:=hB1.size;omega),ho,ht⟩) ⟨w.heap.size,bkey,rfl,hft _ (Nat.le_refl _),hft _ hbk2,r4,hkk⟩ (by have:=hs.fr;omega) (by have:=hs.sc;omega)
   unfold sval at this
   rw[hxl,hxk,hxT,hxta,hxa,hxn] at this
   refine this.mono fun e w' q=>⟨⟨q.1,q.2.up r3⟩,?_⟩
   have m4:=Mk.lies_left q.2 r4 (hft _ (Nat.le_refl _))
   have m5:=Mk.lies_left q.2 r5 (hft _ (Nat.le_succ _))
   rw[←hxl,←hxk,←hxT,←hxta,←hxa,←hxn,←hpn]
   exact⟨by rw[m4.cell];rfl,by rw[m5.cell];rfl,by rw[m5.cell];rfl,by rw[m5.cell];rfl,by rw[m5.cell];rfl,by rw[m5.cell];rfl,by rw[m5.cell];rfl,by rw[m5.cell];rfl⟩
  have HSame:Hid (∀ W,Below W1.heap.size W1 W→Mk.Left E w M Y s W):=fun W hW=>Mk.Left.same h (HR.out W hW).2.2.1
  have HKp:Hid (∀ W W',w.heap.size+1<W.heap.size→Below W.heap.size W W'→(W.cell? ⟨w.heap.size,0,none⟩=some (.pointer (some ⟨M,0,none⟩))∧W.cell? ⟨w.heap.size+1,3,none⟩=some (.slice P.A n P.c)∧W.cell? ⟨w.heap.size+1,4,none⟩=some (.bool xl)∧W.cell? ⟨w.heap.size+1,5,none⟩=some (.int .i64 xk)∧W.cell? ⟨w.heap.size+1,6,none⟩=some (.string xT)∧W.cell? ⟨w.heap.size+1,7,none⟩=some (.int .i64 xta)∧W.cell? ⟨w.heap.size+1,8,none⟩=some (.int .i64 xa)∧W.cell? ⟨w.heap.size+1,9,none⟩=some (.slice P.B xn P.d))→(W'.cell? ⟨w.heap.size,0,none⟩=some (.pointer (some ⟨M,0,none⟩))∧W'.cell? ⟨w.heap.size+1,3,none⟩=some (.slice P.A n P.c)∧W'.cell? ⟨w.heap.size+1,4,none⟩=some (.bool xl)∧W'.cell? ⟨w.heap.size+1,5,none⟩=some (.int .i64 xk)∧W'.cell? ⟨w.heap.size+1,6,none⟩=some (.string xT)∧W'.cell? ⟨w.heap.size+1,7,none⟩=some (.int .i64 xta)∧W'.cell? ⟨w.heap.size+1,8,none⟩=some (.int .i64 xa)∧W'.cell? ⟨w.heap.size+1,9,none⟩=some (.slice P.B xn P.d))):=fun W W' hlt hb ⟨e0,e3,e4,e5,e6,e7,e8,e9⟩=>by
   have f:=fun(b i:Nat) (hb':b≤w.heap.size+1)=>hb.cell (p:=⟨b,i,none⟩) (show b<W.heap.size by omega)
   exact⟨(f _ _ (by omega)).trans e0,(f _ _ (by omega)).trans e3,(f _ _ (by omega)).trans e4,(f _ _ (by omega)).trans e5,(f _ _ (by omega)).trans e6,(f _ _ (by omega)).trans e7,(f _ _ (by omega)).trans e8,(f _ _ (by omega)).trans e9⟩
  have HLen:Hid (l.length=n∧d.par.length=n):=⟨by omega,hpn⟩
  have hW1s:W1.heap.size=w.heap.size+1+1:=by rw[←hW1];simp
  have HW1s:=Lib.hid hW1s
  rw[hpn,hxl,hxk,hxT,hxta,hxa,hxn] at hW1
  rw[hpn] at hk3 k3
  rw[hxl] at k4
  rw[hxk] at k5
  rw[hxT] at k6
  rw[hxta] at k7
  rw[hxa] at k8
  rw[hxn] at k9
  have HLm:Hid (∀ W,Below W1.heap.size W1 W→W.cell? ⟨w.heap.size,0,none⟩=some (.pointer (some ⟨M,0,none⟩))∧w.heap.size<W.heap.size∧W.cell? ⟨w.heap.size+1,3,none⟩=some (.slice P.A n P.c)∧w.heap.size+1<W.heap.size):=fun W hW=>by
   obtain⟨e0,e3,_⟩:=HBd.out W hW
   exact⟨e0,by have:=hW.size;omega,e3,by have:=hW.size;omega⟩
  obtain⟨T0,hT0⟩:∃ T0,Mk.body s d.body (List.zip (d.par.map (·.1)) l) j (.memo j l)=T0:=⟨_,rfl⟩
  rw[hT0] at HBody ⊢
  obtain⟨mb,hmb⟩:∃ mb,Y.mb=mb:=⟨_,rfl⟩
  rw[hmb] at HMade HM3
  obtain⟨ZP,hZP⟩:∃ ZP,List.zip l d.par=ZP:=⟨_,rfl⟩
  rw[hZP] at HZ ⊢
  have HZl:Hid (ZP.take n=ZP):=by
   show _=_
   rw[←hZP]
   exact List.take_of_length_le (by rw[List.length_zip,HLen.out.1,HLen.out.2,Nat.min_self];exact Nat.le_refl _)
  obtain⟨X,hX⟩:∃ X,(if(ZP.any (fun q=>decide (Bd.sortAt s.N q.1≠q.2.2)))=true then(s,(90:Int)) else(T0,0))=X:=⟨_,rfl⟩
  rw[hX]
  have HX1:Hid ((ZP.any (fun q=>decide (Bd.sortAt s.N q.1≠q.2.2)))=true→X=(s,90)):=fun ht=>by rw[←hX,if_pos ht]
  have HX2:Hid ((ZP.any (fun q=>decide (Bd.sortAt s.N q.1≠q.2.2)))=false→X=(T0,0)):=fun ht=>by rw[←hX,if_neg (by rw[ht];decide)]
  clear h hf hs hA hw hwf hc hcc hbl hL hD hdc hpl1 hpl2 hpl HR hcall hL1 hL2 hB1 hpn hll hlen hEA hh hks hkey HKey hmb hft hxl hxk hxT hxta hxa hxn hW1s hT0 hZP hsp hk3 hX
  go_enter Tryz.func166,Tryz.ntmps166
  obtain⟨_,_,l3,_⟩:=HLm.out W1 (Below.refl _ _)
  go_wp2_with fail
  refine HS.out.mono ?_
  rintro e w2 ⟨rfl,b2⟩
  obtain⟨W3,hW3⟩:∃ W3,w2.alloc (.cells #[.string key] 9)=W3:=⟨_,rfl⟩
  have hB3:Below W1.heap.size W1 W3:=by rw[←hW3];exact b2.alloc b2.size _
  have hK3:Lies W3 w2.heap.size 9 #[.string key]:=by rw[←hW3];exact Lies.new w2 _ _
  have HB3:Hid (∀ nq,Below W1.heap.size W1 (W3.drewN nq)):=fun nq=>below_drewN hB3 nq
  have HK3:=Lib.hid hK3
  have hkb:w.heap.size≤w2.heap.size:=by have:=b2.size;have:=HW1s.out;omega
  have HKB:=Lib.hid hkb
  have hkc:=hK3.cell 0
  have hkl:=hK3.lt
  simp at hkc
  obtain⟨m3,m0,ml⟩:=HM3.out W3 hB3
  obtain⟨lm,lml,ld,ldl⟩:=HLm.out W3 hB3
  have hlk:∀ nq,(Instr.lookup 98 (.map (some mb)) (.string key) true).run Tryz.prog (W3.drewN nq)=.ok (.tuple #[.int .i64 0,.bool false]) (W3.drewN nq):=fun nq=>HMade.out _ (HB3.out nq)
  clear HS HMade b2 hB3 hK3 hkb l3
  go_wp2_with fail
  go_quiet (fail)
  go_wp2
  have HB4:=Lib.hid (HB3.out nq)
  have HK4:Hid (Lies (W3.drewN nq) w2.heap.size 9 #[.string key]):=HK3.out
  clear m3 m0 ml lm lml ld ldl hlk HB3 HK3 hkc hkl
  generalize W3.drewN nq=W4 at HB4 HK4 ⊢
  go_loopw [45] (fun iv wr=>∃ i:Nat,i≤n∧iv=.int .i64 (i:Nat)∧Hid (Below W4.heap.size W4 wr∧((ZP.take i).any fun q=>decide (Bd.sortAt s.N q.1≠q.2.2))=false)) (fun iv _=>n-(intOf iv).toNat)
  case atStart=>exact⟨0,Nat.zero_le _,rfl,Below.refl _ _,rfl⟩
  case round=>
   obtain⟨i,hin,rfl,HI⟩:=hrel
   obtain⟨hb4,hany⟩:=HI.out
   have hbr:Below W1.heap.size W1 wr:=HB4.out.trans (hb4.mono HB4.out.size)
   by_cases hlt:i<n
   ·obtain⟨bp,op,p,hPA,hp,hbp,q1,q2⟩:=HPar.out wr hbr i hlt
    obtain⟨bi,oi,z,rfl,hz,hz0,hcz⟩:=HId.out wr hbr i hlt
    obtain⟨p1,p2⟩:=p
    simp only at q1 q2
    have hlt':(i:Int)<(n:Int):=by omega
    have hi0:(0:Int)≤(i:Int):=by omega
    have hiw:IntKind.i64.wrap ((i:Int)+1)=(i:Int)+1:=IntWalk.i64_in _ (by omega)
    obtain⟨W5,hW5⟩:∃ W5,wr.alloc (.cells #[.string p1,.int .i64 p2] 94)=W5:=⟨_,rfl⟩
    have hB5:Below wr.heap.size wr W5:=by rw[←hW5];exact(Below.refl _ wr).alloc (Nat.le_refl _) _
    have hL5:Lies W5 wr.heap.size 94 #[.string p1,.int .i64 p2]:=by rw[←hW5];exact Lies.new wr _ _
    have hb5:Below W1.heap.size W1 W5:=hbr.trans (hB5.mono hbr.size)
    have HF:Hid (∀ s':Lat W5,s'.at_.cell? ⟨w.heap.size,0,none⟩=some (.pointer (some ⟨M,0,none⟩))∧s'.at_.cell? ⟨M,0,none⟩=some (.pointer (some ⟨E.bk,0,none⟩))∧s'.at_.cell? ⟨bi,oi+i,none⟩=some (.int .i64 z)∧s'.at_.cell? ⟨wr.heap.size,1,none⟩=some (.int .i64 p2)):=fun s'=>by
     have hs5:=hb5.trans (s'.ok.mono hb5.size)
     exact⟨(HLm.out _ hs5).1,(HM3.out _ hs5).2.1,(hcz _ (hB5.trans (s'.ok.mono hB5.size))).2,by rw[Lies.cell (t:=94) (cs:=#[.string p1,.int .i64 p2]) ((s'.ok.block _ hL5.lt).trans hL5)];rfl⟩
    have HSo:Hid (∀ s':Lat W5,Calls Tryz.prog 48 #[.pointer (some ⟨E.bk,0,none⟩),.int .i64 z] s'.at_ fun e w'=>e=.returned (.int .i64 (Bd.sortAt s.N z))∧Below s'.at_.heap.size s'.at_ w'):=fun s'=>HSort.out _ (hb5.trans (s'.ok.mono hb5.size)) z hz0
    have HB5:Hid (∀ W,Below W5.heap.size W5 W→Below W4.heap.size W4 W∧Below W1.heap.size W1 W):=fun W hW=>⟨(hb4.trans (hB5.mono hb4.size)).trans (hW.mono (Nat.le_trans hb4.size hB5.size)),hb5.trans (hW.mono hb5.size)⟩
    obtain⟨so,hso⟩:∃ so,Bd.sortAt s.N z=so:=⟨_,rfl⟩
    rw[hso] at HSo
    have HNx:Hid (((ZP.take (i+1)).any fun q=>decide (Bd.sortAt s.N q.1≠q.2.2))=decide (so≠p2)):=by
     show _=_
     rw[any_take (HZ.out i z (p1,p2) hz hp),hany,Bool.false_or,←hso]
    have HTk:Hid (decide (so≠p2)=true→(ZP.any fun q=>decide (Bd.sortAt s.N q.1≠q.2.2))=true):=fun hd=>by
     have h1:=HNx.out
     rw[hd,List.any_eq_true] at h1
     obtain⟨q,hq,hq2⟩:=h1
     exact List.any_eq_true.2 ⟨q,List.mem_of_mem_take hq,hq2⟩
    obtain⟨lm,lml,ld,ldl⟩:=HLm.out wr hbr
    rw[hPA] at ld
    clear hb4 hany hbr hp hz hz0 hcz hB5 hL5 hb5 hso HI HPar HId HSort HB4 HK4 HLm HM3 HBd HPN HBo HBody HKp HLen HZ HZl HW1s HKB
    go_wp2_with fail
    refine calm_region (C:=Latr W5) (by kernel_rfl) (by kernel_rfl) (latr_drew (Below.refl _ W5)) ?_
    have a0_:∀ s':Lat W5,s'.at_.cell? ⟨w.heap.size,0,none⟩=some (.pointer (some ⟨M,0,none⟩)):=fun s'=>(HF.out s').1
    have a1_:∀ s':Lat W5,s'.at_.cell? ⟨M,0,none⟩=some (.pointer (some ⟨E.bk,0,none⟩)):=fun s'=>(HF.out s').2.1
    have a2_:∀ s':Lat W5,s'.at_.cell? ⟨bi,oi+i,none⟩=some (.int .i64 z):=fun s'=>(HF.out s').2.2.1
    have a3_:∀ s':Lat W5,s'.at_.cell? ⟨wr.heap.size,1,none⟩=some (.int .i64 p2):=fun s'=>(HF.out s').2.2.2
    repeat(go_big_quiet_step ((go_at_call 48;with_reducible exact calm_call (HSo.out _))))
    refine wpQuiet_nil ?_
    rintro _ ⟨s',rfl⟩
    obtain⟨hb6,hb7⟩:=HB5.out _ s'.ok
    have HB6:=Lib.hid hb6
    have HV:=Lib.hid (HSame.out _ hb7)
    clear a0_ a1_ a2_ a3_ HF HSo HB5 hb6 hb7 hW5
    generalize s'.at_=W6 at*
    clear s'
    by_cases hd:so=p2
    ·have hd2:(so != p2)=false:=by simp[hd]
     have HN2:Hid (((ZP.take (i+1)).any fun q=>decide (Bd.sortAt s.N q.1≠q.2.2))=false):=by show _=_;rw[HNx.out];simp[hd]
     clear hd HNx HTk HV
     go_wp2
     go_roundw
     case rel=>exact⟨i+1,by omega,by go_num,HB6.out,HN2.out⟩
     case measure=>simp[intOf];omega
    ·have hd2:(so != p2)=true:=by simp[hd]
     have ht:=HTk.out (by simp[hd])
     obtain rfl:=HX1.out ht
     clear hd HNx HTk HB6 ht HX1 HX2
     go_wp2
     go_ret
     exact⟨rfl,HV.out⟩
   ·obtain rfl:i=n:=by omega
    rw[HZl.out] at hany
    obtain rfl:=HX2.out hany
    have hbd:Below W1.heap.size W1 wr.drew:=⟨hbr.os,hbr.tape,hbr.output,hbr.size,hbr.block⟩
    have HKd:Hid (Lies wr.drew w2.heap.size 9 #[.string key]):=(hb4.block _ HK4.out.lt).trans HK4.out
    have HPNd:=Lib.hid (HPN.out wr.drew hbd)
    have HBod:Hid (∀ w5 A5 c5,Below wr.drew.heap.size wr.drew w5→Rd w5 (fun k=>wr.drew.heap.size≤k) A5 i c5 ((d.par.map (·.1)).map .string)→Calls Tryz.prog 47 #[.slice A5 i c5,.slice A i c] w5 fun e w'=>e=.returned (.map (some w5.heap.size))∧Below w5.heap.size w5 w'∧∃ q D,w'.ownsMap Tryz.prog 9 (plainElem (H:=Unit) Tryz.prog 3) w5.heap.size q D∧TellS D (Bd.bound (List.zip (d.par.map (·.1)) l))):=fun w5 A5 c5 q1 q2=>HBo.out wr.drew w5 A5 c5 hbd q1 q2
    have HBdd:Hid (∀ w5 w6,Below wr.drew.heap.size wr.drew w5→Below w5.heap.size w5 w6→(∃ q D,w6.ownsMap Tryz.prog 9 (plainElem (H:=Unit) Tryz.prog 3) w5.heap.size q D∧TellS D (Bd.bound (List.zip (d.par.map (·.1)) l)))→_):=fun w5 w6 q1 q2 q3=>HBody.out wr.drew w6 w5.heap.size w2.heap.size hbd (q1.trans (q2.mono q1.size)) q1.size q3 HKd.out HKB.out
    have HSd:Hid (wr.drew.cell? ⟨w.heap.size,0,none⟩=some (.pointer (some ⟨M,0,none⟩))∧wr.drew.cell? ⟨w.heap.size+1,3,none⟩=some (.slice P.A i P.c)∧wr.drew.cell? ⟨w.heap.size+1,4,none⟩=some (.bool xl)∧wr.drew.cell? ⟨w.heap.size+1,5,none⟩=some (.int .i64 xk)∧wr.drew.cell? ⟨w.heap.size+1,6,none⟩=some (.string xT)∧wr.drew.cell? ⟨w.heap.size+1,7,none⟩=some (.int .i64 xta)∧wr.drew.cell? ⟨w.heap.size+1,8,none⟩=some (.int .i64 xa)∧wr.drew.cell? ⟨w.heap.size+1,9,none⟩=some (.slice P.B xn P.d)):=HBd.out wr.drew hbd
    have HKpd:Hid (∀ W W',w.heap.size+1<W.heap.size→Below W.heap.size W W'→(W.cell? ⟨w.heap.size,0,none⟩=some (.pointer (some ⟨M,0,none⟩))∧W.cell? ⟨w.heap.size+1,3,none⟩=some (.slice P.A i P.c)∧W.cell? ⟨w.heap.size+1,4,none⟩=some (.bool xl)∧W.cell? ⟨w.heap.size+1,5,none⟩=some (.int .i64 xk)∧W.cell? ⟨w.heap.size+1,6,none⟩=some (.string xT)∧W.cell? ⟨w.heap.size+1,7,none⟩=some (.int .i64 xta)∧W.cell? ⟨w.heap.size+1,8,none⟩=some (.int .i64 xa)∧W.cell? ⟨w.heap.size+1,9,none⟩=some (.slice P.B xn P.d))→(W'.cell? ⟨w.heap.size,0,none⟩=some (.pointer (some ⟨M,0,none⟩))∧W'.cell? ⟨w.heap.size+1,3,none⟩=some (.slice P.A i P.c)∧W'.cell? ⟨w.heap.size+1,4,none⟩=some (.bool xl)∧W'.cell? ⟨w.heap.size+1,5,none⟩=some (.int .i64 xk)∧W'.cell? ⟨w.heap.size+1,6,none⟩=some (.string xT)∧W'.cell? ⟨w.heap.size+1,7,none⟩=some (.int .i64 xta)∧W'.cell? ⟨w.heap.size+1,8,none⟩=some (.int .i64 xa)∧W'.cell? ⟨w.heap.size+1,9,none⟩=some (.slice P.B xn P.d))):=HKp.out
    have hsz:w.heap.size+1<wr.drew.heap.size:=by have:=HW1s.out;have:=hbd.size;omega
    have HSz:=Lib.hid hsz
    have HKq:Hid (∀ W,Below wr.drew.heap.size wr.drew W→w.heap.size+1<W.heap.size):=fun W hW=>Nat.lt_of_lt_of_le hsz hW.size
    have hmf:∀ (fn:Fn) (first cap:Array Value) (w:World),(Instr.makeFunc fn first cap).run Tryz.prog w=.ok (.func fn first cap) w:=fun _ _ _ _=>rfl
    clear hb4 hany hbr hbd HI HPar HId HSort HB4 HK4 HLm HM3 HBd HPN HBo HBody HKp HLen HZ HZl HW1s HKB HKd HSame hlt hsz
    go_wp2_with fail
    go_region_held3 (fun W=>W.cell? ⟨w.heap.size,0,none⟩=some (.pointer (some ⟨M,0,none⟩))∧W.cell? ⟨w.heap.size+1,3,none⟩=some (.slice P.A i P.c)∧W.cell? ⟨w.heap.size+1,4,none⟩=some (.bool xl)∧W.cell? ⟨w.heap.size+1,5,none⟩=some (.int .i64 xk)∧W.cell? ⟨w.heap.size+1,6,none⟩=some (.string xT)∧W.cell? ⟨w.heap.size+1,7,none⟩=some (.int .i64 xta)∧W.cell? ⟨w.heap.size+1,8,none⟩=some (.int .i64 xa)∧W.cell? ⟨w.heap.size+1,9,none⟩=some (.slice P.B xn P.d))
     (first|(with_reducible exact HSd.out)|(with_reducible assumption)|(with_reducible exact HKpd.out _ _ HSz.out (by assumption) (by assumption))|(with_reducible exact HKpd.out _ _ (HKq.out _ (by assumption)) (by assumption) (by assumption)))
     (first|(go_at_call 40;(with_reducible refine HPNd.out.mono ?_);rintro e w5 ⟨⟨A5,c5,rfl,hr5⟩,b5⟩)|(go_at_call 47;(with_reducible refine(HBod.out _ _ _ ?_ ?_).mono ?_);assumption;assumption;rintro e w6 ⟨rfl,b6,ho6⟩)|(go_at_call 64;(with_reducible refine(HBdd.out _ _ ?_ ?_ ?_).mono ?_);assumption;assumption;assumption;rintro e w7 ⟨⟨rfl,l7⟩,hk7⟩))
    all_goals
     have L7:=Lib.hid l7
     clear l7
     go_wp2
     go_ret
     exact⟨rfl,L7.out⟩
theorem cut_x {A:Option Addr} {n c:Nat} (W:World) (hn:1≤n):(Instr.slice 25 (.slice A n c) (some (.int .i64 1)) none none).run Tryz.prog W=.ok (.slice (if c=1 then A else A.map (·.add 6)) (n-1) (c-1)) W:=by
 have hz:(sizeOf (Tryz.prog.elem 25)).run Tryz.prog W=.ok 6 W:=by kernel_rfl
 have:=run_slice_l (P:=Tryz.prog) W 25 A n c (by kernel_rfl) .i64 ((1:Nat):Int) (by omega) (by omega)
 rw[hz] at this
 simp only[Result.andThen,sliced,Int.toNat_natCast,Nat.one_mul] at this
 exact this
theorem TreeL.tail_ {w:World} {G:Nat→Nat→Prop} {A:Option Addr} {x:Sx} {l:List Sx} {c:Nat} (h:TreeL w G A (x::l)) (hc:l.length+1≤c):TreeL w G (if c=1 then A else A.map (·.add 6)) l:=by
 cases h with
 |cons b off x l A' c' h1 h2 h3 h4 h5=>
  split
  ·have:l=[]:=List.length_eq_zero_iff.1 (by omega)
   subst this
   exact .nil _
  ·show TreeL w G (some ((⟨b,off,none⟩:Addr).add 6)) l
   rw[addr_add]
   exact h5
theorem kfnEnds (E:Mk.Env) (hE:E.Ok) (w:World) (M:Nat) (Y:Mk.Lay) (s:Ms) (bs:List Fr) (f:Fr) (j b1 b2:Nat) (A:Option Addr) (n c:Nat) (l:List Int) (h:Mk.Rep E w M Y s) (hf:s.fr=bs++[f]) (hs:Mk.Small s) (hj:j<E.n)
  (l1:Lies w b1 74 #[.pointer (some ⟨M,0,none⟩)]) (l2:Lies w b2 218 #[.int .i64 2,.int .i64 (j:Int)]) (hA:NumS w A n l) (hw:∀ z∈l,0≤z∧z≤30000) (hn:n≤1000)
  (hpl:∀ d,E.D[j]?=some d→d.par.length≤1000∧∀ p∈d.par,p.1.size≤maxLen):
  Calls Tryz.prog 165 #[.slice A n c,.pointer (some ⟨b1,0,none⟩),.pointer (some ⟨b2,0,none⟩)] w fun x w'=>Mk.Ans E w M Y (Mk.ends E.D s (.fn j) l) x w':=by
 have c1:w.cell? ⟨b1,0,none⟩=some (.pointer (some ⟨M,0,none⟩)):=by rw[l1.cell];rfl
 have c2:w.cell? ⟨b2,1,none⟩=some (.int .i64 (j:Int)):=by rw[l2.cell];rfl
 have z1:=l1.lt
 have z2:=l2.lt
 have HC:=Lib.hid (kcall E hE w M Y s bs f j A n c l h hf hs hj hA hw hn hpl)
 obtain⟨r,hr⟩:∃ r,Mk.call E.D s j l=r:=⟨_,rfl⟩
 have hr2:Mk.ends E.D s (.fn j) l=r:=hr
 rw[hr] at HC
 rw[hr2]
 clear h hf hs hj l1 l2 hA hw hpl hr hr2
 go_enter Tryz.func165,Tryz.ntmps165
 go_wp2_with fail
 refine HC.out.mono ?_
 rintro e w1 ⟨rfl,v⟩
 have V:=Lib.hid v
 clear HC v c1 c2
 go_wp2
 go_ret
 exact⟨rfl,V.out⟩
theorem kletEnds (E:Mk.Env) (w:World) (M:Nat) (Y:Mk.Lay) (s:Ms) (bs:List Fr) (f:Fr) (names:List ByteArray) (t bx:Sx) (b1 b2 b3:Nat) (nA:Option Addr) (nc:Nat) (pA:Option Addr) (pc:Nat) (A:Option Addr) (c:Nat) (l:List Int) (h:Mk.Rep E w M Y s) (hf:s.fr=bs++[f]) (hs:Mk.Small s)
  (g1:¬Mk.foot M Y b1) (g2:¬Mk.foot M Y b2) (g3:¬Mk.foot M Y b3) (l1:Lies w b1 74 #[.pointer (some ⟨M,0,none⟩)]) (l2:Lies w b2 88 #[.slice nA names.length nc]) (hN:Rd w (fun k=>¬Mk.foot M Y k) nA names.length nc (names.map .string))
  (l3:Lies w b3 25 #[.slice pA 2 pc]) (hP:TreeL w (fun b _=>¬Mk.foot M Y b) pA [bx,t]) (hpc:2≤pc∧pc≤maxLen) (hA:NumS w A names.length l) (hw:∀ z∈l,(Lit.int .i64 z).wf=true) (hns:∀ s∈names,s.size≤maxLen) (hn:names.length≤1000):
  Calls Tryz.prog 186 #[.slice A names.length c,.pointer (some ⟨b1,0,none⟩),.pointer (some ⟨b2,0,none⟩),.pointer (some ⟨b3,0,none⟩)] w fun x w'=>Mk.Ans E w M Y (Mk.ends E.D s (.bind names t) l) x w':=by
 obtain⟨i0,hi,hz0,hz1,hz2⟩:=info_parts infoSc
 obtain⟨w0,hw0⟩:∃ w0,w0=w.drew:=⟨_,rfl⟩
 have hb0:Below w.heap.size w w0:=by rw[hw0];exact⟨rfl,rfl,rfl,Nat.le_refl _,fun _ _=>rfl⟩
 have h0:Mk.Rep E w0 M Y s:=h.below hb0
 have HB:Hid (Calls Tryz.prog 47 #[.slice nA names.length nc,.slice A names.length c] w0 fun e w'=>e=.returned (.map (some w0.heap.size))∧Below w0.heap.size w0 w'∧∃ q D,w'.ownsMap Tryz.prog 9 (plainElem (H:=Unit) Tryz.prog 3) w0.heap.size q D∧TellS D (Bd.bound (List.zip names l))):=
  kbound w0 nA names.length nc A c names l (hN.below hb0) (hA.below hb0) hw hns (by omega)
 have hS0:∀ W,Below w0.heap.size w0 W→(W.cell? ⟨b1,0,none⟩=some (.pointer (some ⟨M,0,none⟩))∧W.cell? ⟨b2,0,none⟩=some (.slice nA names.length nc)∧W.cell? ⟨M,4,none⟩=some (.slice Y.sA s.sc.length Y.sc)∧W.cell? ⟨b3,0,none⟩=some (.slice pA 2 pc)):=fun W hW=>by
  have hb:=hb0.trans (hW.mono hb0.size)
  have m1:=(hb.block _ l1.lt).trans l1
  have m2:=(hb.block _ l2.lt).trans l2
  have m3:=(hb.block _ l3.lt).trans l3
  exact⟨by rw[Lies.cell (t:=74) (cs:=#[.pointer (some ⟨M,0,none⟩)]) m1];rfl,by rw[Lies.cell (t:=88) (cs:=#[.slice nA names.length nc]) m2];rfl,by rw[(h.below hb).own.cell];rfl,by rw[Lies.cell (t:=25) (cs:=#[.slice pA 2 pc]) m3];rfl⟩
 have HI:Hid (∀ w1 o,Below w0.heap.size w0 w1→(w1.alloc o).ownsRow 0 127 3 (.slice Y.sA s.sc.length Y.sc) s.sc.length (Y.SL.flatMap scells9)):=fun w1 o hb=>((h0.below hb).alloc o).srow
 have HW:Hid (∀ w1 o A2 c2 w2,Below w0.heap.size w0 w1→(∃ q D,w1.ownsMap Tryz.prog 9 (plainElem (H:=Unit) Tryz.prog 3) w0.heap.size q D∧TellS D (Bd.bound (List.zip names l)))→(w1.alloc o).grownBy w2 (Value.slice Y.sA s.sc.length Y.sc).ownBlock→w2.ownsRow 0 127 3 (.slice A2 (s.sc.length+1) c2) (s.sc.length+1) (Y.SL.flatMap scells9++[.map (some w0.heap.size),.bool false,.int .i64 0])→
   ((Value.slice A2 (s.sc.length+1) c2).ownBlock=(Value.slice Y.sA s.sc.length Y.sc).ownBlock∨(Value.slice A2 (s.sc.length+1) c2).ownBlock=some (w1.alloc o).heap.size)→
   (w2.cell? ⟨b1,0,none⟩=some (.pointer (some ⟨M,0,none⟩))∧w2.cell? ⟨b2,0,none⟩=some (.slice nA names.length nc)∧w2.cell? ⟨M,4,none⟩=some (.slice Y.sA s.sc.length Y.sc)∧w2.cell? ⟨b3,0,none⟩=some (.slice pA 2 pc))∧M<w2.heap.size∧w2.frozen? ⟨M,4,none⟩=false∧
   ((w2.setCell ⟨M,4,none⟩ (.slice A2 (s.sc.length+1) c2)).cell? ⟨b1,0,none⟩=some (.pointer (some ⟨M,0,none⟩))∧(w2.setCell ⟨M,4,none⟩ (.slice A2 (s.sc.length+1) c2)).cell? ⟨b3,0,none⟩=some (.slice pA 2 pc))∧
   Calls Tryz.prog 160 #[.pointer (some ⟨M,0,none⟩),.slice (if pc=1 then pA else pA.map (·.add 6)) 1 (pc-1),.func (.func 187) #[.pointer (some ⟨M,0,none⟩)] #[]] (w2.setCell ⟨M,4,none⟩ (.slice A2 (s.sc.length+1) c2)).drew fun e w'=>Mk.Ans E w M Y (Mk.ends E.D s (.bind names t) l) e w'∧(w'.cell? ⟨b1,0,none⟩=some (.pointer (some ⟨M,0,none⟩))∧w'.cell? ⟨b3,0,none⟩=some (.slice pA 2 pc))):=fun w1 o A2 c2 w2 hb1 hown q1 q2 q3=>by
  obtain⟨q,D,ho,ht⟩:=hown
  rw[blk_eq] at q1
  rw[blk_eq,blk_eq] at q3
  have hb:Below w.heap.size w (w1.alloc o):=hb0.trans ((hb1.alloc hb1.size o).mono hb0.size)
  have h2:Mk.Rep E (w1.alloc o) M Y s:=h.below hb
  have hs2:ScAs (w1.alloc o) (fun k=>¬Mk.foot M Y k) (.map (some w0.heap.size)) ⟨List.zip names l,false,0⟩:=.inr ⟨_,q,D,rfl,fun e=>by have:=h0.lt _ e;omega,((Turn.refl (fun _=>False) w1).alloc o).map ho id,ht⟩
  have hleft:=h2.scope (v:=.map (some w0.heap.size)) (x:=⟨List.zip names l,false,0⟩) q1 q2 q3 hs2
  have tg:Turn (fun k=>blkOf Y.sA=some k) (w1.alloc o) w2:=Turn.of_grown q1 fun _ e _=>e
  have hnf:∀ k,¬Mk.foot M Y k→¬blkOf Y.sA=some k:=fun k hk e=>hk (.inr (.inr (.inr (.inl e))))
  have m1:=(hb.block _ l1.lt).trans l1
  have m2:=(hb.block _ l2.lt).trans l2
  have m3:=(hb.block _ l3.lt).trans l3
  have hM2:=tg.lies h2.own h2.M_s
  obtain⟨Y2,r2,t2,y2,a2⟩:=hleft.apart
  have n1:=t2.lies (show Lies (w1.alloc o) b1 74 #[.pointer (some ⟨M,0,none⟩)] from m1) g1
  have n3:=t2.lies (show Lies (w1.alloc o) b3 25 #[.slice pA 2 pc] from m3) g3
  have hlen:(s.sc++[(⟨List.zip names l,false,0⟩:Scp)]).length=s.sc.length+1:=by simp
  have hdr:Below (w2.setCell ⟨M,4,none⟩ (.slice A2 (s.sc.length+1) c2)).heap.size (w2.setCell ⟨M,4,none⟩ (.slice A2 (s.sc.length+1) c2)) (w2.setCell ⟨M,4,none⟩ (.slice A2 (s.sc.length+1) c2)).drew:=⟨rfl,rfl,rfl,Nat.le_refl _,fun _ _=>rfl⟩
  have hx:=((hP.turn9 (F:=fun _=>False) (G':=fun k=>¬Mk.foot M Y k) (Turn.of_below hb) fun k _ hk=>⟨id,hk⟩).turn9 t2 a2).tail_ (c:=pc) (by have:=hpc.1;simp;omega)
  have hc:=knest E _ M Y2 _ bs f _ (pc-1) _ [t] .first (r2.below hdr) hf (by have:=hs.fr;rw[hf,List.length_append] at this;omega) (by show(s.sc++[_]).length≤_;rw[hlen];have:=hs.sc;omega) (by have:=(hs.ids f (by rw[hf];simp)).2;omega) ⟨by have:=hpc.1;simp;omega,by have:=hpc.2;omega⟩ (hx.kept hdr) rfl
  refine⟨⟨by rw[(tg.lies (show Lies (w1.alloc o) b1 74 #[.pointer (some ⟨M,0,none⟩)] from m1) (hnf _ g1)).cell];rfl,by rw[(tg.lies (show Lies (w1.alloc o) b2 88 #[.slice nA names.length nc] from m2) (hnf _ g2)).cell];rfl,by rw[hM2.cell];rfl,by rw[(tg.lies (show Lies (w1.alloc o) b3 25 #[.slice pA 2 pc] from m3) (hnf _ g3)).cell];rfl⟩,hM2.lt,hM2.free 4,⟨by rw[n1.cell];rfl,by rw[n3.cell];rfl⟩,hc.mono fun e w' ⟨e1,e2⟩=>?_⟩
  have e3:=((e2.up hdr).after t2 y2).up hb
  exact⟨⟨e1,e3⟩,by rw[(Mk.lies_left e3 l1 g1).cell];rfl,by rw[(Mk.lies_left e3 l3 g3).cell];rfl⟩
 have HK:Hid (∀ W,Below w0.heap.size w0 W→(W.cell? ⟨b1,0,none⟩=some (.pointer (some ⟨M,0,none⟩))∧W.cell? ⟨b2,0,none⟩=some (.slice nA names.length nc)∧W.cell? ⟨M,4,none⟩=some (.slice Y.sA s.sc.length Y.sc)∧W.cell? ⟨b3,0,none⟩=some (.slice pA 2 pc))):=hS0
 have HK2:Hid (∀ W o,Below w0.heap.size w0 W→((W.alloc o).cell? ⟨b1,0,none⟩=some (.pointer (some ⟨M,0,none⟩))∧(W.alloc o).cell? ⟨b2,0,none⟩=some (.slice nA names.length nc)∧(W.alloc o).cell? ⟨M,4,none⟩=some (.slice Y.sA s.sc.length Y.sc)∧(W.alloc o).cell? ⟨b3,0,none⟩=some (.slice pA 2 pc))):=fun W o hW=>hS0 _ (hW.alloc hW.size o)
 have HM:Hid (∀ W,Below w0.heap.size w0 W→M<W.heap.size∧∀ o,M<(W.alloc o).heap.size):=fun W hW=>⟨(h0.below hW).own.lt,fun o=>((h0.below hW).alloc o).own.lt⟩
 have hM0:=h0.own.lt
 obtain⟨m,hmm⟩:∃ m,s.sc.length=m:=⟨_,rfl⟩
 obtain⟨L,hL⟩:∃ L:List Value,Y.SL.flatMap scells9=L:=⟨_,rfl⟩
 obtain⟨sA,hsA⟩:∃ sA,Y.sA=sA:=⟨_,rfl⟩
 obtain⟨sc,hsc2⟩:∃ sc,Y.sc=sc:=⟨_,rfl⟩
 obtain⟨r,hr⟩:∃ r,Mk.ends E.D s (.bind names t) l=r:=⟨_,rfl⟩
 obtain⟨n,hnn⟩:∃ n,names.length=n:=⟨_,rfl⟩
 obtain⟨p1,hp1⟩:∃ p1,(if pc=1 then pA else pA.map (·.add 6))=p1:=⟨_,rfl⟩
 have hone2:∀ u∈([.map (some w0.heap.size),.bool false,.int .i64 0]:List Value),u.oneCell'=true:=by
  intro u hu
  simp at hu
  rcases hu with rfl|rfl|rfl <;> rfl
 have hn1:m+1≤maxLen:=by have:=hs.sc;unfold maxLen;omega
 have hn8:(m+1)*24≤140737488355328:=by have:=hs.sc;omega
 have hcut:∀ W:World,(Instr.slice 25 (.slice pA 2 pc) (some (.int .i64 1)) none none).run Tryz.prog W=.ok (.slice p1 1 (pc-1)) W:=fun W=>by
  rw[←hp1]
  exact cut_x W (by omega)
 have hmf:∀ (fn:Fn) (first cap:Array Value) (w:World),(Instr.makeFunc fn first cap).run Tryz.prog w=.ok (.func fn first cap) w:=fun _ _ _ _=>rfl
 rw[hL] at HW HI
 rw[hr,hp1] at HW
 rw[hr]
 rw[hmm,hsA,hsc2] at HW HI HK HK2
 rw[hnn] at HW HK HB HK2 ⊢
 clear h hf hs hb0 h0 hS0 g1 g2 g3 l1 l2 l3 hN hP hpc hA hw hns hn hmm hL hsA hsc2 hr hnn hp1
 subst hw0
 go_enter Tryz.func186,Tryz.ntmps186
 go_wp2_with fail
 have hm1:=HK.out w.drew (Below.refl _ _)
 obtain⟨m1,m2,m4,m3⟩:=hm1
 go_cut [16] (fun _ W=>(W.cell? ⟨b1,0,none⟩=some (.pointer (some ⟨M,0,none⟩))∧W.cell? ⟨b3,0,none⟩=some (.slice pA 2 pc))∧Calls Tryz.prog 160 #[.pointer (some ⟨M,0,none⟩),.slice p1 1 (pc-1),.func (.func 187) #[.pointer (some ⟨M,0,none⟩)] #[]] W.drew fun e w'=>Mk.Ans E w M Y r e w'∧(w'.cell? ⟨b1,0,none⟩=some (.pointer (some ⟨M,0,none⟩))∧w'.cell? ⟨b3,0,none⟩=some (.slice pA 2 pc)))
 case first=>
  go_region_law (first
   |(refine step_append_wide rfl (.tmp 10) (.tmp 15) 121 rfl 0 127 i0 (.agg #[.map none,.bool false,.int .i64 0]) 3 24 Tryz.underlying121 hi hz0 hz1 hz2 rfl (by decide) (.slice sA m sc) m L (by simp[Act.eval,Act.put]) (HI.out _ _ (by assumption)) _ 1 1 [.map (some w.heap.size),.bool false,.int .i64 0] (by simp[Act.eval,Act.put]) rfl (new_at rfl) hone2 hn1 hn8 (Nat.zero_le _) ?_;intro A2 c2 w2 o2 q2 a2;obtain⟨⟨s1,s2,s4,s3⟩,z2,f2,x2,n2⟩:=HW.out _ _ A2 c2 w2 (by assumption) (by assumption) q2 o2 a2;have X2:=Lib.hid x2;have N2:=Lib.hid n2;clear o2 q2 a2 x2 n2)
   |(go_simp;go_at_call 47;(with_reducible refine HB.out.mono ?_);rintro e w1 ⟨rfl,hbw,how⟩;obtain⟨k1,k2,k4,k3⟩:=HK.out w1 hbw;obtain⟨hMw,hMa⟩:=HM.out w1 hbw;have ka:=HK2.out w1 (.cells #[.map (some w.heap.size),.bool false,.int .i64 0] 127) hbw;obtain⟨j1,j2,j4,j3⟩:=ka))
  all_goals
   go_wp2_with fail
   go_meet
   exact⟨X2.out,N2.out⟩
 case rest=>
  obtain⟨⟨r1,r3⟩,hc⟩:=hcut
  have HC:=Lib.hid hc
  have HS:Hid (wc.drew.cell? ⟨b1,0,none⟩=some (.pointer (some ⟨M,0,none⟩))∧wc.drew.cell? ⟨b3,0,none⟩=some (.slice pA 2 pc)):=⟨r1,r3⟩
  clear hc HK HK2 HI HB HM HW m1 m2 m4 m3
  go_wp2_with fail
  go_region_held3 (fun W=>W.cell? ⟨b1,0,none⟩=some (.pointer (some ⟨M,0,none⟩))∧W.cell? ⟨b3,0,none⟩=some (.slice pA 2 pc))
   (first|exact HS.out|assumption)
   (first|(go_at_call 160;refine HC.out.mono ?_;rintro e w3 ⟨⟨rfl,v⟩,hk3⟩)|fail)
  all_goals
   have V:=Lib.hid v
   clear v
   go_wp2
   go_ret
   exact⟨rfl,V.out⟩
end Go.Proofs.YtcgaeknikfaghaaGreatDoor
