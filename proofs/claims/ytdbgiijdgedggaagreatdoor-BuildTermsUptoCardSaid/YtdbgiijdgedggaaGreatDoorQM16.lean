import Derived.Test.YtdbgiijdgedggaaGreatDoorQM15
set_option linter.unusedSimpArgs false
set_option linter.unusedVariables false
set_option maxRecDepth 100000
set_option maxHeartbeats 25600000
namespace Go.Proofs.YtdbgiijdgedggaaGreatDoor
open Go.RowKit
def Tm.pz:List (List Nat):=List.replicate 6 [0,0,0,0,0,0]++
 [[1,1,1,0,0,1],[2,200,1,1,1,1],[2,200,1,1,1,1],[2,200,1,1,1,1],[2,200,1,1,1,1],[2,200,0,0,0,1],[2,200,0,0,0,1],[3,3,1,0,0,0],
  [1,1,2,0,0,2],[2,200,2,2,2,2],[2,200,2,2,2,2],[2,200,2,2,2,2],[2,200,2,2,2,1],[2,200,2,2,2,1],[2,200,2,2,2,1],[2,200,2,2,2,1],
  [2,200,3,3,3,3],[1,1,3,0,0,2],[2,2,3,2,0,3],[3,3,3,2,2,3],[2,2,3,3,0,1],[2,2,3,3,0,1],[2,2,3,3,0,1],[3,3,3,3,2,2],[3,3,3,3,3,3]]
def Tm.fix (s:Nat) (last:Int):Int:=if s=0 then last else(s:Int)
structure Tm.kd (w:List Nat) (more:Bool) (own:Nat) (a0 a1 p0 p1 p2 ow:Nat):Prop where
 len:a0=w.length
 most:a1=if more=true then 200 else w.length
 pos:0<w.length/\w.length<=3
 parts:∀ ss:List Int,(∀ s∈ss,1<=s/\s<=3)->¬(ss.length<w.length\/(w.length<ss.length/\more=false))->(Tm.fU w 0 63 (ss.map Tm.letter)=true↔∀ (i:Nat) s,ss[i]?=some s->s=Tm.fix (if i=0 then p0 else if i=1 then p1 else p2) (ss.getLast?.getD 0))
 Ez:∀ ss:List Int,(∀ s∈ss,1<=s/\s<=3)->ss≠[]->Tm.own own (ss.map Tm.letter)=Tm.fix ow (ss.getLast?.getD 0)
def Tm.code (c:Nat):Nat:=if c=66 then 1 else if c=73 then 2 else if c=83 then 3 else 0
theorem Tm.df {q last:Nat} {s:Int} (r:q=66\/q=73\/q=83) (h:1<=s/\s<=3) (l:Int):Tm.cG q last (Tm.letter s)=true↔s=Tm.fix (Tm.code q) l:=by
 have:s=1\/s=2\/s=3:=by omega
 rcases r with rfl|rfl|rfl <;> rcases this with rfl|rfl|rfl <;> simp[Tm.cG,Tm.letter,Tm.fix,Tm.code]
theorem Tm.tf {q:Nat} (I:q=66\/q=73\/q=83) (l:Int):∀ (r:List Int) (i last:Nat),(∀ s∈r,1<=s/\s<=3)->(Tm.fU [q,q] i last (r.map Tm.letter)=true↔∀ s∈r,s=Tm.fix (Tm.code q) l)
 |[],i,last,_=>by simp[Tm.fU]
 |s::r,i,last,h=>by
  have hw:Tm.want [q,q] i=q:=by
   unfold Tm.want
   rcases i with _|_|i
   ·rfl
   ·rfl
   ·simp[List.getD,show ¬(i+1+1<2) by omega]
  rw[GK,Tm.fU,GY,hw,Tm.df I (h s (by simp)) l,Tm.tf I l r (i+1) (Tm.letter s) (fun y hy=>h y (Gd _ hy))]
  simp
theorem Tm.ng:∀ (r:List Int) (i:Nat) (t:Int),0<i->1<=t/\t<=3->(∀ s∈r,1<=s/\s<=3)->(Tm.fU [97,61] i (Tm.letter t) (r.map Tm.letter)=true↔∀ s∈r,s=t)
 |[],i,t,_,_,_=>by simp[Tm.fU]
 |s::r,i,t,hi,ht,h=>by
  have hw:Tm.want [97,61] i=61:=by
   unfold Tm.want
   rcases i with _|_|i
   ·omega
   ·rfl
   ·simp[List.getD,show ¬(i+1+1<2) by omega]
  have hs:=h s (by simp)
  have J:Tm.cG 61 (Tm.letter t) (Tm.letter s)=true↔s=t:=by
   rw[<-Tm.kP hs.1 hs.2 ht.1 ht.2]
   unfold Tm.cG
   simp
  rw[GK,Tm.fU,GY,hw,J,Tm.ng r (i+1) s (by omega) hs (fun y hy=>h y (Gd _ hy))]
  constructor
  ·rintro⟨rfl,I⟩ y hy
   rcases FE.1 hy with rfl|hy
   ·rfl
   ·exact I y hy
  ·intro I
   have:=I s (by simp)
   subst this
   exact⟨rfl,fun y hy=>I y (Gd _ hy)⟩
theorem Bp {r:List Int} {p:Int->Prop}:(∀ s∈r,p s)↔∀ (i:Nat) s,r[i]?=some s->p s:=
 ⟨fun h i s hs=>h s (FP hs),fun h s hs=>by obtain⟨i,hi⟩:=Ic hs;exact h i s hi⟩
theorem Tm.fo {own:Nat} (h:own=66\/own=73\/own=83) (cs:List Nat) (l:Int):Tm.own own cs=Tm.fix (Tm.code own) l:=by
 unfold Tm.own
 rcases h with rfl|rfl|rfl <;> simp[Tm.dj,Tm.fix,Tm.code]
theorem Tm.row_one {q own:Nat} (J:q=66\/q=73\/q=83) (I:own=66\/own=73\/own=83) (L O:Nat):Tm.kd [q] false own 1 1 (Tm.code q) L O (Tm.code own):=
 ⟨rfl,rfl,by simp,fun r hs hl=>by
  obtain⟨s,rfl⟩:∃ s,r=[s]:=by
   match r,hl with
   |[],hl=>exact absurd (Or.inl (by simp)) hl
   |[s],_=>exact⟨s,rfl⟩
   |_::_::_,hl=>exact absurd (Or.inr ⟨by simp,rfl⟩) hl
  have:=Tm.df (last:=63) J (hs s (by simp)) s
  rw[GK,GL,Tm.fU,Tm.fU,Bool.and_true,show Tm.want [q] 0=q from rfl,this]
  constructor
  ·intro h i y hy
   rcases i with _|i
   ·obtain rfl:s=y:=by simpa using hy
    exact h
   ·simp at hy
  ·intro h
   exact h 0 s rfl,fun r _ _=>Tm.fo I _ _⟩
theorem Tm.js {q own:Nat} (I:q=66\/q=73\/q=83) (r:own=66\/own=73\/own=83):Tm.kd [q,q] true own 2 200 (Tm.code q) (Tm.code q) (Tm.code q) (Tm.code own):=
 ⟨rfl,rfl,by simp,fun h hs _=>by
  rw[Tm.tf I (h.getLast?.getD 0) h 0 63 hs,Bp]
  simp,fun h _ _=>Tm.fo r _ _⟩
theorem Tm.vk:Tm.kd [97,61] true 66 2 200 0 0 0 1:=
 ⟨rfl,rfl,by simp,fun J hs hl=>by
  obtain⟨s,J,rfl⟩:∃ s r,J=s::r:=by
   match J,hl with
   |[],hl=>exact absurd (Or.inl (by simp)) hl
   |s::r,_=>exact⟨s,r,rfl⟩
  have L:=hs s (by simp)
  have V:Tm.cG (Tm.want [97,61] 0) 63 (Tm.letter s)=true:=by simp[Tm.cG,Tm.want]
  rw[GK,Tm.fU,GY,V,Tm.ng J 1 s (by decide) L (fun y hy=>hs y (Gd _ hy))]
  have hf:∀ i (l:Int),Tm.fix (if i=0 then 0 else if i=1 then 0 else 0) l=l:=fun i l=>by simp[Tm.fix]
  obtain⟨z,hz⟩:∃ z,(s::J).getLast?.getD 0=z:=⟨_,rfl⟩
  have O:z∈s::J:=by
   rw[List.getLast?_eq_some_getLast (by simp),G0] at hz
   rw[<-hz]
   exact List.getLast_mem _
  rw[hz]
  constructor
  ·rintro⟨_,h⟩ i y hy
   rw[hf]
   have I:∀ t∈s::J,t=s:=fun t ht=>by
    rcases FE.1 ht with rfl|ht
    ·rfl
    ·exact h t ht
   rw[I y (FP hy),I z O]
  ·intro h
   refine⟨rfl,fun y hy=>?_⟩
   have Q:=h 0 s rfl
   obtain⟨i,hi⟩:=Ic (Gd s hy)
   have U:=h i y hi
   rw[hf] at Q U
   rw[Q,U],fun J _ _=>Tm.fo (.inl rfl) _ _⟩
theorem Tm.zO:Tm.kd [66,97,61] false 61 3 3 1 0 0 0:=
 ⟨rfl,rfl,by simp,fun I hs hl=>by
  obtain⟨a,b,c,rfl⟩:∃ a b c,I=[a,b,c]:=by
   match I,hl with
   |[],hl=>exact absurd (Or.inl (by simp)) hl
   |[_],hl=>exact absurd (Or.inl (by simp)) hl
   |[_,_],hl=>exact absurd (Or.inl (by simp)) hl
   |[a,b,c],_=>exact⟨a,b,c,rfl⟩
   |_::_::_::_::_,hl=>exact absurd (Or.inr ⟨by simp,rfl⟩) hl
  have ha:=hs a (by simp)
  have hb:=hs b (by simp)
  have hc:=hs c (by simp)
  have L:=Tm.df (q:=66) (last:=63) (.inl rfl) ha c
  have O:Tm.cG 97 (Tm.letter a) (Tm.letter b)=true:=by simp[Tm.cG]
  have Q:Tm.cG 61 (Tm.letter b) (Tm.letter c)=true↔c=b:=by
   rw[<-Tm.kP hc.1 hc.2 hb.1 hb.2]
   simp[Tm.cG]
  simp only[GK,GL,Tm.fU,Bool.and_true,GY,show Tm.want [66,97,61] 0=66 from rfl,show Tm.want [66,97,61] (0+1)=97 from rfl,show Tm.want [66,97,61] (0+1+1)=61 from rfl,L,O,Q,true_and]
  have hl:([a,b,c]:List Int).getLast?.getD 0=c:=rfl
  rw[hl]
  constructor
  ·rintro⟨U,V⟩ i y hy
   rcases i with _|_|_|i
   ·obtain rfl:a=y:=by simpa using hy
    exact U
   ·obtain rfl:b=y:=by simpa using hy
    simp[Tm.fix,V]
   ·obtain rfl:c=y:=by simpa using hy
    simp[Tm.fix]
   ·simp at hy
  ·intro h
   refine⟨h 0 a rfl,?_⟩
   have:=h 1 b rfl
   simpa [Tm.fix,eq_comm] using this,fun I hs J=>by
  obtain⟨z,hz⟩:∃ z,I.getLast?=some z:=⟨_,List.getLast?_eq_some_getLast J⟩
  have r:z∈I:=List.mem_of_getLast? hz
  unfold Tm.own
  rw[Fx rfl,List.getLast?_map,hz]
  simp only[GZ,G0]
  rw[Tm.gI (hs z r).1 (hs z r).2]
  simp[Tm.fix]⟩
theorem Tm.tF {q r own:Nat} (V:q=66\/q=73\/q=83) (X:r=66\/r=73\/r=83) (U:own=66\/own=73\/own=83) (Z:Nat):Tm.kd [q,r] false own 2 2 (Tm.code q) (Tm.code r) Z (Tm.code own):=
 ⟨rfl,rfl,by simp,fun I hs hl=>by
  obtain⟨a,b,rfl⟩:∃ a b,I=[a,b]:=by
   match I,hl with
   |[],hl=>exact absurd (Or.inl (by simp)) hl
   |[_],hl=>exact absurd (Or.inl (by simp)) hl
   |[a,b],_=>exact⟨a,b,rfl⟩
   |_::_::_::_,hl=>exact absurd (Or.inr ⟨by simp,rfl⟩) hl
  have J:=Tm.df (last:=63) V (hs a (by simp)) b
  have L:=Tm.df (last:=Tm.letter a) X (hs b (by simp)) b
  simp only[GK,GL,Tm.fU,Bool.and_true,GY,show Tm.want [q,r] 0=q from rfl,show Tm.want [q,r] (0+1)=r from rfl,J,L]
  have hl:([a,b]:List Int).getLast?.getD 0=b:=rfl
  rw[hl]
  constructor
  ·rintro⟨O,Q⟩ i y hy
   rcases i with _|_|i
   ·obtain rfl:a=y:=by simpa using hy
    exact O
   ·obtain rfl:b=y:=by simpa using hy
    exact Q
   ·simp at hy
  ·intro h
   exact⟨h 0 a rfl,h 1 b rfl⟩,fun I _ _=>Tm.fo U _ _⟩
theorem Tm.jM {q r t own:Nat} (Z:q=66\/q=73\/q=83) (hr:r=66\/r=73\/r=83) (ht:t=66\/t=73\/t=83) (X:own=66\/own=73\/own=83):Tm.kd [q,r,t] false own 3 3 (Tm.code q) (Tm.code r) (Tm.code t) (Tm.code own):=
 ⟨rfl,rfl,by simp,fun I hs hl=>by
  obtain⟨a,b,c,rfl⟩:∃ a b c,I=[a,b,c]:=by
   match I,hl with
   |[],hl=>exact absurd (Or.inl (by simp)) hl
   |[_],hl=>exact absurd (Or.inl (by simp)) hl
   |[_,_],hl=>exact absurd (Or.inl (by simp)) hl
   |[a,b,c],_=>exact⟨a,b,c,rfl⟩
   |_::_::_::_::_,hl=>exact absurd (Or.inr ⟨by simp,rfl⟩) hl
  have J:=Tm.df (last:=63) Z (hs a (by simp)) c
  have L:=Tm.df (last:=Tm.letter a) hr (hs b (by simp)) c
  have O:=Tm.df (last:=Tm.letter b) ht (hs c (by simp)) c
  simp only[GK,GL,Tm.fU,Bool.and_true,GY,show Tm.want [q,r,t] 0=q from rfl,show Tm.want [q,r,t] (0+1)=r from rfl,show Tm.want [q,r,t] (0+1+1)=t from rfl,J,L,O]
  have hl:([a,b,c]:List Int).getLast?.getD 0=c:=rfl
  rw[hl]
  constructor
  ·rintro⟨Q,U,V⟩ i y hy
   rcases i with _|_|_|i
   ·obtain rfl:a=y:=by simpa using hy
    exact Q
   ·obtain rfl:b=y:=by simpa using hy
    exact U
   ·obtain rfl:c=y:=by simpa using hy
    exact V
   ·simp at hy
  ·intro h
   exact⟨h 0 a rfl,h 1 b rfl,h 2 c rfl⟩,fun I _ _=>Tm.fo X _ _⟩
theorem Tm.Di {op:Int} (U:0<=op) (V:op<31):∃ a0 h J L O r,Tm.pz[op.toNat]?=some [a0,h,J,L,O,r]/\a0<=200/\h<=200/\J<=3/\L<=3/\O<=3/\r<=3/\((h=0/\Tm.asks op=none)\/(0<h/\∃ w more own,Tm.asks op=some (w,more,own)/\Tm.kd w more own a0 h J L O r)):=by
 have B:(66:Nat)=66\/(66:Nat)=73\/(66:Nat)=83:=by decide
 have I:(73:Nat)=66\/(73:Nat)=73\/(73:Nat)=83:=by decide
 have S:(83:Nat)=66\/(83:Nat)=73\/(83:Nat)=83:=by decide
 obtain⟨o,rfl⟩:∃ o:Nat,op=o:=⟨op.toNat,by omega⟩
 have Q:o<31:=by omega
 match o,Q with
 |0,_|1,_|2,_|3,_|4,_|5,_=>exact⟨_,_,_,_,_,_,rfl,by decide,by decide,by decide,by decide,by decide,by decide,.inl ⟨rfl,by decide⟩⟩
 |6,_=>exact⟨_,_,_,_,_,_,rfl,by decide,by decide,by decide,by decide,by decide,by decide,.inr ⟨by decide,_,_,_,by decide,Tm.row_one B B 0 0⟩⟩
 |7,_|8,_|9,_|10,_=>exact⟨_,_,_,_,_,_,rfl,by decide,by decide,by decide,by decide,by decide,by decide,.inr ⟨by decide,_,_,_,by decide,Tm.js B B⟩⟩
 |11,_|12,_=>exact⟨_,_,_,_,_,_,rfl,by decide,by decide,by decide,by decide,by decide,by decide,.inr ⟨by decide,_,_,_,by decide,Tm.vk⟩⟩
 |13,_=>exact⟨_,_,_,_,_,_,rfl,by decide,by decide,by decide,by decide,by decide,by decide,.inr ⟨by decide,_,_,_,by decide,Tm.zO⟩⟩
 |14,_=>exact⟨_,_,_,_,_,_,rfl,by decide,by decide,by decide,by decide,by decide,by decide,.inr ⟨by decide,_,_,_,by decide,Tm.row_one I I 0 0⟩⟩
 |15,_|16,_|17,_=>exact⟨_,_,_,_,_,_,rfl,by decide,by decide,by decide,by decide,by decide,by decide,.inr ⟨by decide,_,_,_,by decide,Tm.js I I⟩⟩
 |18,_|19,_|20,_|21,_=>exact⟨_,_,_,_,_,_,rfl,by decide,by decide,by decide,by decide,by decide,by decide,.inr ⟨by decide,_,_,_,by decide,Tm.js I B⟩⟩
 |22,_=>exact⟨_,_,_,_,_,_,rfl,by decide,by decide,by decide,by decide,by decide,by decide,.inr ⟨by decide,_,_,_,by decide,Tm.js S S⟩⟩
 |23,_=>exact⟨_,_,_,_,_,_,rfl,by decide,by decide,by decide,by decide,by decide,by decide,.inr ⟨by decide,_,_,_,by decide,Tm.row_one S I 0 0⟩⟩
 |24,_=>exact⟨_,_,_,_,_,_,rfl,by decide,by decide,by decide,by decide,by decide,by decide,.inr ⟨by decide,_,_,_,by decide,Tm.tF S I S 0⟩⟩
 |25,_=>exact⟨_,_,_,_,_,_,rfl,by decide,by decide,by decide,by decide,by decide,by decide,.inr ⟨by decide,_,_,_,by decide,Tm.jM S I I S⟩⟩
 |26,_|27,_|28,_=>exact⟨_,_,_,_,_,_,rfl,by decide,by decide,by decide,by decide,by decide,by decide,.inr ⟨by decide,_,_,_,by decide,Tm.tF S S B 0⟩⟩
 |29,_=>exact⟨_,_,_,_,_,_,rfl,by decide,by decide,by decide,by decide,by decide,by decide,.inr ⟨by decide,_,_,_,by decide,Tm.jM S S I I⟩⟩
 |30,_=>exact⟨_,_,_,_,_,_,rfl,by decide,by decide,by decide,by decide,by decide,by decide,.inr ⟨by decide,_,_,_,by decide,Tm.jM S S S S⟩⟩
def iJ (w:World):Prop:=∀ (o:Nat) r,Tm.pz[o]?=some r->∀ (j v:Nat),r[j]?=some v->w.cell? ⟨0,o*6+j,none⟩=some (.int .u8 (v:Int))
theorem iJ.below {w w':World} (h:iJ w) (hb:Below w.heap.size w w'):iJ w':=fun o r I j v hv=>
 have:=h o r I j v hv
 (hb.cell (p:=⟨0,o*6+j,none⟩) (IE w _ this)).trans this
theorem km (s:Nat) (last:Int) (hs:s<=255) (w:World):Calls Tryz.prog 127 #[.int .u8 (s:Int),.int .i64 last] w fun e w'=>e=.returned (.int .i64 (Tm.fix s last))/\w'=w:=by
 by_cases h:s=0
 ·subst h
  rw[show Tm.fix 0 last=last from rfl]
  go_enter Tryz.func127,Tryz.ntmps127
  go_wp2
  go_ret
  exact⟨rfl,rfl⟩
 ·rw[show Tm.fix s last=(s:Int) by unfold Tm.fix;rw[FQ h]]
  have d0:((s:Int) == 0)=false:=Gx.2 (by omega)
  have hw:IntKind.i64.wrap (s:Int)=(s:Int):=GR _ (by omega)
  clear h
  go_enter Tryz.func127,Tryz.ntmps127
  go_wp2
  go_ret
  exact⟨rfl,rfl⟩
theorem Ce (a0 X J h r Z:Nat) (i:Nat) (last:Int) (h0:J<=3) (h1:h<=3) (h2:r<=3) (hi:i<=1000000) (w:World):
  Calls Tryz.prog 81 #[.agg #[.int .u8 (a0:Int),.int .u8 (X:Int),.int .u8 (J:Int),.int .u8 (h:Int),.int .u8 (r:Int),.int .u8 (Z:Int)],.int .i64 (i:Int),.int .i64 last] w fun e w'=>e=.returned (.int .i64 (Tm.fix (if i=0 then J else if i=1 then h else r) last))/\Below w.heap.size w w':=by
 obtain⟨W,hW⟩:∃ W,w.alloc (.cells #[.int .u8 (a0:Int),.int .u8 (X:Int),.int .u8 (J:Int),.int .u8 (h:Int),.int .u8 (r:Int),.int .u8 (Z:Int)] 149)=W:=⟨_,rfl⟩
 have U:Below w.heap.size w W:=by rw[<-hW];exact(Gp _ w).alloc (Fm _) _
 have L:aa W w.heap.size 149 #[.int .u8 (a0:Int),.int .u8 (X:Int),.int .u8 (J:Int),.int .u8 (h:Int),.int .u8 (r:Int),.int .u8 (Z:Int)]:=by rw[<-hW];exact aa.new w _ _
 have c2:=L.cell 2
 have c3:=L.cell 3
 have c4:=L.cell 4
 simp at c2 c3 c4
 have V:=Gn U
 rcases i with _|_|i
 ·have O:=Gn (km J last (by omega) W)
  have I:min (0:Int) 2=0:=rfl
  rw[Fx rfl]
  clear U L
  go_enter Tryz.func81,Tryz.ntmps81
  go_wp2_with (go_at_call 127;refine O.out.mono ?_;rintro e w1 ⟨rfl,rfl⟩)
  go_ret
  exact⟨rfl,V.out⟩
 ·have O:=Gn (km h last (by omega) W)
  have Q:(if 0+1=0 then J else if 0+1=1 then h else r)=h:=rfl
  rw[Q]
  have I:min (1:Int) 2=1:=rfl
  clear U L Q
  go_enter Tryz.func81,Tryz.ntmps81
  go_wp2_with (go_at_call 127;refine O.out.mono ?_;rintro e w1 ⟨rfl,rfl⟩)
  go_ret
  exact⟨rfl,V.out⟩
 ·have O:=Gn (km r last (by omega) W)
  have Q:(if i+1+1=0 then J else if i+1+1=1 then h else r)=r:=by rw[FQ (by omega),FQ (by omega)]
  rw[Q]
  obtain⟨k,hk⟩:∃ k,i+1+1=k:=⟨_,rfl⟩
  rw[hk]
  have ad:(2:Int)<=(k:Int):=by omega
  have I:min (k:Int) 2=2:=by omega
  clear U L Q hk
  go_enter Tryz.func81,Tryz.ntmps81
  go_wp2_with (go_at_call 127;refine O.out.mono ?_;rintro e w1 ⟨rfl,rfl⟩)
  go_ret
  exact⟨rfl,V.out⟩
theorem CY (a0 r I J L h:Nat) (last:Int) (Z:h<=3) (w:World):
  Calls Tryz.prog 83 #[.agg #[.int .u8 (a0:Int),.int .u8 (r:Int),.int .u8 (I:Int),.int .u8 (J:Int),.int .u8 (L:Int),.int .u8 (h:Int)],.int .i64 last] w fun e w'=>e=.returned (.int .i64 (Tm.fix h last))/\Below w.heap.size w w':=by
 obtain⟨W,U⟩:∃ W,w.alloc (.cells #[.int .u8 (a0:Int),.int .u8 (r:Int),.int .u8 (I:Int),.int .u8 (J:Int),.int .u8 (L:Int),.int .u8 (h:Int)] 149)=W:=⟨_,rfl⟩
 have O:Below w.heap.size w W:=by rw[<-U];exact(Gp _ w).alloc (Fm _) _
 have Q:aa W w.heap.size 149 #[.int .u8 (a0:Int),.int .u8 (r:Int),.int .u8 (I:Int),.int .u8 (J:Int),.int .u8 (L:Int),.int .u8 (h:Int)]:=by rw[<-U];exact aa.new w _ _
 have c5:=Q.cell 5
 simp at c5
 have V:=Gn O
 have X:=Gn (km h last (by omega) W)
 clear O Q
 go_enter Tryz.func83,Tryz.ntmps83
 go_wp2_with (go_at_call 127;refine X.out.mono ?_;rintro e w1 ⟨rfl,rfl⟩)
 go_ret
 exact⟨rfl,V.out⟩
theorem Tm.lK {l:List Nd} {q:Nat} {x:Nd} (h:l[q]?=some x):Tm.opAt l (q:Int)=x.op:=by
 unfold Tm.opAt
 rw[Ih,h]
 rfl
theorem Tm.vp {l:List Nd} {q s:Nat} {x y:Nd} {r:List Int} (h:l[q]?=some x) (I:x.op=14) (ha:x.a=(s:Int)::r) (hy:l[s]?=some y):Tm.isNum l (q:Int)=decide (y.op=4):=by
 unfold Tm.isNum
 rw[Tm.lK h,Ih,h,I]
 simp only[GZ,G0,ha,List.headD_cons]
 rw[Tm.lK hy]
 simp
theorem Tm.vI {l:List Nd} {q:Nat} {x:Nd} (h:l[q]?=some x) (r:x.op≠14):Tm.isNum l (q:Int)=decide (x.op=4):=by
 unfold Tm.isNum
 rw[Tm.lK h]
 simp[r]
theorem rD (w:World) (b:Nat) (F:Nat->Prop) (l:List Nd) (h:Bk w b F l) (hI:Tm.Inv l) (A:Option Addr) (n c:Nat) (a:List Int) (ha:aH w A n a) (b5:Tm.ct l a=true) (hn:n<=1000):
  Calls Tryz.prog 82 #[.pointer (some ⟨b,0,none⟩),.slice A n c] w fun e w'=>e=.returned (.int .i64 ((Tm.free l a:Nat):Int))/\Below w.heap.size w w':=by
 obtain⟨A',c',hb,hc,hx⟩:=h.cell
 have HX:=Gn hx
 have HC:=Gn hc
 have ad:=Gn (Tm.bV b5)
 have HI:=Gn hI
 have HA:=Gn ha
 have a7:Hid (a.length=n):=ha.len
 have bb:=Gn h
 obtain⟨R,hR⟩:∃ R,Tm.free l a=R:=⟨_,rfl⟩
 have HR:Hid (∀ i,i=n->Tm.free l (a.take i)=R):=fun i e=>by rw[e,<-a7.out,Ib,hR]
 rw[hR]
 obtain⟨ln,ao⟩:∃ ln,l.length=ln:=⟨_,rfl⟩
 rw[ao] at HC ad
 have ah:=Gn ao
 clear h hI ha b5 hx hc hR ao
 go_enter Tryz.func82,Tryz.ntmps82
 go_wp2_with fail
 go_loopw [5,11] (fun nv iv wr=>∃ i fr:Nat,i<=n/\fr<=i/\nv=.int .i64 (fr:Nat)/\iv=.int .i64 (i:Nat)/\Hid (Below w.heap.size w wr/\fr=Tm.free l (a.take i))) (fun _ iv _=>n-(intOf iv).toNat)
 case atStart=>exact⟨0,0,Fz _,Fm _,rfl,rfl,Gp _ _,rfl⟩
 case round=>
  obtain⟨i,fr,hi,cE,rfl,rfl,HQ⟩:=hrel
  by_cases b6:i<n
  ·have cl:(i:Int)<(n:Int):=by omega
   have cN:(0:Int)<=(i:Int):=by omega
   obtain⟨bA,oA,z,rfl,hz,bB,_,bo⟩:=HA.out.get b6
   obtain⟨_,cz⟩:=bo wr HQ.out.1
   obtain⟨b7,bz⟩:=ad.out z bB
   obtain⟨q,rfl⟩:∃ q:Nat,z=(q:Int):=⟨z.toNat,by omega⟩
   have hq:q<l.length:=by have:=ah.out;omega
   obtain⟨x,Z⟩:∃ x,l[q]?=some x:=⟨_,Ge hq⟩
   obtain⟨g,off,P,rfl,hg,hP,bn⟩:=HX.out q x Z
   obtain⟨pA,pn,pc,pg,pB,pm,pd,pC,pp,pf⟩:=P
   have cb:wr.cell? ⟨b,2,none⟩=some (.slice (some ⟨g,off,none⟩) ln c'):=(HQ.out.1.cell (p:=⟨b,2,none⟩) hb).trans HC.out
   have cx:∀ j u,(bJ.cells ⟨pA,pn,pc,pg,pB,pm,pd,pC,pp,pf⟩ x)[j]?=some u->wr.cell? ⟨g,off+q*7+j,none⟩=some u:=fun j u hu=>(HQ.out.1.cell (p:=⟨g,off+q*7+j,none⟩) hg).trans (bn j u hu)
   have c0:=cx 0 (.int .i64 x.op) rfl
   have c1:=cx 1 (.int .i64 x.sort) rfl
   have c2:=cx 2 (.slice pA pn pc) rfl
   have c3:=cx 3 (.string x.name) rfl
   have c4:=cx 4 (.bool pg) rfl
   have c5:=cx 5 (.slice pB pm pd) rfl
   have c6:=cx 6 (.slice pC pp pf) rfl
   simp only[Ho] at c0
   obtain⟨W1,bl⟩:∃ W1,wr.alloc (.cells (bJ.cells ⟨pA,pn,pc,pg,pB,pm,pd,pC,pp,pf⟩ x) 50)=W1:=⟨_,rfl⟩
   have B1:Below wr.heap.size wr W1:=by rw[<-bl];exact(Gp _ wr).alloc (Fm _) _
   have L1:aa W1 wr.heap.size 50 (bJ.cells ⟨pA,pn,pc,pg,pB,pm,pd,pC,pp,pf⟩ x):=by rw[<-bl];exact aa.new wr _ _
   have O:Below w.heap.size w W1:=HQ.out.1.trans (B1.mono HQ.out.1.size)
   have e0:=L1.cell 0
   simp at e0
   have cR:IntKind.i64.wrap ((i:Int)+1)=(i:Int)+1:=GR _ (by omega)
   have cF:IntKind.i64.wrap ((fr:Int)+1)=(fr:Int)+1:=GR _ (by omega)
   have cX:(q:Int)<(ln:Int):=bz
   have I:Hid (Tm.free l (a.take (i+1))=fr+if Tm.isNum l (q:Int)=true then 0 else 1):=by
    show Tm.free l (a.take (i+1))=fr+if Tm.isNum l (q:Int)=true then 0 else 1
    rw[take_one hz,Tm.pE,<-HQ.out.2]
   by_cases ho:x.op=14
   · -- the bD of something
    obtain⟨y,r,av⟩:∃ y r,x.a=y::r:=by
     cases e:x.a with
     |nil=>exact absurd e (HI.out.neg x (FP Z) ho)
     |cons y r=>exact⟨y,r,rfl⟩
    obtain⟨ch,cj⟩:=HI.out.part q x Z y (by rw[av];simp)
    obtain⟨s,rfl⟩:∃ s:Nat,y=(s:Int):=⟨y.toNat,by omega⟩
    have hs:s<l.length:=by omega
    obtain⟨U,bp⟩:∃ U,l[s]?=some U:=⟨_,Ge hs⟩
    obtain⟨g2,cy,P2,e2,cc,b9,ba⟩:=HX.out s U bp
    obtain⟨qA,qn,qc,qg,qB,qm,qd,qC,qp,qf⟩:=P2
    injection e2 with e2
    injection e2 with e3 e4
    subst e3
    subst e4
    have cY:(s:Int)<(ln:Int):=by have:=ah.out;omega
    have cf:0<pn:=by
     have:x.a.length=pn:=hP.a.len
     rw[av] at this
     simp at this
     omega
    have cv:(0:Int)<(pn:Int):=by omega
    obtain⟨bP,oP,y2,eP,bx,_,_,b3⟩:=hP.a.get cf
    simp only at eP
    obtain rfl:(s:Int)=y2:=by
     rw[av] at bx
     simpa using bx
    subst eP
    have cP:=(b3 W1 O).2
    have b8:W1.cell? ⟨b,2,none⟩=some (.slice (some ⟨g,off,none⟩) ln c'):=(O.cell (p:=⟨b,2,none⟩) hb).trans HC.out
    have V:∀ j u,(bJ.cells ⟨qA,qn,qc,qg,qB,qm,qd,qC,qp,qf⟩ U)[j]?=some u->W1.cell? ⟨g,off+s*7+j,none⟩=some u:=fun j u hu=>(O.cell (p:=⟨g,off+s*7+j,none⟩) hg).trans (ba j u hu)
    have d0:=V 0 (.int .i64 U.op) rfl
    have d1:=V 1 (.int .i64 U.sort) rfl
    have d2:=V 2 (.slice qA qn qc) rfl
    have d3:=V 3 (.string U.name) rfl
    have d4:=V 4 (.bool qg) rfl
    have d5:=V 5 (.slice qB qm qd) rfl
    have d6:=V 6 (.slice qC qp qf) rfl
    simp only[Ho] at d0 cP
    have bL:=L1.cell 2
    simp at bL
    have d14:(x.op == 14)=true:=by rw[ho];rfl
    have L:=Gn (Tm.vp Z ho av bp)
    have bE:=Gn L1
    have X:=Gn O
    clear ho V ba b9 bp b3 bx hP av cj ch hs cx bn Z hq hz bB bo b7 bz HA HX HC ad HI a7 bb HR ah B1 L1 O hg cc
    go_wp2_with fail
    go_still_tail 10,(by kernel_rfl)
    change wpList _ _ _ _ _ W1.drew
    have J:aa W1.drew wr.heap.size 50 (bJ.cells ⟨some ⟨bP,oP,none⟩,pn,pc,pg,pB,pm,pd,pC,pp,pf⟩ x):=bE.out
    have bT:Below w.heap.size w W1.drew:=X.out.trans ⟨rfl,rfl,rfl,Fm _,fun _ _=>rfl⟩
    clear X bE c0 c1 c2 c3 c4 c5 c6 d0 d1 d2 d3 d4 d5 d6 e0 bL cP b8 cb cz bl
    generalize W1.drew=D at*
    obtain⟨W4,b2⟩:∃ W4,((((((D.setCell ⟨wr.heap.size,0,none⟩ (.int .i64 U.op)).setCell ⟨wr.heap.size,1,none⟩ (.int .i64 U.sort)).setCell ⟨wr.heap.size,2,none⟩ (.slice qA qn qc)).setCell ⟨wr.heap.size,3,none⟩ (.string U.name)).setCell ⟨wr.heap.size,4,none⟩ (.bool qg)).setCell ⟨wr.heap.size,5,none⟩ (.slice qB qm qd)).setCell ⟨wr.heap.size,6,none⟩ (.slice qC qp qf)=W4:=⟨_,rfl⟩
    have b1:aa W4 wr.heap.size 50 #[.int .i64 U.op,.int .i64 U.sort,.slice qA qn qc,.string U.name,.bool qg,.slice qB qm qd,.slice qC qp qf]:=by
     rw[<-b2]
     exact((((((J.put 0 (.int .i64 U.op)).put 1 (.int .i64 U.sort)).put 2 (.slice qA qn qc)).put 3 (.string U.name)).put 4 (.bool qg)).put 5 (.slice qB qm qd)).put 6 (.slice qC qp qf)
    have T4:ae (fun k=>k=wr.heap.size) D W4:=by
     rw[<-b2]
     exact(((((((ae.refl (fun k=>k=wr.heap.size) D).put (p:=⟨wr.heap.size,0,none⟩) (.inl rfl) _).put (p:=⟨wr.heap.size,1,none⟩) (.inl rfl) _).put (p:=⟨wr.heap.size,2,none⟩) (.inl rfl) _).put (p:=⟨wr.heap.size,3,none⟩) (.inl rfl) _).put (p:=⟨wr.heap.size,4,none⟩) (.inl rfl) _).put (p:=⟨wr.heap.size,5,none⟩) (.inl rfl) _).put (p:=⟨wr.heap.size,6,none⟩) (.inl rfl) _
    have a1:Hid (Below w.heap.size w W4):=
     ((ae.af (F:=fun k=>w.heap.size<=k) bT).trans T4 (fun k hk=> .inl (by have:=HQ.out.1.size;omega))).below (Fm _) (fun _ h=>h)
    have k0:W4.cell? ⟨wr.heap.size,0,none⟩=some (.int .i64 U.op):=by rw[b1.cell];rfl
    have r0:=J.cell 0
    have r1:=J.cell 1
    have r2:=J.cell 2
    have r3:=J.cell 3
    have r4:=J.cell 4
    have r5:=J.cell 5
    have r6:=J.cell 6
    have y0:=J.free 0
    have y1:=J.free 1
    have y2:=J.free 2
    have y3:=J.free 3
    have y4:=J.free 4
    have y5:=J.free 5
    have y6:=J.free 6
    have ll:=J.lt
    simp at r0 r1 r2 r3 r4 r5 r6
    clear J b1 T4 bT
    obtain⟨bC,Q⟩:∃ t,Tm.isNum l (q:Int)=t:=⟨_,rfl⟩
    rw[Q] at I L
    cases bC with
    |true=>
     have h4:U.op=4:=FX L.out.symm
     have d4:(U.op != 4)=false:=by rw[h4];rfl
     have HV:Hid (Below w.heap.size w W4/\fr=Tm.free l (a.take (i+1))):=⟨a1.out,by rw[I.out];rfl⟩
     clear L Q I a1 HQ h4
     go_wp2
     go_roundw
     case rel=>exact⟨i+1,fr,by omega,by omega,by go_num,by go_num,HV.out⟩
     case measure=>simp[intOf];omega
    |false=>
     have h4:U.op≠4:=of_decide_eq_false L.out.symm
     have d4:(U.op != 4)=true:=bne_iff_ne.2 h4
     have HV:Hid (Below w.heap.size w W4/\fr+1=Tm.free l (a.take (i+1))):=⟨a1.out,by rw[I.out];rfl⟩
     clear L Q I a1 HQ h4
     go_wp2
     go_roundw
     case rel=>exact⟨i+1,fr+1,by omega,by omega,by go_num,by go_num,HV.out⟩
     case measure=>simp[intOf];omega
   · -- something else
    have d14:(x.op == 14)=false:=Gx.2 ho
    have L:=Gn (Tm.vI Z ho)
    have X:=Gn O
    clear ho hP cx bn Z hq hz bB bo b7 bz HA HX HC ad HI a7 bb HR ah B1 L1 O hg
    obtain⟨bC,Q⟩:∃ t,Tm.isNum l (q:Int)=t:=⟨_,rfl⟩
    rw[Q] at I L
    cases bC with
    |true=>
     have h4:x.op=4:=FX L.out.symm
     have d4:(x.op != 4)=false:=by rw[h4];rfl
     have HV:Hid (Below w.heap.size w W1/\fr=Tm.free l (a.take (i+1))):=⟨X.out,by rw[I.out];rfl⟩
     clear L Q I X HQ h4
     go_wp2
     go_roundw
     case rel=>exact⟨i+1,fr,by omega,by omega,by go_num,by go_num,HV.out⟩
     case measure=>simp[intOf];omega
    |false=>
     have h4:x.op≠4:=of_decide_eq_false L.out.symm
     have d4:(x.op != 4)=true:=bne_iff_ne.2 h4
     have HV:Hid (Below w.heap.size w W1/\fr+1=Tm.free l (a.take (i+1))):=⟨X.out,by rw[I.out];rfl⟩
     clear L Q I X HQ h4
     go_wp2
     go_roundw
     case rel=>exact⟨i+1,fr+1,by omega,by omega,by go_num,by go_num,HV.out⟩
     case measure=>simp[intOf];omega
  ·have b4:i=n:=by omega
   have cq:¬(i:Int)<(n:Int):=by omega
   have ca:fr=R:=by rw[HQ.out.2];exact HR.out i b4
   subst ca
   have HV:=Gn HQ.out.1
   clear HQ HA HX HC ad HI a7 bb HR ah b6 b4 hi
   go_wp2
   go_ret
   exact⟨rfl,HV.out⟩
end Go.Proofs.YtdbgiijdgedggaaGreatDoor
