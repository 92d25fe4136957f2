/- What the proofs of this claim use, text by text. -/
import Derived.Test.YtcgaeknikfaghaaGreatDoorQD13
set_option linter.unusedSimpArgs false
set_option linter.unusedVariables false
set_option maxRecDepth 100000
set_option maxHeartbeats 25600000
namespace Go.Proofs.YtcgaeknikfaghaaGreatDoor
open Go.RowKit
def Tm.tabL:List (List Nat):=List.replicate 6 [0,0,0,0,0,0]++
 [[1,1,1,0,0,1],[2,200,1,1,1,1],[2,200,1,1,1,1],[2,200,1,1,1,1],[2,200,1,1,1,1],[2,200,0,0,0,1],[2,200,0,0,0,1],[3,3,1,0,0,0],
  [1,1,2,0,0,2],[2,200,2,2,2,2],[2,200,2,2,2,2],[2,200,2,2,2,2],[2,200,2,2,2,1],[2,200,2,2,2,1],[2,200,2,2,2,1],[2,200,2,2,2,1],
  [2,200,3,3,3,3],[1,1,3,0,0,2],[2,2,3,2,0,3],[3,3,3,2,2,3],[2,2,3,3,0,1],[2,2,3,3,0,1],[2,2,3,3,0,1],[3,3,3,3,2,2],[3,3,3,3,3,3]]
def Tm.fix (s:Nat) (last:Int):Int:=if s=0 then last else(s:Int)
structure Tm.RowIs (w:List Nat) (more:Bool) (own:Nat) (a0 a1 p0 p1 p2 ow:Nat):Prop where
 len:a0=w.length
 most:a1=if more=true then 200 else w.length
 pos:0<w.length∧w.length≤3
 parts:∀ ss:List Int,(∀ s∈ss,1≤s∧s≤3)→¬(ss.length<w.length∨(w.length<ss.length∧more=false))→(Tm.oks w 0 63 (ss.map Tm.letter)=true↔∀ (i:Nat) s,ss[i]?=some s→s=Tm.fix (if i=0 then p0 else if i=1 then p1 else p2) (ss.getLast?.getD 0))
 own_:∀ ss:List Int,(∀ s∈ss,1≤s∧s≤3)→ss≠[]→Tm.own own (ss.map Tm.letter)=Tm.fix ow (ss.getLast?.getD 0)
def Tm.code (c:Nat):Nat:=if c=66 then 1 else if c=73 then 2 else if c=83 then 3 else 0
theorem Tm.okOne_fix {q last:Nat} {s:Int} (hq:q=66∨q=73∨q=83) (h:1≤s∧s≤3) (l:Int):Tm.okOne q last (Tm.letter s)=true↔s=Tm.fix (Tm.code q) l:=by
 have:s=1∨s=2∨s=3:=by omega
 rcases hq with rfl|rfl|rfl <;> rcases this with rfl|rfl|rfl <;> simp[Tm.okOne,Tm.letter,Tm.fix,Tm.code]
theorem Tm.oks_one {q:Nat} (hq:q=66∨q=73∨q=83) (l:Int):∀ (ss:List Int) (i last:Nat),(∀ s∈ss,1≤s∧s≤3)→(Tm.oks [q,q] i last (ss.map Tm.letter)=true↔∀ s∈ss,s=Tm.fix (Tm.code q) l)
 |[],i,last,_=>by simp[Tm.oks]
 |s::ss,i,last,h=>by
  have hw:Tm.want [q,q] i=q:=by
   unfold Tm.want
   rcases i with _|_|i
   ·rfl
   ·rfl
   ·simp[List.getD,show ¬(i+1+1<2) by omega]
  rw[List.map_cons,Tm.oks,Bool.and_eq_true,hw,Tm.okOne_fix hq (h s (by simp)) l,Tm.oks_one hq l ss (i+1) (Tm.letter s) (fun y hy=>h y (List.mem_cons_of_mem _ hy))]
  simp
theorem Tm.oks_alike:∀ (ss:List Int) (i:Nat) (t:Int),0<i→1≤t∧t≤3→(∀ s∈ss,1≤s∧s≤3)→(Tm.oks [97,61] i (Tm.letter t) (ss.map Tm.letter)=true↔∀ s∈ss,s=t)
 |[],i,t,_,_,_=>by simp[Tm.oks]
 |s::ss,i,t,hi,ht,h=>by
  have hw:Tm.want [97,61] i=61:=by
   unfold Tm.want
   rcases i with _|_|i
   ·omega
   ·rfl
   ·simp[List.getD,show ¬(i+1+1<2) by omega]
  have hs:=h s (by simp)
  have e1:Tm.okOne 61 (Tm.letter t) (Tm.letter s)=true↔s=t:=by
   rw[←Tm.letter_inj hs.1 hs.2 ht.1 ht.2]
   unfold Tm.okOne
   simp
  rw[List.map_cons,Tm.oks,Bool.and_eq_true,hw,e1,Tm.oks_alike ss (i+1) s (by omega) hs (fun y hy=>h y (List.mem_cons_of_mem _ hy))]
  constructor
  ·rintro⟨rfl,h2⟩ y hy
   rcases List.mem_cons.1 hy with rfl|hy
   ·rfl
   ·exact h2 y hy
  ·intro h2
   have:=h2 s (by simp)
   subst this
   exact⟨rfl,fun y hy=>h2 y (List.mem_cons_of_mem _ hy)⟩
theorem all_get {ss:List Int} {p:Int→Prop}:(∀ s∈ss,p s)↔∀ (i:Nat) s,ss[i]?=some s→p s:=
 ⟨fun h i s hs=>h s (List.mem_of_getElem? hs),fun h s hs=>by obtain⟨i,hi⟩:=List.getElem?_of_mem hs;exact h i s hi⟩
theorem Tm.own_plain {own:Nat} (h:own=66∨own=73∨own=83) (cs:List Nat) (l:Int):Tm.own own cs=Tm.fix (Tm.code own) l:=by
 unfold Tm.own
 rcases h with rfl|rfl|rfl <;> simp[Tm.sortOf,Tm.fix,Tm.code]
theorem Tm.row_one {q own:Nat} (hq:q=66∨q=73∨q=83) (ho:own=66∨own=73∨own=83) (p1 p2:Nat):Tm.RowIs [q] false own 1 1 (Tm.code q) p1 p2 (Tm.code own):=
 ⟨rfl,rfl,by simp,fun ss hs hl=>by
  obtain⟨s,rfl⟩:∃ s,ss=[s]:=by
   match ss,hl with
   |[],hl=>exact absurd (Or.inl (by simp)) hl
   |[s],_=>exact⟨s,rfl⟩
   |_::_::_,hl=>exact absurd (Or.inr ⟨by simp,rfl⟩) hl
  have:=Tm.okOne_fix (last:=63) hq (hs s (by simp)) s
  rw[List.map_cons,List.map_nil,Tm.oks,Tm.oks,Bool.and_true,show Tm.want [q] 0=q from rfl,this]
  constructor
  ·intro h i y hy
   rcases i with _|i
   ·obtain rfl:s=y:=by simpa using hy
    exact h
   ·simp at hy
  ·intro h
   exact h 0 s rfl,fun ss _ _=>Tm.own_plain ho _ _⟩
theorem Tm.row_many {q own:Nat} (hq:q=66∨q=73∨q=83) (ho:own=66∨own=73∨own=83):Tm.RowIs [q,q] true own 2 200 (Tm.code q) (Tm.code q) (Tm.code q) (Tm.code own):=
 ⟨rfl,rfl,by simp,fun ss hs _=>by
  rw[Tm.oks_one hq (ss.getLast?.getD 0) ss 0 63 hs,all_get]
  simp,fun ss _ _=>Tm.own_plain ho _ _⟩
theorem Tm.row_alike:Tm.RowIs [97,61] true 66 2 200 0 0 0 1:=
 ⟨rfl,rfl,by simp,fun ss hs hl=>by
  obtain⟨s,ss,rfl⟩:∃ s r,ss=s::r:=by
   match ss,hl with
   |[],hl=>exact absurd (Or.inl (by simp)) hl
   |s::r,_=>exact⟨s,r,rfl⟩
  have hs0:=hs s (by simp)
  have h0:Tm.okOne (Tm.want [97,61] 0) 63 (Tm.letter s)=true:=by simp[Tm.okOne,Tm.want]
  rw[List.map_cons,Tm.oks,Bool.and_eq_true,h0,Tm.oks_alike ss 1 s (by decide) hs0 (fun y hy=>hs y (List.mem_cons_of_mem _ hy))]
  have hf:∀ i (l:Int),Tm.fix (if i=0 then 0 else if i=1 then 0 else 0) l=l:=fun i l=>by simp[Tm.fix]
  obtain⟨z,hz⟩:∃ z,(s::ss).getLast?.getD 0=z:=⟨_,rfl⟩
  have hzm:z∈s::ss:=by
   rw[List.getLast?_eq_some_getLast (by simp),Option.getD_some] at hz
   rw[←hz]
   exact List.getLast_mem _
  rw[hz]
  constructor
  ·rintro⟨_,h⟩ i y hy
   rw[hf]
   have hall:∀ t∈s::ss,t=s:=fun t ht=>by
    rcases List.mem_cons.1 ht with rfl|ht
    ·rfl
    ·exact h t ht
   rw[hall y (List.mem_of_getElem? hy),hall z hzm]
  ·intro h
   refine⟨rfl,fun y hy=>?_⟩
   have h1:=h 0 s rfl
   obtain⟨i,hi⟩:=List.getElem?_of_mem (List.mem_cons_of_mem s hy)
   have h2:=h i y hi
   rw[hf] at h1 h2
   rw[h1,h2],fun ss _ _=>Tm.own_plain (.inl rfl) _ _⟩
theorem Tm.row_ite:Tm.RowIs [66,97,61] false 61 3 3 1 0 0 0:=
 ⟨rfl,rfl,by simp,fun ss hs hl=>by
  obtain⟨a,b,c,rfl⟩:∃ a b c,ss=[a,b,c]:=by
   match ss,hl with
   |[],hl=>exact absurd (Or.inl (by simp)) hl
   |[_],hl=>exact absurd (Or.inl (by simp)) hl
   |[_,_],hl=>exact absurd (Or.inl (by simp)) hl
   |[a,b,c],_=>exact⟨a,b,c,rfl⟩
   |_::_::_::_::_,hl=>exact absurd (Or.inr ⟨by simp,rfl⟩) hl
  have ha:=hs a (by simp)
  have hb:=hs b (by simp)
  have hc:=hs c (by simp)
  have e1:=Tm.okOne_fix (q:=66) (last:=63) (.inl rfl) ha c
  have e2:Tm.okOne 97 (Tm.letter a) (Tm.letter b)=true:=by simp[Tm.okOne]
  have e3:Tm.okOne 61 (Tm.letter b) (Tm.letter c)=true↔c=b:=by
   rw[←Tm.letter_inj hc.1 hc.2 hb.1 hb.2]
   simp[Tm.okOne]
  simp only[List.map_cons,List.map_nil,Tm.oks,Bool.and_true,Bool.and_eq_true,show Tm.want [66,97,61] 0=66 from rfl,show Tm.want [66,97,61] (0+1)=97 from rfl,show Tm.want [66,97,61] (0+1+1)=61 from rfl,e1,e2,e3,true_and]
  have hl:([a,b,c]:List Int).getLast?.getD 0=c:=rfl
  rw[hl]
  constructor
  ·rintro⟨h1,h2⟩ i y hy
   rcases i with _|_|_|i
   ·obtain rfl:a=y:=by simpa using hy
    exact h1
   ·obtain rfl:b=y:=by simpa using hy
    simp[Tm.fix,h2]
   ·obtain rfl:c=y:=by simpa using hy
    simp[Tm.fix]
   ·simp at hy
  ·intro h
   refine⟨h 0 a rfl,?_⟩
   have:=h 1 b rfl
   simpa [Tm.fix,eq_comm] using this,fun ss hs hne=>by
  obtain⟨z,hz⟩:∃ z,ss.getLast?=some z:=⟨_,List.getLast?_eq_some_getLast hne⟩
  have hzm:z∈ss:=List.mem_of_getLast? hz
  unfold Tm.own
  rw[if_pos rfl,List.getLast?_map,hz]
  simp only[Option.map_some,Option.getD_some]
  rw[Tm.sort_letter (hs z hzm).1 (hs z hzm).2]
  simp[Tm.fix]⟩
theorem Tm.row_two {q r own:Nat} (hq:q=66∨q=73∨q=83) (hr:r=66∨r=73∨r=83) (ho:own=66∨own=73∨own=83) (p2:Nat):Tm.RowIs [q,r] false own 2 2 (Tm.code q) (Tm.code r) p2 (Tm.code own):=
 ⟨rfl,rfl,by simp,fun ss hs hl=>by
  obtain⟨a,b,rfl⟩:∃ a b,ss=[a,b]:=by
   match ss,hl with
   |[],hl=>exact absurd (Or.inl (by simp)) hl
   |[_],hl=>exact absurd (Or.inl (by simp)) hl
   |[a,b],_=>exact⟨a,b,rfl⟩
   |_::_::_::_,hl=>exact absurd (Or.inr ⟨by simp,rfl⟩) hl
  have e1:=Tm.okOne_fix (last:=63) hq (hs a (by simp)) b
  have e2:=Tm.okOne_fix (last:=Tm.letter a) hr (hs b (by simp)) b
  simp only[List.map_cons,List.map_nil,Tm.oks,Bool.and_true,Bool.and_eq_true,show Tm.want [q,r] 0=q from rfl,show Tm.want [q,r] (0+1)=r from rfl,e1,e2]
  have hl:([a,b]:List Int).getLast?.getD 0=b:=rfl
  rw[hl]
  constructor
  ·rintro⟨h1,h2⟩ i y hy
   rcases i with _|_|i
   ·obtain rfl:a=y:=by simpa using hy
    exact h1
   ·obtain rfl:b=y:=by simpa using hy
    exact h2
   ·simp at hy
  ·intro h
   exact⟨h 0 a rfl,h 1 b rfl⟩,fun ss _ _=>Tm.own_plain ho _ _⟩
theorem Tm.row_three {q r t own:Nat} (hq:q=66∨q=73∨q=83) (hr:r=66∨r=73∨r=83) (ht:t=66∨t=73∨t=83) (ho:own=66∨own=73∨own=83):Tm.RowIs [q,r,t] false own 3 3 (Tm.code q) (Tm.code r) (Tm.code t) (Tm.code own):=
 ⟨rfl,rfl,by simp,fun ss hs hl=>by
  obtain⟨a,b,c,rfl⟩:∃ a b c,ss=[a,b,c]:=by
   match ss,hl with
   |[],hl=>exact absurd (Or.inl (by simp)) hl
   |[_],hl=>exact absurd (Or.inl (by simp)) hl
   |[_,_],hl=>exact absurd (Or.inl (by simp)) hl
   |[a,b,c],_=>exact⟨a,b,c,rfl⟩
   |_::_::_::_::_,hl=>exact absurd (Or.inr ⟨by simp,rfl⟩) hl
  have e1:=Tm.okOne_fix (last:=63) hq (hs a (by simp)) c
  have e2:=Tm.okOne_fix (last:=Tm.letter a) hr (hs b (by simp)) c
  have e3:=Tm.okOne_fix (last:=Tm.letter b) ht (hs c (by simp)) c
  simp only[List.map_cons,List.map_nil,Tm.oks,Bool.and_true,Bool.and_eq_true,show Tm.want [q,r,t] 0=q from rfl,show Tm.want [q,r,t] (0+1)=r from rfl,show Tm.want [q,r,t] (0+1+1)=t from rfl,e1,e2,e3]
  have hl:([a,b,c]:List Int).getLast?.getD 0=c:=rfl
  rw[hl]
  constructor
  ·rintro⟨h1,h2,h3⟩ i y hy
   rcases i with _|_|_|i
   ·obtain rfl:a=y:=by simpa using hy
    exact h1
   ·obtain rfl:b=y:=by simpa using hy
    exact h2
   ·obtain rfl:c=y:=by simpa using hy
    exact h3
   ·simp at hy
  ·intro h
   exact⟨h 0 a rfl,h 1 b rfl,h 2 c rfl⟩,fun ss _ _=>Tm.own_plain ho _ _⟩
theorem Tm.row_is {op:Int} (h0:0≤op) (h1:op<31):∃ a0 a1 p0 p1 p2 ow,Tm.tabL[op.toNat]?=some [a0,a1,p0,p1,p2,ow]∧a0≤200∧a1≤200∧p0≤3∧p1≤3∧p2≤3∧ow≤3∧((a1=0∧Tm.asks op=none)∨(0<a1∧∃ w more own,Tm.asks op=some (w,more,own)∧Tm.RowIs w more own a0 a1 p0 p1 p2 ow)):=by
 have B:(66:Nat)=66∨(66:Nat)=73∨(66:Nat)=83:=by decide
 have I:(73:Nat)=66∨(73:Nat)=73∨(73:Nat)=83:=by decide
 have S:(83:Nat)=66∨(83:Nat)=73∨(83:Nat)=83:=by decide
 obtain⟨o,rfl⟩:∃ o:Nat,op=o:=⟨op.toNat,by omega⟩
 have ho:o<31:=by omega
 match o,ho with
 |0,_|1,_|2,_|3,_|4,_|5,_=>exact⟨_,_,_,_,_,_,rfl,by decide,by decide,by decide,by decide,by decide,by decide,.inl ⟨rfl,by decide⟩⟩
 |6,_=>exact⟨_,_,_,_,_,_,rfl,by decide,by decide,by decide,by decide,by decide,by decide,.inr ⟨by decide,_,_,_,by decide,Tm.row_one B B 0 0⟩⟩
 |7,_|8,_|9,_|10,_=>exact⟨_,_,_,_,_,_,rfl,by decide,by decide,by decide,by decide,by decide,by decide,.inr ⟨by decide,_,_,_,by decide,Tm.row_many B B⟩⟩
 |11,_|12,_=>exact⟨_,_,_,_,_,_,rfl,by decide,by decide,by decide,by decide,by decide,by decide,.inr ⟨by decide,_,_,_,by decide,Tm.row_alike⟩⟩
 |13,_=>exact⟨_,_,_,_,_,_,rfl,by decide,by decide,by decide,by decide,by decide,by decide,.inr ⟨by decide,_,_,_,by decide,Tm.row_ite⟩⟩
 |14,_=>exact⟨_,_,_,_,_,_,rfl,by decide,by decide,by decide,by decide,by decide,by decide,.inr ⟨by decide,_,_,_,by decide,Tm.row_one I I 0 0⟩⟩
 |15,_|16,_|17,_=>exact⟨_,_,_,_,_,_,rfl,by decide,by decide,by decide,by decide,by decide,by decide,.inr ⟨by decide,_,_,_,by decide,Tm.row_many I I⟩⟩
 |18,_|19,_|20,_|21,_=>exact⟨_,_,_,_,_,_,rfl,by decide,by decide,by decide,by decide,by decide,by decide,.inr ⟨by decide,_,_,_,by decide,Tm.row_many I B⟩⟩
 |22,_=>exact⟨_,_,_,_,_,_,rfl,by decide,by decide,by decide,by decide,by decide,by decide,.inr ⟨by decide,_,_,_,by decide,Tm.row_many S S⟩⟩
 |23,_=>exact⟨_,_,_,_,_,_,rfl,by decide,by decide,by decide,by decide,by decide,by decide,.inr ⟨by decide,_,_,_,by decide,Tm.row_one S I 0 0⟩⟩
 |24,_=>exact⟨_,_,_,_,_,_,rfl,by decide,by decide,by decide,by decide,by decide,by decide,.inr ⟨by decide,_,_,_,by decide,Tm.row_two S I S 0⟩⟩
 |25,_=>exact⟨_,_,_,_,_,_,rfl,by decide,by decide,by decide,by decide,by decide,by decide,.inr ⟨by decide,_,_,_,by decide,Tm.row_three S I I S⟩⟩
 |26,_|27,_|28,_=>exact⟨_,_,_,_,_,_,rfl,by decide,by decide,by decide,by decide,by decide,by decide,.inr ⟨by decide,_,_,_,by decide,Tm.row_two S S B 0⟩⟩
 |29,_=>exact⟨_,_,_,_,_,_,rfl,by decide,by decide,by decide,by decide,by decide,by decide,.inr ⟨by decide,_,_,_,by decide,Tm.row_three S S I I⟩⟩
 |30,_=>exact⟨_,_,_,_,_,_,rfl,by decide,by decide,by decide,by decide,by decide,by decide,.inr ⟨by decide,_,_,_,by decide,Tm.row_three S S S S⟩⟩
end Go.Proofs.YtcgaeknikfaghaaGreatDoor
namespace Go.Proofs.YtcgaeknikfaghaaGreatDoor
open Go.RowKit
def Ask9 (w:World):Prop:=∀ (o:Nat) r,Tm.tabL[o]?=some r→∀ (j v:Nat),r[j]?=some v→w.cell? ⟨0,o*6+j,none⟩=some (.int .u8 (v:Int))
theorem Ask9.below {w w':World} (h:Ask9 w) (hb:Below w.heap.size w w'):Ask9 w':=fun o r hr j v hv=>
 have:=h o r hr j v hv
 (hb.cell (p:=⟨0,o*6+j,none⟩) (World.block_lt_of_cell? w _ this)).trans this
theorem kfixed9 (s:Nat) (last:Int) (hs:s≤255) (w:World):Calls Tryz.prog 213 #[.int .u8 (s:Int),.int .i64 last] w fun e w'=>e=.returned (.int .i64 (Tm.fix s last))∧w'=w:=by
 by_cases h0:s=0
 ·subst h0
  rw[show Tm.fix 0 last=last from rfl]
  go_enter Tryz.func213,Tryz.ntmps213
  go_wp2
  go_ret
  exact⟨rfl,rfl⟩
 ·rw[show Tm.fix s last=(s:Int) by unfold Tm.fix;rw[if_neg h0]]
  have d0:((s:Int) == 0)=false:=beq_eq_false_iff_ne.2 (by omega)
  have hw:IntKind.i64.wrap (s:Int)=(s:Int):=IntWalk.i64_in _ (by omega)
  clear h0
  go_enter Tryz.func213,Tryz.ntmps213
  go_wp2
  go_ret
  exact⟨rfl,rfl⟩
theorem kpart9 (a0 a1 p0 p1 p2 ow:Nat) (i:Nat) (last:Int) (h0:p0≤3) (h1:p1≤3) (h2:p2≤3) (hi:i≤1000000) (w:World):
  Calls Tryz.prog 189 #[.agg #[.int .u8 (a0:Int),.int .u8 (a1:Int),.int .u8 (p0:Int),.int .u8 (p1:Int),.int .u8 (p2:Int),.int .u8 (ow:Int)],.int .i64 (i:Int),.int .i64 last] w fun e w'=>e=.returned (.int .i64 (Tm.fix (if i=0 then p0 else if i=1 then p1 else p2) last))∧Below w.heap.size w w':=by
 obtain⟨W,hW⟩:∃ W,w.alloc (.cells #[.int .u8 (a0:Int),.int .u8 (a1:Int),.int .u8 (p0:Int),.int .u8 (p1:Int),.int .u8 (p2:Int),.int .u8 (ow:Int)] 239)=W:=⟨_,rfl⟩
 have hB:Below w.heap.size w W:=by rw[←hW];exact(Below.refl _ w).alloc (Nat.le_refl _) _
 have hL:Lies W w.heap.size 239 #[.int .u8 (a0:Int),.int .u8 (a1:Int),.int .u8 (p0:Int),.int .u8 (p1:Int),.int .u8 (p2:Int),.int .u8 (ow:Int)]:=by rw[←hW];exact Lies.new w _ _
 have c2:=hL.cell 2
 have c3:=hL.cell 3
 have c4:=hL.cell 4
 simp at c2 c3 c4
 have HB:=Lib.hid hB
 rcases i with _|_|i
 ·have HF:=Lib.hid (kfixed9 p0 last (by omega) W)
  have hmin:min (0:Int) 2=0:=rfl
  rw[if_pos rfl]
  clear hB hL
  go_enter Tryz.func189,Tryz.ntmps189
  go_wp2_with (go_at_call 213;refine HF.out.mono ?_;rintro e w1 ⟨rfl,rfl⟩)
  go_ret
  exact⟨rfl,HB.out⟩
 ·have HF:=Lib.hid (kfixed9 p1 last (by omega) W)
  have e1:(if 0+1=0 then p0 else if 0+1=1 then p1 else p2)=p1:=rfl
  rw[e1]
  have hmin:min (1:Int) 2=1:=rfl
  clear hB hL e1
  go_enter Tryz.func189,Tryz.ntmps189
  go_wp2_with (go_at_call 213;refine HF.out.mono ?_;rintro e w1 ⟨rfl,rfl⟩)
  go_ret
  exact⟨rfl,HB.out⟩
 ·have HF:=Lib.hid (kfixed9 p2 last (by omega) W)
  have e1:(if i+1+1=0 then p0 else if i+1+1=1 then p1 else p2)=p2:=by rw[if_neg (by omega),if_neg (by omega)]
  rw[e1]
  obtain⟨k,hk⟩:∃ k,i+1+1=k:=⟨_,rfl⟩
  rw[hk]
  have hk2:(2:Int)≤(k:Int):=by omega
  have hmin:min (k:Int) 2=2:=by omega
  clear hB hL e1 hk
  go_enter Tryz.func189,Tryz.ntmps189
  go_wp2_with (go_at_call 213;refine HF.out.mono ?_;rintro e w1 ⟨rfl,rfl⟩)
  go_ret
  exact⟨rfl,HB.out⟩
theorem ksort9 (a0 a1 p0 p1 p2 ow:Nat) (last:Int) (h0:ow≤3) (w:World):
  Calls Tryz.prog 191 #[.agg #[.int .u8 (a0:Int),.int .u8 (a1:Int),.int .u8 (p0:Int),.int .u8 (p1:Int),.int .u8 (p2:Int),.int .u8 (ow:Int)],.int .i64 last] w fun e w'=>e=.returned (.int .i64 (Tm.fix ow last))∧Below w.heap.size w w':=by
 obtain⟨W,hW⟩:∃ W,w.alloc (.cells #[.int .u8 (a0:Int),.int .u8 (a1:Int),.int .u8 (p0:Int),.int .u8 (p1:Int),.int .u8 (p2:Int),.int .u8 (ow:Int)] 239)=W:=⟨_,rfl⟩
 have hB:Below w.heap.size w W:=by rw[←hW];exact(Below.refl _ w).alloc (Nat.le_refl _) _
 have hL:Lies W w.heap.size 239 #[.int .u8 (a0:Int),.int .u8 (a1:Int),.int .u8 (p0:Int),.int .u8 (p1:Int),.int .u8 (p2:Int),.int .u8 (ow:Int)]:=by rw[←hW];exact Lies.new w _ _
 have c5:=hL.cell 5
 simp at c5
 have HB:=Lib.hid hB
 have HF:=Lib.hid (kfixed9 ow last (by omega) W)
 clear hB hL
 go_enter Tryz.func191,Tryz.ntmps191
 go_wp2_with (go_at_call 213;refine HF.out.mono ?_;rintro e w1 ⟨rfl,rfl⟩)
 go_ret
 exact⟨rfl,HB.out⟩
theorem Tm.opAt_nat {l:List Nd} {q:Nat} {x:Nd} (h:l[q]?=some x):Tm.opAt l (q:Int)=x.op:=by
 unfold Tm.opAt
 rw[Int.toNat_natCast,h]
 rfl
theorem Tm.isNum_neg {l:List Nd} {q s:Nat} {x y:Nd} {r:List Int} (h:l[q]?=some x) (ho:x.op=14) (ha:x.a=(s:Int)::r) (hy:l[s]?=some y):Tm.isNum l (q:Int)=decide (y.op=4):=by
 unfold Tm.isNum
 rw[Tm.opAt_nat h,Int.toNat_natCast,h,ho]
 simp only[Option.map_some,Option.getD_some,ha,List.headD_cons]
 rw[Tm.opAt_nat hy]
 simp
theorem Tm.isNum_not {l:List Nd} {q:Nat} {x:Nd} (h:l[q]?=some x) (ho:x.op≠14):Tm.isNum l (q:Int)=decide (x.op=4):=by
 unfold Tm.isNum
 rw[Tm.opAt_nat h]
 simp[ho]
theorem kunknowns9 (w:World) (b:Nat) (F:Nat→Prop) (l:List Nd) (h:Bk w b F l) (hI:Tm.Inv l) (A:Option Addr) (n c:Nat) (a:List Int) (ha:NumS w A n a) (hin:Tm.allIn l a=true) (hn:n≤1000):
  Calls Tryz.prog 190 #[.pointer (some ⟨b,0,none⟩),.slice A n c] w fun e w'=>e=.returned (.int .i64 ((Tm.free l a:Nat):Int))∧Below w.heap.size w w':=by
 obtain⟨A',c',hb,hc,hx⟩:=h.cell
 have HX:=Lib.hid hx
 have HC:=Lib.hid hc
 have HIn:=Lib.hid (Tm.allIn_spec hin)
 have HI:=Lib.hid hI
 have HA:=Lib.hid ha
 have HLn:Hid (a.length=n):=ha.len
 have HBk:=Lib.hid h
 obtain⟨R,hR⟩:∃ R,Tm.free l a=R:=⟨_,rfl⟩
 have HR:Hid (∀ i,i=n→Tm.free l (a.take i)=R):=fun i e=>by rw[e,←HLn.out,List.take_length,hR]
 rw[hR]
 obtain⟨ln,hlnn⟩:∃ ln,l.length=ln:=⟨_,rfl⟩
 rw[hlnn] at HC HIn
 have HLl:=Lib.hid hlnn
 clear h hI ha hin hx hc hR hlnn
 go_enter Tryz.func190,Tryz.ntmps190
 go_wp2_with fail
 go_loopw [5,11] (fun nv iv wr=>∃ i fr:Nat,i≤n∧fr≤i∧nv=.int .i64 (fr:Nat)∧iv=.int .i64 (i:Nat)∧Hid (Below w.heap.size w wr∧fr=Tm.free l (a.take i))) (fun _ iv _=>n-(intOf iv).toNat)
 case atStart=>exact⟨0,0,Nat.zero_le _,Nat.le_refl _,rfl,rfl,Below.refl _ _,rfl⟩
 case round=>
  obtain⟨i,fr,hi,hfr,rfl,rfl,HQ⟩:=hrel
  by_cases hlt:i<n
  ·have hlt':(i:Int)<(n:Int):=by omega
   have hi0:(0:Int)≤(i:Int):=by omega
   obtain⟨bA,oA,z,rfl,hz,hzm,_,hcz⟩:=HA.out.get hlt
   obtain⟨_,cz⟩:=hcz wr HQ.out.1
   obtain⟨hz0,hz1⟩:=HIn.out z hzm
   obtain⟨q,rfl⟩:∃ q:Nat,z=(q:Int):=⟨z.toNat,by omega⟩
   have hq:q<l.length:=by have:=HLl.out;omega
   obtain⟨x,hxq⟩:∃ x,l[q]?=some x:=⟨_,List.getElem?_eq_getElem hq⟩
   obtain⟨g,off,P,rfl,hg,hP,hcx⟩:=HX.out q x hxq
   obtain⟨pA,pn,pc,pg,pB,pm,pd,pC,pp,pf⟩:=P
   have cb:wr.cell? ⟨b,2,none⟩=some (.slice (some ⟨g,off,none⟩) ln c'):=(HQ.out.1.cell (p:=⟨b,2,none⟩) hb).trans HC.out
   have cx:∀ j u,(NdP.cells ⟨pA,pn,pc,pg,pB,pm,pd,pC,pp,pf⟩ x)[j]?=some u→wr.cell? ⟨g,off+q*7+j,none⟩=some u:=fun j u hu=>(HQ.out.1.cell (p:=⟨g,off+q*7+j,none⟩) hg).trans (hcx j u hu)
   have c0:=cx 0 (.int .i64 x.op) rfl
   have c1:=cx 1 (.int .i64 x.sort) rfl
   have c2:=cx 2 (.slice pA pn pc) rfl
   have c3:=cx 3 (.string x.name) rfl
   have c4:=cx 4 (.bool pg) rfl
   have c5:=cx 5 (.slice pB pm pd) rfl
   have c6:=cx 6 (.slice pC pp pf) rfl
   simp only[Nat.add_zero] at c0
   obtain⟨W1,hW1⟩:∃ W1,wr.alloc (.cells (NdP.cells ⟨pA,pn,pc,pg,pB,pm,pd,pC,pp,pf⟩ x) 50)=W1:=⟨_,rfl⟩
   have B1:Below wr.heap.size wr W1:=by rw[←hW1];exact(Below.refl _ wr).alloc (Nat.le_refl _) _
   have L1:Lies W1 wr.heap.size 50 (NdP.cells ⟨pA,pn,pc,pg,pB,pm,pd,pC,pp,pf⟩ x):=by rw[←hW1];exact Lies.new wr _ _
   have hBw1:Below w.heap.size w W1:=HQ.out.1.trans (B1.mono HQ.out.1.size)
   have e0:=L1.cell 0
   simp at e0
   have hiw:IntKind.i64.wrap ((i:Int)+1)=(i:Int)+1:=IntWalk.i64_in _ (by omega)
   have hfw:IntKind.i64.wrap ((fr:Int)+1)=(fr:Int)+1:=IntWalk.i64_in _ (by omega)
   have hql:(q:Int)<(ln:Int):=hz1
   have HStep:Hid (Tm.free l (a.take (i+1))=fr+if Tm.isNum l (q:Int)=true then 0 else 1):=by
    show Tm.free l (a.take (i+1))=fr+if Tm.isNum l (q:Int)=true then 0 else 1
    rw[take_one hz,Tm.free_app,←HQ.out.2]
   by_cases ho:x.op=14
   · -- the contrary of something
    obtain⟨y,r,hxa⟩:∃ y r,x.a=y::r:=by
     cases e:x.a with
     |nil=>exact absurd e (HI.out.neg x (List.mem_of_getElem? hxq) ho)
     |cons y r=>exact⟨y,r,rfl⟩
    obtain⟨hy0,hy1⟩:=HI.out.part q x hxq y (by rw[hxa];simp)
    obtain⟨s,rfl⟩:∃ s:Nat,y=(s:Int):=⟨y.toNat,by omega⟩
    have hs:s<l.length:=by omega
    obtain⟨x2,hx2⟩:∃ x2,l[s]?=some x2:=⟨_,List.getElem?_eq_getElem hs⟩
    obtain⟨g2,off2,P2,e2,hg2,hP2,hcx2⟩:=HX.out s x2 hx2
    obtain⟨qA,qn,qc,qg,qB,qm,qd,qC,qp,qf⟩:=P2
    injection e2 with e2
    injection e2 with e3 e4
    subst e3
    subst e4
    have hsl:(s:Int)<(ln:Int):=by have:=HLl.out;omega
    have hpn:0<pn:=by
     have:x.a.length=pn:=hP.a.len
     rw[hxa] at this
     simp at this
     omega
    have hpn':(0:Int)<(pn:Int):=by omega
    obtain⟨bP,oP,y2,eP,hy2,_,_,hcP⟩:=hP.a.get hpn
    simp only at eP
    obtain rfl:(s:Int)=y2:=by
     rw[hxa] at hy2
     simpa using hy2
    subst eP
    have cP:=(hcP W1 hBw1).2
    have cb1:W1.cell? ⟨b,2,none⟩=some (.slice (some ⟨g,off,none⟩) ln c'):=(hBw1.cell (p:=⟨b,2,none⟩) hb).trans HC.out
    have cx2:∀ j u,(NdP.cells ⟨qA,qn,qc,qg,qB,qm,qd,qC,qp,qf⟩ x2)[j]?=some u→W1.cell? ⟨g,off+s*7+j,none⟩=some u:=fun j u hu=>(hBw1.cell (p:=⟨g,off+s*7+j,none⟩) hg).trans (hcx2 j u hu)
    have d0:=cx2 0 (.int .i64 x2.op) rfl
    have d1:=cx2 1 (.int .i64 x2.sort) rfl
    have d2:=cx2 2 (.slice qA qn qc) rfl
    have d3:=cx2 3 (.string x2.name) rfl
    have d4:=cx2 4 (.bool qg) rfl
    have d5:=cx2 5 (.slice qB qm qd) rfl
    have d6:=cx2 6 (.slice qC qp qf) rfl
    simp only[Nat.add_zero] at d0 cP
    have eb2:=L1.cell 2
    simp at eb2
    have d14:(x.op == 14)=true:=by rw[ho];rfl
    have HNm:=Lib.hid (Tm.isNum_neg hxq ho hxa hx2)
    have HL1:=Lib.hid L1
    have HB1:=Lib.hid hBw1
    clear ho cx2 hcx2 hP2 hx2 hcP hy2 hP hxa hy1 hy0 hs cx hcx hxq hq hz hzm hcz hz0 hz1 HA HX HC HIn HI HLn HBk HR HLl B1 L1 hBw1 hg hg2
    go_wp2_with fail
    go_still_tail 10,(by kernel_rfl)
    change wpList _ _ _ _ _ W1.drew
    have hLd:Lies W1.drew wr.heap.size 50 (NdP.cells ⟨some ⟨bP,oP,none⟩,pn,pc,pg,pB,pm,pd,pC,pp,pf⟩ x):=HL1.out
    have hBd:Below w.heap.size w W1.drew:=HB1.out.trans ⟨rfl,rfl,rfl,Nat.le_refl _,fun _ _=>rfl⟩
    clear HB1 HL1 c0 c1 c2 c3 c4 c5 c6 d0 d1 d2 d3 d4 d5 d6 e0 eb2 cP cb1 cb cz hW1
    generalize W1.drew=D at*
    obtain⟨W4,hW4⟩:∃ W4,((((((D.setCell ⟨wr.heap.size,0,none⟩ (.int .i64 x2.op)).setCell ⟨wr.heap.size,1,none⟩ (.int .i64 x2.sort)).setCell ⟨wr.heap.size,2,none⟩ (.slice qA qn qc)).setCell ⟨wr.heap.size,3,none⟩ (.string x2.name)).setCell ⟨wr.heap.size,4,none⟩ (.bool qg)).setCell ⟨wr.heap.size,5,none⟩ (.slice qB qm qd)).setCell ⟨wr.heap.size,6,none⟩ (.slice qC qp qf)=W4:=⟨_,rfl⟩
    have hL4:Lies W4 wr.heap.size 50 #[.int .i64 x2.op,.int .i64 x2.sort,.slice qA qn qc,.string x2.name,.bool qg,.slice qB qm qd,.slice qC qp qf]:=by
     rw[←hW4]
     exact((((((hLd.put 0 (.int .i64 x2.op)).put 1 (.int .i64 x2.sort)).put 2 (.slice qA qn qc)).put 3 (.string x2.name)).put 4 (.bool qg)).put 5 (.slice qB qm qd)).put 6 (.slice qC qp qf)
    have T4:Turn (fun k=>k=wr.heap.size) D W4:=by
     rw[←hW4]
     exact(((((((Turn.refl (fun k=>k=wr.heap.size) D).put (p:=⟨wr.heap.size,0,none⟩) (.inl rfl) _).put (p:=⟨wr.heap.size,1,none⟩) (.inl rfl) _).put (p:=⟨wr.heap.size,2,none⟩) (.inl rfl) _).put (p:=⟨wr.heap.size,3,none⟩) (.inl rfl) _).put (p:=⟨wr.heap.size,4,none⟩) (.inl rfl) _).put (p:=⟨wr.heap.size,5,none⟩) (.inl rfl) _).put (p:=⟨wr.heap.size,6,none⟩) (.inl rfl) _
    have HB4:Hid (Below w.heap.size w W4):=
     ((Turn.of_below (F:=fun k=>w.heap.size≤k) hBd).trans T4 (fun k hk=> .inl (by have:=HQ.out.1.size;omega))).below (Nat.le_refl _) (fun _ h=>h)
    have k0:W4.cell? ⟨wr.heap.size,0,none⟩=some (.int .i64 x2.op):=by rw[hL4.cell];rfl
    have r0:=hLd.cell 0
    have r1:=hLd.cell 1
    have r2:=hLd.cell 2
    have r3:=hLd.cell 3
    have r4:=hLd.cell 4
    have r5:=hLd.cell 5
    have r6:=hLd.cell 6
    have y0:=hLd.free 0
    have y1:=hLd.free 1
    have y2:=hLd.free 2
    have y3:=hLd.free 3
    have y4:=hLd.free 4
    have y5:=hLd.free 5
    have y6:=hLd.free 6
    have ll:=hLd.lt
    simp at r0 r1 r2 r3 r4 r5 r6
    clear hLd hL4 T4 hBd
    obtain⟨isn,hisn⟩:∃ t,Tm.isNum l (q:Int)=t:=⟨_,rfl⟩
    rw[hisn] at HStep HNm
    cases isn with
    |true=>
     have h4:x2.op=4:=of_decide_eq_true HNm.out.symm
     have d4:(x2.op != 4)=false:=by rw[h4];rfl
     have HV:Hid (Below w.heap.size w W4∧fr=Tm.free l (a.take (i+1))):=⟨HB4.out,by rw[HStep.out];rfl⟩
     clear HNm hisn HStep HB4 HQ h4
     go_wp2
     go_roundw
     case rel=>exact⟨i+1,fr,by omega,by omega,by go_num,by go_num,HV.out⟩
     case measure=>simp[intOf];omega
    |false=>
     have h4:x2.op≠4:=of_decide_eq_false HNm.out.symm
     have d4:(x2.op != 4)=true:=bne_iff_ne.2 h4
     have HV:Hid (Below w.heap.size w W4∧fr+1=Tm.free l (a.take (i+1))):=⟨HB4.out,by rw[HStep.out];rfl⟩
     clear HNm hisn HStep HB4 HQ h4
     go_wp2
     go_roundw
     case rel=>exact⟨i+1,fr+1,by omega,by omega,by go_num,by go_num,HV.out⟩
     case measure=>simp[intOf];omega
   · -- something else
    have d14:(x.op == 14)=false:=beq_eq_false_iff_ne.2 ho
    have HNm:=Lib.hid (Tm.isNum_not hxq ho)
    have HB1:=Lib.hid hBw1
    clear ho hP cx hcx hxq hq hz hzm hcz hz0 hz1 HA HX HC HIn HI HLn HBk HR HLl B1 L1 hBw1 hg
    obtain⟨isn,hisn⟩:∃ t,Tm.isNum l (q:Int)=t:=⟨_,rfl⟩
    rw[hisn] at HStep HNm
    cases isn with
    |true=>
     have h4:x.op=4:=of_decide_eq_true HNm.out.symm
     have d4:(x.op != 4)=false:=by rw[h4];rfl
     have HV:Hid (Below w.heap.size w W1∧fr=Tm.free l (a.take (i+1))):=⟨HB1.out,by rw[HStep.out];rfl⟩
     clear HNm hisn HStep HB1 HQ h4
     go_wp2
     go_roundw
     case rel=>exact⟨i+1,fr,by omega,by omega,by go_num,by go_num,HV.out⟩
     case measure=>simp[intOf];omega
    |false=>
     have h4:x.op≠4:=of_decide_eq_false HNm.out.symm
     have d4:(x.op != 4)=true:=bne_iff_ne.2 h4
     have HV:Hid (Below w.heap.size w W1∧fr+1=Tm.free l (a.take (i+1))):=⟨HB1.out,by rw[HStep.out];rfl⟩
     clear HNm hisn HStep HB1 HQ h4
     go_wp2
     go_roundw
     case rel=>exact⟨i+1,fr+1,by omega,by omega,by go_num,by go_num,HV.out⟩
     case measure=>simp[intOf];omega
  ·have him:i=n:=by omega
   have hlt2:¬(i:Int)<(n:Int):=by omega
   have hfR:fr=R:=by rw[HQ.out.2];exact HR.out i him
   subst hfR
   have HV:=Lib.hid HQ.out.1
   clear HQ HA HX HC HIn HI HLn HBk HR HLl hlt him hi
   go_wp2
   go_ret
   exact⟨rfl,HV.out⟩
end Go.Proofs.YtcgaeknikfaghaaGreatDoor
