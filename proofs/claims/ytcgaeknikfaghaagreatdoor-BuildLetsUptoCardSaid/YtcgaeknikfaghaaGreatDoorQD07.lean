/- What the proofs of this claim use, text by text. -/
import Derived.Test.YtcgaeknikfaghaaGreatDoorQD06
set_option linter.unusedSimpArgs false
set_option linter.unusedVariables false
set_option maxRecDepth 100000
set_option maxHeartbeats 25600000
namespace Go.Proofs.YtcgaeknikfaghaaGreatDoor
def Bd.Good (D:List Dc) (k:Nat) (x:Sx):Prop:=
 ∀ (sc:Sc) (N:List Nd),Tm.Inv N→Bd.In N (sc.map (·.2))→Bd.St (fun N=>Bd.tm D k sc N x) N∧Bd.Ok (Bd.tm D k sc N x)
theorem Bd.fn_good {D:List Dc} {j:Nat} (hj:∀ y,Bd.Good D j y) (A:List Int) (N:List Nd) (hI:Tm.Inv N) (hA:Bd.In N A):Bd.St (fun N=>Bd.fn D j A N) N∧Bd.Ok (Bd.fn D j A N):=by
 unfold Bd.fn Bd.callF
 cases hd:D[j]? with
 |none=>exact⟨Bd.St.err 0 1 (by decide) hI,.err N (by decide)⟩
 |some d=>
  simp only
  by_cases h1:A.length≠d.par.length
  ·simp only[if_pos h1]
   exact⟨Bd.St.err 0 1 (by decide) hI,.err N (by decide)⟩
  ·simp only[if_neg h1]
   by_cases h2:(List.zip A d.par).any (fun q=>decide (Bd.sortAt N q.1≠q.2.2))=true
   ·rw[if_pos h2]
    refine⟨(Bd.St.err (0:Int) 90 (by decide) hI).congr fun M hp=>?_,.err N (by decide)⟩
    rw[Bd.sorts_ext hp hA,if_pos h2]
   ·rw[if_neg h2]
    obtain⟨g1,g2⟩:=hj d.body (List.zip (d.par.map (·.1)) A) N hI (Bd.zip_in hA)
    refine⟨g1.congr fun M hp=>?_,g2⟩
    rw[Bd.sorts_ext hp hA,if_neg h2]
theorem Bd.In.append {N:List Nd} {a b:List Int} (h:Bd.In N a) (k:Bd.In N b):Bd.In N (a++b):=fun p hp=>(List.mem_append.1 hp).elim (h p) (k p)
theorem Bd.letF_eq (f:Sc→List Nd→Sx→Bans) (sc:Sc) (N:List Nd) (b t:Sx) {m:List (ByteArray×Sx)} (hb:b.list=true) (hm:Bd.binds b.L=some m)
  (h1:(m.any fun q=>Bd.reserved q.1.data.toList)=false) (h2:Bd.twice (m.map (·.1))=false):
  Bd.letF f sc N [b,t]=Bd.andThen (fun N=>Bd.each (f sc) N (m.map (·.2))) (fun ids N=>f (sc++List.zip (m.map (·.1)) ids) N t) 0 N:=by
 unfold Bd.letF
 simp only[hb,hm,h1,h2]
 rfl
theorem Bd.andThen_ok2 {α:Type} {o:Bop α} {g:α→Bop Int} {N:List Nd} (h:∀ N' a,o N=(N',a,0)→Bd.Ok (g a N')):Bd.Ok (Bd.andThen o g 0 N):=by
 cases ho:o N with
 |mk N' r=>
  obtain⟨a,e⟩:=r
  by_cases he:e=0
  ·subst he
   rw[Bd.andThen_ok ho]
   exact h N' a ho
  ·rw[Bd.andThen_err ho he]
   exact .err N' he
theorem Bd.good (D:List Dc):∀ k x,Bd.Good D k x:=by
 refine Bd.induct fun k x hk hx=>?_
 intro sc N hI hsc
 have hfn:∀ j,j<k→∀ A M,Tm.Inv M→Bd.In M A→Bd.St (fun N=>Bd.fn D j A N) M∧Bd.Ok (Bd.fn D j A M):=fun j hj A M hM hA=>Bd.fn_good (fun y=>hk j y hj) A M hM hA
 suffices h:Bd.St (fun N=>Bd.step D k (Bd.fn D) (Bd.tm D k) sc N x) N∧Bd.Ok (Bd.step D k (Bd.fn D) (Bd.tm D k) sc N x) from
  ⟨h.1.congr fun M _=>Bd.tm_eq D k sc M x,by rw[Bd.tm_eq];exact h.2⟩
 have herr:∀ e:Int,e≠0→Bd.St (fun N=>(N,(0:Int),e)) N∧Bd.Ok (N,0,e):=fun e he=>⟨Bd.St.err 0 e he hI,.err N he⟩
 have hE:∀ l:List Sx,(∀ y∈l,y.size<x.size)→Bd.St (fun N=>Bd.each (Bd.tm D k sc) N l) N∧_:=fun l hl=>
  Bd.each_st (f:=Bd.tm D k sc) l N hI fun y hy M hM hp=>hx y (hl y hy) sc M hM (hsc.ext hp)
 unfold Bd.step
 by_cases hl:x.list=true
 ·simp only[if_pos hl]
  unfold Bd.listF
  cases hL:x.L with
  |nil=>exact herr 1 (by decide)
  |cons h r=>
   simp only
   have hr:=hE r fun y hy=>Sx.size_lt (by rw[hL];exact List.mem_cons_of_mem _ hy)
   by_cases h1:h.list=true∨h.k≠3
   ·simp only[if_pos h1];exact herr 101 (by decide)
   simp only[if_neg h1]
   by_cases h2:h.T.data.toList=[108,101,116]
   ·simp only[if_pos h2]
    by_cases hform:∃ b t,r=[b,t]∧b.list=true
    ·obtain⟨b,t,rfl,hb⟩:=hform
     cases hm:Bd.binds b.L with
     |none=>
      have e:∀ M,Bd.letF (Bd.tm D k) sc M [b,t]=(M,0,1):=fun M=>by unfold Bd.letF;simp only[hb,hm];rfl
      simp only[e];exact herr 1 (by decide)
     |some m=>
      by_cases h3:(m.any fun q=>Bd.reserved q.1.data.toList)=true
      ·have e:∀ M,Bd.letF (Bd.tm D k) sc M [b,t]=(M,0,101):=fun M=>by unfold Bd.letF;simp only[hb,hm,h3];rfl
       simp only[e];exact herr 101 (by decide)
      by_cases h4:Bd.twice (m.map (·.1))=true
      ·have e:∀ M,Bd.letF (Bd.tm D k) sc M [b,t]=(M,0,4):=fun M=>by unfold Bd.letF;simp only[hb,hm,Bool.eq_false_iff.2 h3,h4];rfl
       simp only[e];exact herr 4 (by decide)
      have e:=fun M=>Bd.letF_eq (Bd.tm D k) sc M b t hb hm (Bool.eq_false_iff.2 h3) (Bool.eq_false_iff.2 h4)
      simp only[e]
      obtain⟨s1,s2⟩:=Bd.let_sub hL hm
      obtain⟨q1,q2,q3⟩:=hE (m.map (·.2)) s2
      have hnext:∀ N' ids,Bd.each (Bd.tm D k sc) N (m.map (·.2))=(N',ids,0)→Bd.St (fun N=>Bd.tm D k (sc++List.zip (m.map (·.1)) ids) N t) N'∧Bd.Ok (Bd.tm D k (sc++List.zip (m.map (·.1)) ids) N' t):=fun N' ids e=>by
       have i1:=q1.1
       have i2:=q1.2.1
       have i3:=(q2 (by rw[e])).1
       simp only[e] at i1 i2 i3
       refine hx t s1 _ N' i1 ?_
       rw[List.map_append]
       exact(hsc.ext i2).append (Bd.zip_in i3)
      exact⟨Bd.St.andThen q1 fun N' ids e=>(hnext N' ids e).1,Bd.andThen_ok2 fun N' ids e=>(hnext N' ids e).2⟩
    ·have e:∀ M,Bd.letF (Bd.tm D k) sc M r=(M,0,1):=fun M=>by
      unfold Bd.letF
      split
      ·rename_i b t
       rw[if_pos (Bool.eq_false_iff.2 fun hb=>hform ⟨b,t,rfl,hb⟩)]
      ·rfl
     simp only[e];exact herr 1 (by decide)
   simp only[if_neg h2]
   by_cases h3:Bd.op h.T.data.toList r.length≠0
   ·simp only[if_pos h3]
    exact⟨Bd.St.andThen (g:=fun ids N=>Tm.app N (Bd.op h.T.data.toList r.length) ids) (z:=0) hr.1 fun N' ids e=>Bd.St.app _ ids (by have:=hr.1.1;simp only[e] at this;exact this),
     Bd.andThen_ok2 (o:=fun N=>Bd.each (Bd.tm D k sc) N r) (g:=fun ids N=>Tm.app N (Bd.op h.T.data.toList r.length) ids) fun N' ids _=> .app _ _ _⟩
   simp only[if_neg h3]
   by_cases h4:Bd.reserved h.T.data.toList=true
   ·simp only[if_pos h4];exact herr 101 (by decide)
   simp only[if_neg h4]
   by_cases h5:(Bd.bound sc h.T).isSome=true
   ·simp only[if_pos h5];exact herr 100 (by decide)
   simp only[if_neg h5]
   cases hd:Bd.decl D h.T k with
   |none=>exact herr 100 (by decide)
   |some j=>
    simp only
    by_cases h6:(D[j]?.map (·.mac)).getD false=true
    ·simp only[if_pos h6]
     have hnext:∀ N' ids,Bd.each (Bd.tm D k sc) N r=(N',ids,0)→_:=fun N' ids e=>
      hfn j (Bd.decl_lt hd).1 ids N' (by have:=hr.1.1;simp only[e] at this;exact this) (by have:=(hr.2.1 (by rw[e])).1;simp only[e] at this;exact this)
     exact⟨Bd.St.andThen (g:=fun ids N=>Bd.fn D j ids N) (z:=0) hr.1 fun N' ids e=>(hnext N' ids e).1,
      Bd.andThen_ok2 (o:=fun N=>Bd.each (Bd.tm D k sc) N r) (g:=fun ids N=>Bd.fn D j ids N) fun N' ids e=>(hnext N' ids e).2⟩
    ·simp only[if_neg h6];exact herr 100 (by decide)
 ·simp only[if_neg hl]
  unfold Bd.atomF
  by_cases h1:x.k=4
  ·simp only[if_pos h1]
   by_cases h2:isT x.T.data.toList=true
   ·simp only[if_pos h2];exact⟨Bd.St.num _ hI,.num _ _⟩
   ·simp only[if_neg h2];exact herr 101 (by decide)
  simp only[if_neg h1]
  by_cases h2:x.k=6
  ·simp only[if_pos h2];exact⟨Bd.St.str _ hI,.str _ _⟩
  simp only[if_neg h2]
  by_cases h3:x.k=3
  ·simp only[if_pos h3]
   unfold Bd.nameF
   by_cases h4:x.T.data.toList=[116,114,117,101]∨x.T.data.toList=[102,97,108,115,101]
   ·simp only[if_pos h4];exact⟨Bd.St.bool _ hI,.add _ _⟩
   simp only[if_neg h4]
   by_cases h5:Bd.reserved x.T.data.toList=true
   ·simp only[if_pos h5];exact herr 101 (by decide)
   simp only[if_neg h5]
   cases hb:Bd.bound sc x.T with
   |some id=>exact⟨Bd.St.pure id hI,fun _=>hsc id (Bd.bound_in hb),fun e=>absurd rfl e⟩
   |none=>
    simp only
    cases hd:Bd.decl D x.T k with
    |none=>exact herr 100 (by decide)
    |some j=>
     simp only
     cases hj:D[j]? with
     |none=>exact herr 100 (by decide)
     |some d=>
      simp only
      by_cases h6:d.mac=true
      ·simp only[if_pos h6]
       by_cases h7:d.par=[]
       ·simp only[if_pos h7]
        exact hfn j (Bd.decl_lt hd).1 [] N hI fun p hp=>(List.not_mem_nil hp).elim
       ·simp only[if_neg h7];exact herr 1 (by decide)
      ·simp only[if_neg h6];exact⟨Bd.St.const _ _ hI,.const _ _ _⟩
  ·simp only[if_neg h3];exact herr 101 (by decide)
theorem Bd.again (D:List Dc) (k:Nat) (sc:Sc) (N:List Nd) (x:Sx) (hI:Tm.Inv N) (hsc:Bd.In N (sc.map (·.2))):
  Bd.tm D k sc (Bd.tm D k sc N x).1 x=Bd.tm D k sc N x:=by
 obtain⟨⟨h1,h2,h3,h4⟩,h5⟩:=Bd.good D k x sc N hI hsc
 by_cases he:(Bd.tm D k sc N x).2.2=0
 ·have:=h3 he _ h1 (List.prefix_refl _)
  simp only at this
  rw[this,←he]
 ·exact h4 he
end Go.Proofs.YtcgaeknikfaghaaGreatDoor
