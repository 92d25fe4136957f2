/- What the proofs of this claim use, text by text. -/
import Derived.Test.YtcgaeknikfaghaaGreatDoorQD21
import Derived.Shelf.Abstract
import Derived.Deep.CutBlock
import Derived.Deep.DeepCutAuto
set_option linter.unusedSimpArgs false
set_option linter.unusedVariables false
set_option maxRecDepth 100000
set_option maxHeartbeats 25600000
namespace Go.Proofs.YtcgaeknikfaghaaGreatDoor
theorem Bd.key_cases {x y:Sx} (h:x.key false=y.key false):(x.list=true∧y.list=true∧x.L.map (Sx.key false)=y.L.map (Sx.key false))∨(x.list=false∧y.list=false∧x.k=y.k∧x.T=y.T):=by
 obtain⟨l,k,T,ta,a,L⟩:=x
 obtain⟨l',k',T',ta',a',L'⟩:=y
 rw[Sx.key,Sx.key,Sx.keys_map,Sx.keys_map] at h
 cases l <;> cases l'
 ·simp only[Bool.false_eq_true,if_false] at h
  injection h with h1 h2 h3
  exact .inr ⟨rfl,rfl,h2,h3⟩
 ·simp only[Bool.false_eq_true,if_false,if_true] at h
  injection h with h1
  cases h1
 ·simp only[Bool.false_eq_true,if_false,if_true] at h
  injection h with h1
  cases h1
 ·simp only[if_true] at h
  injection h with _ _ _ _ _ h6
  exact .inl ⟨rfl,rfl,h6⟩
theorem Bd.each_key {f:List Nd→Sx→Bans}:∀ (l l':List Sx) (N:List Nd),l.map (Sx.key false)=l'.map (Sx.key false)→(∀ y∈l,∀ y',y.key false=y'.key false→∀ N,f N y=f N y')→Bd.each f N l=Bd.each f N l'
 |[],[],_,_,_=>rfl
 |[],_::_,_,h,_=>by cases h
 |_::_,[],_,h,_=>by cases h
 |x::l,x'::l',N,h,hf=>by
  rw[List.map_cons,List.map_cons] at h
  injection h with h1 h2
  rw[Bd.each,Bd.each,hf x List.mem_cons_self x' h1]
  obtain⟨N',id,e⟩:=f N x'
  show(if e=0 then _ else _)=(if e=0 then _ else _)
  rw[Bd.each_key l l' N' h2 fun y hy=>hf y (List.mem_cons_of_mem _ hy)]
theorem Bd.map_one {l:List Sx} {n':Sx} {l':List Sx} (h:l.map (Sx.key false)=(n'::l').map (Sx.key false)):∃ n m,l=n::m∧n.key false=n'.key false∧m.map (Sx.key false)=l'.map (Sx.key false):=by
 cases l with
 |nil=>cases h
 |cons n m=>
  rw[List.map_cons,List.map_cons] at h
  injection h with h1 h2
  exact⟨n,m,rfl,h1,h2⟩
theorem Bd.bind1_key {x y:Sx} (h:x.key false=y.key false):(Bd.bind1 x=none∧Bd.bind1 y=none)∨∃ s t u,Bd.bind1 x=some (s,t)∧Bd.bind1 y=some (s,u)∧t.key false=u.key false:=by
 rcases Bd.key_cases h with⟨h1,h2,h3⟩|⟨h1,h2,_⟩
 ·unfold Bd.bind1
  match hx:x.L,hy:y.L with
  |[],l'=>
   rw[hx,hy] at h3
   have:l'=[]:=by simpa using h3.symm
   subst this
   exact .inl ⟨rfl,rfl⟩
  |[a],l'=>
   rw[hx,hy] at h3
   obtain⟨a',m,rfl,_,e⟩:=Bd.map_one h3.symm
   have:m=[]:=by simpa using e
   subst this
   exact .inl ⟨rfl,rfl⟩
  |[a,t],l'=>
   rw[hx,hy] at h3
   obtain⟨a',m,rfl,e1,e⟩:=Bd.map_one h3.symm
   obtain⟨t',m,rfl,e2,e⟩:=Bd.map_one e
   have:m=[]:=by simpa using e
   subst this
   simp only[h1,h2,true_and]
   rcases Bd.key_cases e1 with⟨k1,k2,_⟩|⟨k1,k2,k3,k4⟩
   ·refine .inl ⟨?_,?_⟩
    ·rw[if_neg (by rw[k2];exact fun e=>by cases e.1)]
    ·rw[if_neg (by rw[k1];exact fun e=>by cases e.1)]
   ·by_cases hk:a.k=3
    ·exact .inr ⟨a.T,t,t',if_pos ⟨k2,hk⟩,by rw[if_pos ⟨k1,k3▸hk⟩,k4],e2.symm⟩
    ·exact .inl ⟨if_neg fun e=>hk e.2,if_neg fun e=>hk (k3.symm▸e.2)⟩
  |a::t::b::l,l'=>
   rw[hx,hy] at h3
   obtain⟨a',m,rfl,e1,e⟩:=Bd.map_one h3.symm
   obtain⟨t',m,rfl,e2,e⟩:=Bd.map_one e
   obtain⟨b',m,rfl,e3,e⟩:=Bd.map_one e
   exact .inl ⟨rfl,rfl⟩
 ·have hn:∀ z:Sx,z.list=false→Bd.bind1 z=none:=fun z hz=>by
   unfold Bd.bind1
   split
   ·rw[if_neg (by rw[hz];exact fun e=>by cases e.1)]
   ·rfl
  exact .inl ⟨hn x h1,hn y h2⟩
theorem Bd.binds_key:∀ {l l':List Sx},l.map (Sx.key false)=l'.map (Sx.key false)→(Bd.binds l=none∧Bd.binds l'=none)∨
  ∃ m m',Bd.binds l=some m∧Bd.binds l'=some m'∧m.map (·.1)=m'.map (·.1)∧(m.map (·.2)).map (Sx.key false)=(m'.map (·.2)).map (Sx.key false)
 |[],[],_=> .inr ⟨[],[],rfl,rfl,rfl,rfl⟩
 |[],_::_,h=>by cases h
 |_::_,[],h=>by cases h
 |x::l,x'::l',h=>by
  rw[List.map_cons,List.map_cons] at h
  injection h with h1 h2
  rw[Bd.binds,Bd.binds]
  rcases Bd.bind1_key h1 with⟨e1,e2⟩|⟨s,t,u,e1,e2,e3⟩
  ·rw[e1,e2];exact .inl ⟨rfl,rfl⟩
  ·rcases Bd.binds_key h2 with⟨f1,f2⟩|⟨m,m',f1,f2,f3,f4⟩
   ·rw[e1,e2,f1,f2];exact .inl ⟨rfl,rfl⟩
   ·rw[e1,e2,f1,f2]
    exact .inr ⟨(s,t)::m,(s,u)::m',rfl,rfl,by simp[f3],by simp only[List.map_cons,e3];rw[f4]⟩
theorem Bd.key_same (D:List Dc) (k:Nat):∀ (n:Nat) (x y:Sx),x.size≤n→x.key false=y.key false→∀ (sc:Sc) (N:List Nd),Bd.tm D k sc N x=Bd.tm D k sc N y
 |0,x,_,hx,_,_,_=>absurd x.size_pos (by omega)
 |n+1,x,y,hx,hxy,sc,N=>by
  have ih:∀ a,a.size<x.size→∀ b,a.key false=b.key false→∀ sc N,Bd.tm D k sc N a=Bd.tm D k sc N b:=fun a ha b hab sc N=>Bd.key_same D k n a b (by omega) hab sc N
  rw[Bd.tm_eq,Bd.tm_eq]
  unfold Bd.step
  rcases Bd.key_cases hxy with⟨h1,h2,h3⟩|⟨h1,h2,h3,h4⟩
  ·rw[if_pos h1,if_pos h2]
   unfold Bd.listF
   cases hL:x.L with
   |nil=>
    rw[hL] at h3
    have:y.L=[]:=by simpa using h3.symm
    rw[this]
   |cons h r=>
    rw[hL] at h3
    obtain⟨h',r',hL',e1,e2⟩:=Bd.map_one h3.symm
    rw[hL']
    simp only
    have hlen:r'.length=r.length:=by simpa using congrArg List.length e2
    have hr:∀ y∈r,y.size<x.size:=fun y hy=>Sx.size_lt (by rw[hL];exact List.mem_cons_of_mem _ hy)
    have hE:∀ N,Bd.each (Bd.tm D k sc) N r=Bd.each (Bd.tm D k sc) N r':=fun N=>Bd.each_key r r' N e2.symm fun a ha b hab N=>ih a (hr a ha) b hab sc N
    rcases Bd.key_cases e1 with⟨k1,k2,_⟩|⟨k1,k2,k3,k4⟩
    ·rw[if_pos (.inl k2),if_pos (.inl k1)]
    ·rw[k1,k2,k3,k4,hE,hlen]
     congr 1
     congr 1
     unfold Bd.letF
     match hr2:r,hr3:r' with
     |[],[]=>rfl
     |[],_::_=>simp at hlen
     |_::_,[]=>simp at hlen
     |[_],[_]=>rfl
     |[_],_::_::_=>simp at hlen
     |_::_::_,[_]=>simp at hlen
     |[b,t],[b',t']=>
      simp only
      obtain⟨b2,r2,e,f1,f2⟩:=Bd.map_one e2
      cases e
      obtain⟨t2,r2,e,f3,_⟩:=Bd.map_one f2
      cases e
      rcases Bd.key_cases f1 with⟨g1,g2,g3⟩|⟨g1,g2,_⟩
      ·rw[g1,g2]
       rcases Bd.binds_key g3 with⟨j1,j2⟩|⟨m',m,j1,j2,j3,j4⟩
       ·rw[j1,j2]
       ·rw[j1,j2]
        simp only
        obtain⟨s1,s2⟩:=Bd.let_sub hL j2
        have hany:∀ m:List (ByteArray×Sx),(m.any fun q=>Bd.reserved q.1.data.toList)=(m.map (·.1)).any fun s=>Bd.reserved s.data.toList:=fun m=>by rw[List.any_map];rfl
        rw[hany m,hany m',j3,Bd.each_key (m.map (·.2)) (m'.map (·.2)) N j4.symm fun a ha b hab N=>ih a (s2 a ha) b hab sc N]
        split
        ·rfl
        ·split
         ·rfl
         ·split
          ·rfl
          ·split
           ·exact ih t s1 t' f3.symm _ _
           ·rfl
      ·rw[g1,g2];rfl
     |[_,_],_::_::_::_=>simp at hlen
     |_::_::_::_,[_,_]=>simp at hlen
     |_::_::_::_,_::_::_::_=>rfl
  ·rw[if_neg (by rw[h1];decide),if_neg (by rw[h2];decide),h3,h4]
end Go.Proofs.YtcgaeknikfaghaaGreatDoor
namespace Go.Proofs.YtcgaeknikfaghaaGreatDoor
theorem Lx.ends_41:Lx.Ends 41:=⟨by decide,by decide,by decide,by decide⟩
def Lx.Behind (m:List UInt8):Prop:=m=[]∨∃ b m',m=b::m'∧Lx.Ends b
theorem Lx.lex_tok {x s:List UInt8} {k:Int} (h:Lx.Whole x k s) {m:List UInt8} (hm:Lx.Behind m) (n:Nat):
  ∃ q,Lx.lex (n+1) (x++m)=((k,s,q)::(Lx.lex n m).1,(Lx.lex n m).2):=by
 rcases hm with rfl|⟨b,m,rfl,hb⟩
 ·refine⟨x.length,?_⟩
  rw[List.append_nil,Lx.whole_alone h,Lx.lex_nil n rfl]
 ·obtain⟨h1,c,t,rfl,h2,h3,h4⟩:=h
  have hs:Lx.skip false (c::t++b::m)=c::(t++b::m):=Lx.skip_token _ h2 h3 h4
  have ho:=(Lx.one_app hb m c t).1 (by rw[h1])
  rw[h1,List.cons_append] at ho
  have hl:=Lx.lex_ok n hs h2 (by rw[ho])
  rw[ho] at hl
  exact⟨_,hl⟩
theorem Lx.lex_open (n:Nat) (m:List UInt8):∃ q,Lx.lex (n+1) (40::m)=((1,[40],q)::(Lx.lex n m).1,(Lx.lex n m).2):=by
 have ho:Lx.one (40::m)=(1,[40],0,m):=by unfold Lx.one;dsimp only;rw[if_pos (by decide)]
 have hl:=Lx.lex_ok n (Lx.skip_token (c:=40) m (by decide) (by decide) (by decide)) (by decide) (by rw[ho])
 rw[ho] at hl
 exact⟨_,hl⟩
theorem Lx.lex_close (n:Nat) (m:List UInt8):∃ q,Lx.lex (n+1) (41::m)=((2,[41],q)::(Lx.lex n m).1,(Lx.lex n m).2):=by
 have ho:Lx.one (41::m)=(2,[41],0,m):=by unfold Lx.one;dsimp only;rw[if_neg (by decide),if_pos (by decide)]
 have hl:=Lx.lex_ok n (Lx.skip_token (c:=41) m (by decide) (by decide) (by decide)) (by decide) (by rw[ho])
 rw[ho] at hl
 exact⟨_,hl⟩
theorem Lx.lex_blank (n:Nat) (m:List UInt8):Lx.lex n (32::m)=Lx.lex n m:=Lx.lex_skip n (Lx.skip_blank m (by decide))
abbrev iSays (o:ITok):Int×List UInt8:=(o.1,o.2.1.data.toList)
def Lexed (L:List Sx) (t m:List UInt8) (T:List (Int×List UInt8)):Prop:=
 T.length≤2*Sx.sizes L∧(∀ n,∃ Q:List Lx.Tok,Q.map Lx.says=T∧Lx.lex (n+T.length) (t++m)=(Q++(Lx.lex n m).1,(Lx.lex n m).2))∧
 ∀ l:List ITok,l.map iSays=T→∃ M,Reads l M∧M.map (Sx.key false)=L.map (Sx.key false)∧Sx.deeps M=Sx.deeps L
theorem Sx.texts_behind {l:List Sx} {r m:List UInt8} (h:Sx.texts false l=some r) (hm:Lx.Behind m):Lx.Behind (r++m):=by
 cases l with
 |nil=>
  rw[Sx.texts] at h
  injection h with h
  rw[←h]
  exact hm
 |cons y l=>
  rw[Sx.texts] at h
  cases e:y.text with
  |none=>rw[e] at h;cases h
  |some ty=>
   rw[e] at h
   simp only at h
   obtain⟨r',_,rfl⟩:=Option.map_eq_some_iff.1 h
   exact .inr ⟨32,ty++r'++m,by simp,Lx.ends_32⟩
theorem Sx.lexed:∀ (k:Nat) (x:Sx) (t m:List UInt8),x.size≤k→x.text=some t→Lx.Behind m→∃ T,Lexed [x] t m T:=by
 intro k
 induction k with
 |zero=>
  intro x t m h
  exact absurd x.size_pos (by omega)
 |succ k ih=>
  intro x t m h ht hm
  cases hx:x.list
  ·rw[Sx.text_atom hx] at ht
   split at ht
   ·rename_i hc
    injection ht with ht
    simp only[Bool.and_eq_true,Bool.not_eq_true',decide_eq_false_iff_not,List.isEmpty_iff] at hc
    obtain⟨⟨⟨h1,h2⟩,h3⟩,h4⟩:=hc
    have hw:=(Lx.okShow_whole h4).1
    rw[ht] at hw
    refine⟨[(x.k,x.T.data.toList)],by have:=x.size_pos;simp[Sx.sizes];omega,fun n=>?_,fun l hl=>?_⟩
    ·obtain⟨q,hq⟩:=Lx.lex_tok hw hm n
     exact⟨[(x.k,x.T.data.toList,q)],rfl,hq⟩
    ·cases l with
     |nil=>simp at hl
     |cons o l=>
      rw[List.map_cons,List.cons.injEq] at hl
      obtain⟨hl,h3'⟩:=hl
      obtain rfl:l=[]:=by simpa using h3'
      obtain⟨o1,o2,o3⟩:=o
      simp only[Prod.mk.injEq] at hl
      obtain⟨rfl,e⟩:=hl
      have e2:o2=x.T:=by
       have e3:=Array.toList_inj.1 e
       cases o2
       cases hT:x.T
       rw[hT] at e3
       simp only at e3
       rw[e3]
      refine⟨_,.atom (x.k,o2,o3) [] [] h1 h2 .nil,?_,?_⟩
      ·rw[List.map_cons,List.map_nil,List.map_cons,List.map_nil,Sx.key_atom hx,h3,Sx.key_atom (x:=Sx.atom _) rfl,e2]
       rfl
      ·show max (Sx.deep _) 0=max (Sx.deep x) 0
       rw[Sx.deep_atom hx,Sx.deep_atom (x:=Sx.atom _) rfl]
   ·cases ht
  ·rw[Sx.text_list hx] at ht
   obtain⟨r,hr,rfl⟩:=Option.map_eq_some_iff.1 ht
   have hL:∀ (L:List Sx) (f:Bool) (r m:List UInt8),(∀ y∈L,y.size≤k)→Sx.texts f L=some r→Lx.Behind m→∃ T,Lexed L r m T:=by
    intro L
    induction L with
    |nil=>
     intro f r m _ h hm
     rw[Sx.texts] at h
     injection h with h
     subst h
     refine⟨[],Nat.zero_le _,fun n=>⟨[],rfl,rfl⟩,fun l hl=>?_⟩
     obtain rfl:l=[]:=by simpa using hl
     exact⟨[],.nil,rfl,rfl⟩
    |cons y L ihL=>
     intro f r m hy h hm
     rw[Sx.texts] at h
     cases e:y.text with
     |none=>rw[e] at h;cases h
     |some ty=>
      rw[e] at h
      simp only at h
      obtain⟨r',hr',rfl⟩:=Option.map_eq_some_iff.1 h
      obtain⟨T',a1,a2,a3⟩:=ihL false r' m (fun z hz=>hy z (List.mem_cons_of_mem _ hz)) hr' hm
      obtain⟨T,b1,b2,b3⟩:=ih y ty (r'++m) (hy y List.mem_cons_self) e (Sx.texts_behind hr' hm)
      refine⟨T++T',?_,fun n=>?_,fun l hl=>?_⟩
      ·rw[List.length_append]
       simp only[Sx.sizes] at b1 ⊢
       omega
      ·obtain⟨Q',q1,q2⟩:=a2 n
       obtain⟨Q,p1,p2⟩:=b2 (n+T'.length)
       refine⟨Q++Q',by rw[List.map_append,p1,q1],?_⟩
       have e0:Lx.lex (n+(T++T').length) (((if f=true then[] else[32])++ty++r')++m)=Lx.lex (n+T'.length+T.length) (ty++(r'++m)):=by
        rw[List.length_append,show n+(T.length+T'.length)=n+T'.length+T.length by omega]
        cases f
        ·simp only[Bool.false_eq_true,if_false,List.cons_append,List.nil_append,List.append_assoc]
         exact Lx.lex_blank _ _
        ·simp only[if_true,List.nil_append,List.append_assoc]
       rw[e0,p2,q2]
       simp
      ·obtain⟨l1,l2,rfl,h1,h2⟩:=List.map_eq_append_iff.1 hl
       obtain⟨M,m1,m2,m3⟩:=b3 l1 h1
       obtain⟨M',n1,n2,n3⟩:=a3 l2 h2
       refine⟨M++M',m1.app n1,?_,?_⟩
       ·rw[List.map_append,m2,n2]
        rfl
       ·rw[Sx.deeps_app,m3,n3]
        simp[Sx.deeps]
   obtain⟨T,c1,c2,c3⟩:=hL x.L true r (41::m) (fun y hy=>by have:=Sx.size_lt hy;omega) hr (.inr ⟨41,m,rfl,Lx.ends_41⟩)
   refine⟨(1,[40])::(T++[(2,[41])]),?_,fun n=>?_,fun l hl=>?_⟩
   ·have:=x.size_eq
    simp only[List.length_cons,List.length_append,List.length_nil,Sx.sizes]
    omega
   ·obtain⟨Q,q1,q2⟩:=c2 (n+1)
    obtain⟨q,hq⟩:=Lx.lex_open (n+1+T.length) (r++41::m)
    obtain⟨q',hq'⟩:=Lx.lex_close n m
    refine⟨(1,[40],q)::(Q++[(2,[41],q')]),by simp[q1],?_⟩
    have e0:Lx.lex (n+((1,[40])::(T++[(2,[41])]):List (Int×List UInt8)).length) (40::(r++[41])++m)=Lx.lex (n+1+T.length+1) (40::(r++41::m)):=by
     rw[List.length_cons,List.length_append,List.length_singleton,show n+(T.length+1+1)=n+1+T.length+1 by omega]
     simp
    rw[e0,hq,q2,hq']
    simp
   ·cases l with
    |nil=>simp at hl
    |cons o l=>
     rw[List.map_cons,List.cons.injEq] at hl
     obtain⟨ho,hl⟩:=hl
     obtain⟨l1,l2,rfl,h1,h2⟩:=List.map_eq_append_iff.1 hl
     cases l2 with
     |nil=>simp at h2
     |cons c l3=>
      rw[List.map_cons,List.cons.injEq] at h2
      obtain⟨h2,h3⟩:=h2
      obtain rfl:l3=[]:=by simpa using h3
      obtain⟨M,m1,m2,m3⟩:=c3 l1 h1
      refine⟨_,.list o c l1 [] M [] (Prod.mk.inj ho).1 (Prod.mk.inj h2).1 m1 .nil,?_,?_⟩
      ·rw[List.map_cons,List.map_nil,List.map_cons,List.map_nil,Sx.key_list hx,Sx.key_list (x:=Sx.node _ _) rfl]
       show[Sx.mk true 0 _ 0 _ (M.map _)]=_
       rw[m2]
       rfl
      ·show max (Sx.deep _) 0=max (Sx.deep x) 0
       rw[Sx.deep_list hx,Sx.deep_list (x:=Sx.node _ _) rfl]
       show max (Sx.deeps M+1) _=_
       rw[m3]
end Go.Proofs.YtcgaeknikfaghaaGreatDoor
namespace Go.Proofs.YtcgaeknikfaghaaGreatDoor
open Go.RowKit
theorem kdigit (c:UInt8) (w:World):Calls Tryz.prog 120 #[.int .i32 (c.toNat:Nat)] w fun e w'=>e=.returned (.bool (Lx.digit c))∧w'=w:=by
 go_enter Tryz.func120,Tryz.ntmps120
 go_wp2
 all_goals
  go_ret
  exact⟨ret_b (by rw[Bool.eq_iff_iff];simp[Lx.digit] <;> omega),rfl⟩
theorem kblank (c:UInt8) (w:World):Calls Tryz.prog 113 #[.int .i32 (c.toNat:Nat)] w fun e w'=>e=.returned (.bool (Lx.blank c))∧w'=w:=by
 by_cases hm:Lx.blank c=true
 ·rw[hm]
  have hm':c.toNat=9∨c.toNat=10∨c.toNat=13∨c.toNat=32:=by
   simp[Lx.blank] at hm
   omega
  clear hm
  rcases hm' with h|h|h|h
  all_goals
   rw[h]
   clear h
   go_enter Tryz.func113,Tryz.ntmps113
   go_wp2
   go_ret
   exact⟨rfl,rfl⟩
 ·rw[Bool.eq_false_iff.2 hm]
  have hm':(c.toNat:Int)≠9∧(c.toNat:Int)≠10∧(c.toNat:Int)≠13∧(c.toNat:Int)≠32:=by
   simp[Lx.blank] at hm
   omega
  obtain⟨m1,m2,m3,m4⟩:=hm'
  clear hm
  go_enter Tryz.func113,Tryz.ntmps113
  go_wp2
  go_ret
  exact⟨rfl,rfl⟩
theorem kbit (c:UInt8) (w:World):Calls Tryz.prog 181 #[.int .i32 (c.toNat:Nat)] w fun e w'=>e=.returned (.bool (Lx.bit c))∧w'=w:=by
 go_enter Tryz.func181,Tryz.ntmps181
 go_wp2
 all_goals
  go_ret
  exact⟨ret_b (by rw[Bool.eq_iff_iff];simp[Lx.bit] <;> omega),rfl⟩
theorem khex (c:UInt8) (w:World):Calls Tryz.prog 180 #[.int .i32 (c.toNat:Nat)] w fun e w'=>e=.returned (.bool (Lx.hex c))∧w'=w:=by
 have HB:=Lib.hid (kdigit c w)
 obtain⟨bl,hbl⟩:∃ b,Hid (Lx.digit c=b):=⟨_,rfl⟩
 rw[hbl.out] at HB
 cases bl
 all_goals
  go_enter Tryz.func180,Tryz.ntmps180
  go_wp2_with (go_at_call 120;refine HB.out.mono ?_;rintro e w1 ⟨rfl,rfl⟩)
 all_goals
  go_ret
  exact⟨ret_b (by rw[Lx.hex,hbl.out,Bool.eq_iff_iff];simp <;> omega),rfl⟩
theorem kscripts (c:UInt8) (w:World):Calls Tryz.prog 87 #[.int .i32 (c.toNat:Nat)] w fun e w'=>e=.returned (.bool (Lx.good c))∧w'=w:=by
 have HB:=Lib.hid (kblank c w)
 obtain⟨bl,hbl⟩:∃ b,Hid (Lx.blank c=b):=⟨_,rfl⟩
 rw[hbl.out] at HB
 cases bl
 all_goals
  go_enter Tryz.func87,Tryz.ntmps87
  go_wp2_with (go_at_call 113;refine HB.out.mono ?_;rintro e w1 ⟨rfl,rfl⟩)
 all_goals
  go_ret
  exact⟨ret_b (by rw[Lx.good,hbl.out,Bool.eq_iff_iff];simp <;> omega),rfl⟩
theorem kclos1 (c:UInt8) (w:World):Calls Tryz.prog 114 #[.int .i32 (c.toNat:Nat)] w fun e w'=>e=.returned (.bool (!decide (c.toNat=10)&&Lx.good c))∧w'=w:=by
 have HB:=Lib.hid (kscripts c w)
 obtain⟨bl,hbl⟩:∃ b,Hid (Lx.good c=b):=⟨_,rfl⟩
 rw[hbl.out] at HB ⊢
 go_enter Tryz.func114,Tryz.ntmps114
 go_wp2_with (go_at_call 87;refine HB.out.mono ?_;rintro e w1 ⟨rfl,rfl⟩)
 all_goals
  go_ret
  exact⟨ret_b (by rw[Bool.eq_iff_iff];simp <;> omega),rfl⟩
theorem kclos2 (c:UInt8) (w:World):Calls Tryz.prog 145 #[.int .i32 (c.toNat:Nat)] w fun e w'=>e=.returned (.bool (!decide (c.toNat=124)&&Lx.good c))∧w'=w:=by
 have HB:=Lib.hid (kscripts c w)
 obtain⟨bl,hbl⟩:∃ b,Hid (Lx.good c=b):=⟨_,rfl⟩
 rw[hbl.out] at HB ⊢
 go_enter Tryz.func145,Tryz.ntmps145
 go_wp2_with (go_at_call 87;refine HB.out.mono ?_;rintro e w1 ⟨rfl,rfl⟩)
 all_goals
  go_ret
  exact⟨ret_b (by rw[Bool.eq_iff_iff];simp <;> omega),rfl⟩
theorem kclos3 (c:UInt8) (w:World):Calls Tryz.prog 147 #[.int .i32 (c.toNat:Nat)] w fun e w'=>e=.returned (.bool (!decide (c.toNat=34)&&Lx.good c))∧w'=w:=by
 have HB:=Lib.hid (kscripts c w)
 obtain⟨bl,hbl⟩:∃ b,Hid (Lx.good c=b):=⟨_,rfl⟩
 rw[hbl.out] at HB ⊢
 go_enter Tryz.func147,Tryz.ntmps147
 go_wp2_with (go_at_call 87;refine HB.out.mono ?_;rintro e w1 ⟨rfl,rfl⟩)
 all_goals
  go_ret
  exact⟨ret_b (by rw[Bool.eq_iff_iff];simp <;> omega),rfl⟩
theorem knamed (c:UInt8) (w:World):Calls Tryz.prog 122 #[.int .i32 (c.toNat:Nat)] w fun e w'=>e=.returned (.bool (Lx.name c))∧w'=w:=by
 have HB:=Lib.hid (kdigit c w)
 by_cases hm:Lx.marks.contains c.toNat=true
 ·have e:Lx.name c=true:=by rw[Lx.name,hm,Bool.or_true]
  rw[e]
  have hm':c.toNat=126∨c.toNat=33∨c.toNat=64∨c.toNat=36∨c.toNat=37∨c.toNat=94∨c.toNat=38∨c.toNat=42∨c.toNat=95∨c.toNat=45∨c.toNat=43∨c.toNat=61∨c.toNat=60∨c.toNat=62∨c.toNat=46∨c.toNat=63∨c.toNat=47:=by
   simpa [Lx.marks] using hm
  clear hm e
  rcases hm' with h|h|h|h|h|h|h|h|h|h|h|h|h|h|h|h|h
  all_goals
   rw[h] at HB ⊢
   clear h
   go_enter Tryz.func122,Tryz.ntmps122
   go_wp2
   go_ret
   exact⟨rfl,rfl⟩
 ·have hm0:=Bool.eq_false_iff.2 hm
  have hm':(c.toNat:Int)≠126∧(c.toNat:Int)≠33∧(c.toNat:Int)≠64∧(c.toNat:Int)≠36∧(c.toNat:Int)≠37∧(c.toNat:Int)≠94∧(c.toNat:Int)≠38∧(c.toNat:Int)≠42∧(c.toNat:Int)≠95∧(c.toNat:Int)≠45∧(c.toNat:Int)≠43∧(c.toNat:Int)≠61∧(c.toNat:Int)≠60∧(c.toNat:Int)≠62∧(c.toNat:Int)≠46∧(c.toNat:Int)≠63∧(c.toNat:Int)≠47:=by
   simp[Lx.marks] at hm0
   omega
  obtain⟨m1,m2,m3,m4,m5,m6,m7,m8,m9,m10,m11,m12,m13,m14,m15,m16,m17⟩:=hm'
  obtain⟨bl,hbl⟩:∃ b,Hid (Lx.digit c=b):=⟨_,rfl⟩
  rw[hbl.out] at HB
  have HM:=Lib.hid hm0
  clear hm hm0
  cases bl
  all_goals
   go_enter Tryz.func122,Tryz.ntmps122
   go_wp2_with (go_at_call 120;refine HB.out.mono ?_;rintro e w1 ⟨rfl,rfl⟩)
  all_goals
   go_ret
   exact⟨ret_b (by rw[Lx.name,hbl.out,HM.out,Bool.eq_iff_iff];simp <;> omega),rfl⟩
end Go.Proofs.YtcgaeknikfaghaaGreatDoor
namespace Go.Proofs.YtcgaeknikfaghaaGreatDoor
open Go.RowKit Go.Shelf
theorem takeWhile_at (p:UInt8→Bool) (s:ByteArray) {i:Nat} (h:i<s.size):(s.data.toList.drop i).takeWhile p=if p s[i] then s[i]::(s.data.toList.drop (i+1)).takeWhile p else[]:=by
 rw[drop_at s h,List.takeWhile_cons]
theorem rune_c (c:UInt8):wrap32 (c.toNat:Int)=(c.toNat:Int):=IntWalk.wrap32_in _ (by have:=c.toNat_lt;omega)
def Asks (g:Nat) (p:UInt8→Bool):Prop:=∀ (c:UInt8) (W:World),Calls Tryz.prog g #[.int .i32 (c.toNat:Nat)] W fun e w'=>e=.returned (.bool (p c))∧w'=W
theorem kspan (g:Nat) (eg:∀ args w,(callFunc g args).run Tryz.prog w=.ok (.enter g args) w) (p:UInt8→Bool) (hp:Asks g p) (s:ByteArray) (w:World) (hs:s.size≤maxLen):
  Calls Tryz.prog 112 #[.string s,.func (.func g) #[] #[]] w fun e w'=>e=.returned (.int .i64 ((s.data.toList.takeWhile p).length:Nat))∧w'=w:=by
 unfold maxLen at hs
 obtain⟨X,HX⟩:∃ X,Hid ((s.data.toList.takeWhile p).length=X):=⟨_,rfl⟩
 rw[HX.out]
 have HP:=Lib.hid hp
 clear hp
 go_enter Tryz.func112,Tryz.ntmps112
 go_wp2
 go_loopw [8] (fun iv wr=>∃ i:Nat,i≤s.size∧iv=.int .i64 (i:Nat)∧wr=w∧Hid (i+((s.data.toList.drop i).takeWhile p).length=X)) (fun iv _=>s.size-(intOf iv).toNat)
 case atStart=>exact⟨0,Nat.zero_le _,rfl,rfl,Lib.hid (by rw[←HX.out,List.drop_zero,Nat.zero_add])⟩
 case round=>
  clear HX
  obtain⟨i,hi,rfl,rfl,HI⟩:=hrel
  by_cases hlt:i<s.size
  ·have HC:=Lib.hid (HP.out s[i] wr)
   have hw:=rune_c s[i]
   have hK:=HI.out
   rw[takeWhile_at p s hlt] at hK
   obtain⟨b,hb⟩:∃ b,p s[i]=b:=⟨_,rfl⟩
   rw[hb] at HC hK
   have hlt':(i:Int)<(s.size:Int):=by omega
   clear HI hb HP
   cases b with
   |false=>
    obtain rfl:i=X:=by simpa using hK
    clear hK
    go_wp2_with (go_at_fn g;refine HC.out.mono ?_;rintro e w1 ⟨rfl,rfl⟩)
    go_ret
    exact⟨rfl,by trivial⟩
   |true=>
    have HK:Hid (i+1+((s.data.toList.drop (i+1)).takeWhile p).length=X):=Lib.hid (by rw[←hK,if_pos rfl,List.length_cons];omega)
    clear hK
    go_wp2_with (go_at_fn g;refine HC.out.mono ?_;rintro e w1 ⟨rfl,rfl⟩)
    go_roundw
    case rel=>exact⟨i+1,by omega,by go_num,by trivial,HK⟩
    case measure=>simp[intOf];omega
  ·obtain rfl:i=s.size:=by omega
   obtain rfl:s.size=X:=by have:=HI.out;rw[drop_end] at this;simpa using this
   clear HI HP
   go_wp2
   go_ret
   exact⟨rfl,by trivial⟩
theorem enter_blank:∀ args w,(callFunc 113 args).run Tryz.prog w=.ok (.enter 113 args) w:=enters_of Tryz.func113 (by kernel_rfl) rfl
theorem enter_named:∀ args w,(callFunc 122 args).run Tryz.prog w=.ok (.enter 122 args) w:=enters_of Tryz.func122 (by kernel_rfl) rfl
theorem enter_digit:∀ args w,(callFunc 120 args).run Tryz.prog w=.ok (.enter 120 args) w:=enters_of Tryz.func120 (by kernel_rfl) rfl
theorem enter_hex:∀ args w,(callFunc 180 args).run Tryz.prog w=.ok (.enter 180 args) w:=enters_of Tryz.func180 (by kernel_rfl) rfl
theorem enter_bit:∀ args w,(callFunc 181 args).run Tryz.prog w=.ok (.enter 181 args) w:=enters_of Tryz.func181 (by kernel_rfl) rfl
theorem enter_clos1:∀ args w,(callFunc 114 args).run Tryz.prog w=.ok (.enter 114 args) w:=enters_of Tryz.func114 (by kernel_rfl) rfl
theorem enter_clos2:∀ args w,(callFunc 145 args).run Tryz.prog w=.ok (.enter 145 args) w:=enters_of Tryz.func145 (by kernel_rfl) rfl
theorem enter_clos3:∀ args w,(callFunc 147 args).run Tryz.prog w=.ok (.enter 147 args) w:=enters_of Tryz.func147 (by kernel_rfl) rfl
theorem take_len (p:UInt8→Bool) (s:ByteArray) (a:Nat) (ha:a≤s.size):a+((s.data.toList.drop a).takeWhile p).length≤s.size∧s.data.toList.drop (a+((s.data.toList.drop a).takeWhile p).length)=(s.data.toList.drop a).dropWhile p:=by
 have h:=Lx.take_drop p (s.data.toList.drop a)
 have hl:=congrArg List.length h
 have hsz:s.data.toList.length=s.size:=by rw[Array.length_toList];rfl
 rw[List.length_append,List.length_drop,hsz] at hl
 refine⟨by omega,?_⟩
 rw[←List.drop_drop]
 have:=congrArg (List.drop ((s.data.toList.drop a).takeWhile p).length) h
 rw[List.drop_left] at this
 exact this.symm
theorem span_k (g:Nat) (eg:∀ args w,(callFunc g args).run Tryz.prog w=.ok (.enter g args) w) (p:UInt8→Bool) (hp:Asks g p) (s:ByteArray) (a b:Nat) (hs:s.size≤maxLen) (hb:b≤s.size) (ha:a≤b):
  ∃ k:Nat,k=(((s.data.toList.drop a).take (b-a)).takeWhile p).length∧a+k≤b∧∀ w,Calls Tryz.prog 112 #[.string (s.extract a b),.func (.func g) #[] #[]] w fun e w'=>e=.returned (.int .i64 (k:Nat))∧w'=w:=by
 obtain⟨c1,c2⟩:=cut_bytes s a b hb ha
 refine⟨_,rfl,?_,fun w=>?_⟩
 ·have h:=congrArg List.length (Lx.take_drop p ((s.data.toList.drop a).take (b-a)))
  have hsz:s.data.toList.length=s.size:=by rw[Array.length_toList];rfl
  rw[List.length_append,List.length_take,List.length_drop,hsz] at h
  omega
 ·have:=kspan g eg p hp (s.extract a b) w (by unfold maxLen at hs ⊢;omega)
  rw[c1] at this
  exact this
theorem span_end (g:Nat) (eg:∀ args w,(callFunc g args).run Tryz.prog w=.ok (.enter g args) w) (p:UInt8→Bool) (hp:Asks g p) (s:ByteArray) (a:Nat) (hs:s.size≤maxLen) (ha:a≤s.size):
  ∃ k:Nat,k=((s.data.toList.drop a).takeWhile p).length∧a+k≤s.size∧s.data.toList.drop (a+k)=(s.data.toList.drop a).dropWhile p∧∀ w,Calls Tryz.prog 112 #[.string (s.extract a s.size),.func (.func g) #[] #[]] w fun e w'=>e=.returned (.int .i64 (k:Nat))∧w'=w:=by
 obtain⟨k,hk,_,hc⟩:=span_k g eg p hp s a s.size hs (Nat.le_refl _) ha
 have hsz:s.data.toList.length=s.size:=by rw[Array.length_toList];rfl
 rw[List.take_of_length_le (by rw[List.length_drop,hsz];exact Nat.le_refl _)] at hk
 obtain⟨t1,t2⟩:=take_len p s a ha
 rw[←hk] at t1 t2
 exact⟨k,hk,t1,t2,hc⟩
theorem Lx.skip_blanks:∀ l:List UInt8,Lx.skip false l=Lx.skip false (l.dropWhile Lx.blank)
 |[]=>rfl
 |c::t=>by
  rw[List.dropWhile_cons]
  split
  ·rename_i h
   rw[Lx.skip_blank t h]
   exact Lx.skip_blanks t
  ·rfl
abbrev Lx.remark (c:UInt8):Bool:=!decide (c.toNat=10)&&Lx.good c
theorem Lx.skip_remarks:∀ l:List UInt8,Lx.skip true l=Lx.skip false (l.dropWhile Lx.remark)
 |[]=>rfl
 |c::t=>by
  rw[List.dropWhile_cons]
  by_cases h10:c.toNat=10
  ·obtain rfl:c=10:=Lx.byte_eq h10
   rw[if_neg (by decide),Lx.skip_cons,Lx.skip_cons]
   have e1:Lx.good 10=true:=by decide
   have e2:Lx.blank 10=true:=by decide
   have e3:(10:UInt8).toNat=10:=by decide
   simp[e1,e2,e3]
  ·by_cases hg:Lx.good c=true
   ·have hr:Lx.remark c=true:=by simp[Lx.remark,h10,hg]
    rw[if_pos hr,←Lx.skip_remarks t,Lx.skip_cons,if_pos hg]
    simp[h10]
   ·have hr:¬Lx.remark c=true:=by simp[Lx.remark,hg]
    rw[if_neg hr,Lx.skip_cons,if_neg hg,Lx.skip_cons,if_neg hg]
theorem Lx.skip_semi (t:List UInt8):Lx.skip false (59::t)=Lx.skip false ((59::t).dropWhile Lx.remark):=by
 rw[←Lx.skip_remarks,Lx.skip_cons,Lx.skip_cons]
 have e1:Lx.good 59=true:=by decide
 have e3:(59:UInt8).toNat=59:=by decide
 simp[e1,e3]
theorem Lx.skip_stays {c:UInt8} (t:List UInt8) (h1:Lx.blank c=false) (h2:c.toNat≠59):Lx.skip false (c::t)=c::t:=by
 rw[Lx.skip_cons]
 split
 ·rw[if_pos (by simp[h1,h2])]
 ·rfl
theorem dropWhile_stops (p:UInt8→Bool):∀ (l:List UInt8) {c:UInt8} {t:List UInt8},l.dropWhile p=c::t→p c=false
 |[],_,_,h=>by cases h
 |d::l,c,t,h=>by
  rw[List.dropWhile_cons] at h
  split at h
  ·exact dropWhile_stops p l h
  ·rename_i hd
   injection h with h1 h2
   rw[←h1]
   exact Bool.eq_false_iff.2 hd
theorem kpass (s:ByteArray) (a:Nat) (w:World) (hs:s.size≤maxLen) (ha:a≤s.size):
  Calls Tryz.prog 86 #[.string s,.int .i64 (a:Nat)] w fun e w'=>∃ k:Nat,e=.returned (.int .i64 (k:Nat))∧w'=w∧a≤k∧k≤s.size∧s.data.toList.drop k=Lx.skip false (s.data.toList.drop a):=by
 have hs0:=hs
 unfold maxLen at hs
 obtain⟨X,HX⟩:∃ X,Hid (Lx.skip false (s.data.toList.drop a)=X):=⟨_,rfl⟩
 rw[HX.out]
 go_enter Tryz.func86,Tryz.ntmps86
 go_wp2
 go_loopw [1] (fun iv wr=>∃ i:Nat,i≤s.size∧iv=.int .i64 (i:Nat)∧wr=w∧Hid (a≤i∧Lx.skip false (s.data.toList.drop i)=X)) (fun iv _=>s.size-(intOf iv).toNat)
 case atStart=>exact⟨a,ha,rfl,rfl,⟨Nat.le_refl _,HX.out⟩⟩
 case round=>
  clear HX ha
  obtain⟨i,hi,rfl,rfl,HI⟩:=hrel
  obtain⟨k,hk,hk1,hk2,HC⟩:=span_end _ enter_blank _ kblank s i hs0 hi
  have hf:=slice_from s i hi
  have hX:=HI.out.2
  rw[Lx.skip_blanks,←hk2] at hX
  replace HC:=Lib.hid HC
  have hai:=HI.out.1
  clear HI
  by_cases he:i+k=s.size
  ·have HE:Hid (a≤i+k∧s.data.toList.drop (i+k)=X):=⟨by omega,by rw[←hX,he,drop_end];rfl⟩
   have hb:((i:Int)+(k:Int) == (s.size:Int))=true:=beq_iff_eq.2 (by omega)
   clear hX hk hk2 hai
   go_wp2_with (go_at_call 112;refine(HC.out _).mono ?_;rintro e w1 ⟨rfl,rfl⟩)
   go_ret
   exact⟨i+k,by go_num,by trivial,HE.out.1,hk1,HE.out.2⟩
  ·have hlt:i+k<s.size:=by omega
   obtain⟨j,hj⟩:∃ j,i+k=j:=⟨_,rfl⟩
   rw[hj] at hX hk1 hk2 hlt
   have hji:(i:Int)+(k:Int)=(j:Int):=by omega
   have hb:((j:Int) == (s.size:Int))=false:=beq_eq_false_iff_ne.2 (by omega)
   have hlt':(j:Int)<(s.size:Int):=by omega
   have hbl:Lx.blank s[j]=false:=dropWhile_stops _ _ (hk2.symm.trans (drop_at s hlt))
   by_cases h59:s[j].toNat=59
   ·obtain⟨m,hm,hm1,hm2,HD⟩:=span_end _ enter_clos1 _ kclos1 s j hs0 (by omega)
    have hf2:=slice_from s j (by omega)
    replace HD:=Lib.hid HD
    have b1:((s[j].toNat:Int) != 59)=false:=by rw[bne,beq_iff_eq.2 (by omega:(s[j].toNat:Int)=59)];rfl
    have hmp:0<m:=by
     rw[hm,takeWhile_at _ s hlt,if_pos (by rw[Lx.byte_eq h59];decide)]
     simp
    have HE:Hid (a≤j+m∧Lx.skip false (s.data.toList.drop (j+m))=X):=⟨by omega,by
     rw[hm2,←hX,drop_at s hlt,Lx.byte_eq h59]
     exact(Lx.skip_semi _).symm⟩
    clear hX hk hk2 hai hm hm2 h59 hbl
    go_wp2_with (first
     |(go_at_call 112;(with_reducible refine(HC.out _).mono ?_);rintro e w1 ⟨rfl,rfl⟩)
     |(go_at_call 112;(with_reducible refine(HD.out _).mono ?_);rintro e w1 ⟨rfl,rfl⟩))
    go_roundw
    case rel=>exact⟨j+m,by omega,by go_num,by trivial,HE⟩
    case measure=>simp[intOf];omega
   ·have b1:((s[j].toNat:Int) != 59)=true:=by rw[bne_iff_ne];omega
    have HE:Hid (a≤j∧s.data.toList.drop j=X):=⟨by omega,by rw[←hX,drop_at s hlt,Lx.skip_stays _ hbl h59]⟩
    clear hX hk hk2 hai h59 hbl
    go_wp2_with (go_at_call 112;refine(HC.out _).mono ?_;rintro e w1 ⟨rfl,rfl⟩)
    go_ret
    exact⟨j,by go_num,by trivial,HE.out.1,by omega,HE.out.2⟩
end Go.Proofs.YtcgaeknikfaghaaGreatDoor
namespace Go.Proofs.YtcgaeknikfaghaaGreatDoor
open Go.RowKit Go.Shelf
abbrev ZP:Array Value:=#[.int .i64 0,.string ⟨#[]⟩,.int .i64 0,.int .i64 0]
abbrev piece (k:Int) (T:ByteArray) (n e:Int):Value:=.agg #[.int .i64 k,.string T,.int .i64 n,.int .i64 e]
abbrev set4 (w:World) (R:Nat) (x y z u:Value):World:=(((w.setCell ⟨R,0,none⟩ x).setCell ⟨R,1,none⟩ y).setCell ⟨R,2,none⟩ z).setCell ⟨R,3,none⟩ u
theorem pc_cells {w:World} {R:Nat} {v0 v1 v2 v3:Value} (h:Lies w R 158 #[v0,v1,v2,v3]) (x y z u:Value):
  Lies (set4 w R x y z u) R 158 #[x,y,z,u]∧(set4 w R x y z u).cell? ⟨R,0,none⟩=some x∧(set4 w R x y z u).cell? ⟨R,1,none⟩=some y∧(set4 w R x y z u).cell? ⟨R,2,none⟩=some z∧(set4 w R x y z u).cell? ⟨R,3,none⟩=some u:=by
 have l:Lies (set4 w R x y z u) R 158 #[x,y,z,u]:=by simpa using (((h.put 0 x).put 1 y).put 2 z).put 3 u
 exact⟨l,by simpa using l.cell 0,by simpa using l.cell 1,by simpa using l.cell 2,by simpa using l.cell 3⟩
theorem pc_below {w0 w:World} (h:Below w0.heap.size w0 w) {R:Nat} (hR:w0.heap.size≤R) (x y z u:Value):Below w0.heap.size w0 (set4 w R x y z u):=
 h.trans (((((Turn.refl (fun i=>i=R) w).put (p:=⟨R,0,none⟩) (.inl rfl) x).put (p:=⟨R,1,none⟩) (.inl rfl) y).put (p:=⟨R,2,none⟩) (.inl rfl) z).put (p:=⟨R,3,none⟩) (.inl rfl) u |>.below h.size fun i e=>by rw[e];exact hR)
theorem pc_room {W w4:World} {R:Nat} (b4:Below W.heap.size W w4) (hl:Lies W R 158 ZP):
  R<w4.heap.size∧w4.cell? ⟨R,0,none⟩=some (.int .i64 0)∧w4.cell? ⟨R,1,none⟩=some (.string ⟨#[]⟩)∧w4.cell? ⟨R,2,none⟩=some (.int .i64 0)∧w4.cell? ⟨R,3,none⟩=some (.int .i64 0)∧
  w4.frozen? ⟨R,0,none⟩=false∧w4.frozen? ⟨R,1,none⟩=false∧w4.frozen? ⟨R,2,none⟩=false∧w4.frozen? ⟨R,3,none⟩=false∧Hid (Lies w4 R 158 ZP):=by
 have h:=(Turn.of_below (F:=fun _=>False) b4).lies hl id
 exact⟨h.lt,by simpa using h.cell 0,by simpa using h.cell 1,by simpa using h.cell 2,by simpa using h.cell 3,h.free 0,h.free 1,h.free 2,h.free 3,h⟩
theorem kupTo (s:ByteArray) (n:Nat) (k:Int) (w:World) (hn:n≤s.size):
  Calls Tryz.prog 115 #[.string s,.int .i64 (n:Nat),.int .i64 k] w fun e w'=>e=.returned (piece k (s.extract 0 n) (n:Nat) 0)∧Below w.heap.size w w':=by
 have hsl:=slice_to s n hn
 go_enter Tryz.func115,Tryz.ntmps115
 go_wp2
 exact bodyPost_ret (v:=piece k (s.extract 0 n) (n:Nat) 0) (by simp[results,Tryz.results115,go_sem]) rfl ⟨rfl,(Below.refl _ w).alloc (Nat.le_refl _) _⟩
theorem kwrong (e n:Int) (w:World):
  Calls Tryz.prog 123 #[.int .i64 e,.int .i64 n] w fun r w'=>r=.returned (piece 0 ⟨#[]⟩ n e)∧Below w.heap.size w w':=by
 go_enter Tryz.func123,Tryz.ntmps123
 go_wp2
 exact bodyPost_ret (v:=piece 0 ⟨#[]⟩ n e) (by simp[results,Tryz.results123,go_sem]) rfl ⟨rfl,(Below.refl _ w).alloc (Nat.le_refl _) _⟩
theorem all_take_len (p:UInt8→Bool) (l:List UInt8):((l.takeWhile p).length=l.length)=(l.all p=true):=by
 apply propext
 constructor
 ·intro h
  have:=congrArg List.length (Lx.take_drop p l)
  rw[List.length_append] at this
  have h0:l.dropWhile p=[]:=List.eq_nil_of_length_eq_zero (by omega)
  have h1:=Lx.take_drop p l
  rw[h0,List.append_nil] at h1
  rw[←h1]
  exact Lx.take_all p l
 ·intro h
  rw[(Lx.all_take p l h).1]
theorem span_all (p:UInt8→Bool) (s:ByteArray) {b:Bool} (hb:s.data.toList.all p=b):(((s.data.toList.takeWhile p).length:Int) == (s.size:Int))=b:=by
 have h:=all_take_len p s.data.toList
 rw[len_bytes,hb] at h
 cases b with
 |true=>exact beq_iff_eq.2 (by rw[h.mpr rfl])
 |false=>exact beq_eq_false_iff_ne.2 fun e=>by have:=h.mp (by omega);cases this
theorem ksimple (s:ByteArray) (w:World) (hs:s.size≤maxLen):
  Calls Tryz.prog 177 #[.string s] w fun e w'=>e=.returned (.bool (Lx.simple s.data.toList))∧∃ q,w'=w.drewN q:=by
 have hs0:=hs
 unfold maxLen at hs
 by_cases h0:s.size=0
 ·obtain⟨e1,e2⟩:=nil_bytes h0
  rw[e1]
  clear e1
  show Calls _ _ _ _ fun e w'=>e=.returned (.bool false)∧∃ q,w'=w.drewN q
  go_enter Tryz.func177,Tryz.ntmps177
  go_wp2
  go_ret
  exact⟨rfl,0,rfl⟩
 have hpos:0<s.size:=by omega
 obtain⟨f1,f2,f3⟩:=some_bytes hpos
 have f4:(s.toList != [])=true:=by rw[bne,f3];rfl
 have hw:=rune_c s[0]
 obtain⟨d,hd⟩:∃ d,Lx.digit s[0]=d:=⟨_,rfl⟩
 obtain⟨a,ha⟩:∃ a,s.data.toList.all Lx.name=a:=⟨_,rfl⟩
 have hX:Lx.simple s.data.toList=(!d&&a):=by
  have:=drop_at s hpos
  rw[List.drop_zero] at this
  rw[Lx.simple,f1,ha,←hd,this]
  rfl
 rw[hX]
 have HD:=Lib.hid fun W=>kdigit s[0] W
 rw[hd] at HD
 have HS:=Lib.hid fun W=>kspan _ enter_named _ knamed s W hs0
 have hb:=span_all Lx.name s ha
 obtain⟨n,hn⟩:∃ n,(s.data.toList.takeWhile Lx.name).length=n:=⟨_,rfl⟩
 rw[hn] at HS hb
 clear hX hd ha hn f1 h0
 cases a <;> cases d
 all_goals
  go_enter Tryz.func177,Tryz.ntmps177
  go_wp2_with (first
   |(go_at_call 112;refine(HS.out _).mono ?_;rintro e w1 ⟨rfl,rfl⟩)
   |(go_at_call 120;refine(HD.out _).mono ?_;rintro e w1 ⟨rfl,rfl⟩))
  go_ret
  exact⟨rfl,0,rfl⟩
theorem kdigits (c:UInt8) (s:ByteArray) (w:World) (hs:s.size≤maxLen):
  Calls Tryz.prog 149 #[.int .u8 (c.toNat:Nat),.string s] w fun e w'=>e=.returned (.bool ((decide (c.toNat=120)&&s.data.toList.all Lx.hex)||(decide (c.toNat=98)&&s.data.toList.all Lx.bit)))∧w'=w:=by
 by_cases h1:c.toNat=120
 ·obtain⟨a,ha⟩:∃ a,s.data.toList.all Lx.hex=a:=⟨_,rfl⟩
  have HS:=Lib.hid fun W=>kspan _ enter_hex _ khex s W hs
  have hb:=span_all Lx.hex s ha
  obtain⟨n,hn⟩:∃ n,(s.data.toList.takeWhile Lx.hex).length=n:=⟨_,rfl⟩
  rw[hn] at HS hb
  rw[ha,h1]
  clear ha hn
  go_enter Tryz.func149,Tryz.ntmps149
  go_wp2_with (go_at_call 112;refine(HS.out _).mono ?_;rintro e w1 ⟨rfl,rfl⟩)
  go_ret
  exact⟨by simp,rfl⟩
 by_cases h2:c.toNat=98
 ·obtain⟨a,ha⟩:∃ a,s.data.toList.all Lx.bit=a:=⟨_,rfl⟩
  have HS:=Lib.hid fun W=>kspan _ enter_bit _ kbit s W hs
  have hb:=span_all Lx.bit s ha
  obtain⟨n,hn⟩:∃ n,(s.data.toList.takeWhile Lx.bit).length=n:=⟨_,rfl⟩
  rw[hn] at HS hb
  rw[ha,h2]
  clear ha hn h1
  go_enter Tryz.func149,Tryz.ntmps149
  go_wp2_with (go_at_call 112;refine(HS.out _).mono ?_;rintro e w1 ⟨rfl,rfl⟩)
  go_ret
  exact⟨by simp,rfl⟩
 have b1:((c.toNat:Int) == 120)=false:=beq_eq_false_iff_ne.2 (by omega)
 have b2:((c.toNat:Int) == 98)=false:=beq_eq_false_iff_ne.2 (by omega)
 rw[decide_eq_false h1,decide_eq_false h2]
 clear h1 h2
 go_enter Tryz.func149,Tryz.ntmps149
 go_wp2
 go_ret
 exact⟨rfl,rfl⟩
end Go.Proofs.YtcgaeknikfaghaaGreatDoor
namespace Go.Proofs.YtcgaeknikfaghaaGreatDoor
open Go.RowKit
theorem app_bytes (a b:ByteArray):(a++b).data.toList=a.data.toList++b.data.toList∧(a++b).size=a.size+b.size:=by
 have e:(a++b).data.toList=a.data.toList++b.data.toList:=by simp[ByteArray.data_append]
 refine⟨e,?_⟩
 rw[←len_bytes,e,List.length_append,len_bytes,len_bytes]
theorem Lx.dbl_len:∀ l:List UInt8,(Lx.dbl l).length≤2*l.length
 |[]=>Nat.le_refl _
 |c::t=>by
  have:=Lx.dbl_len t
  rw[Lx.dbl_cons]
  split <;> ·simp only[List.length_cons];omega
theorem show_ok {k:Int} {t:List UInt8} {V:ByteArray} {w w':World} {A:Option Addr} {c p:Nat} {l:List MTok} {E:Int} (hV:V.data.toList=Lx.show k t) (q:LSaid V w A c l E p w'):
  Lx.okShow k t=(decide (E=0)&&decide (l.map (fun x=>(x.1,x.2.1.data.toList))=[(k,t)])):=by
 have hl:(Lx.show k t).length=V.size:=by rw[←hV,len_bytes]
 unfold Lx.okShow
 by_cases hs:16384<V.size
 ·obtain⟨rfl,rfl,_⟩:=q.long hs
  rw[decide_eq_false (by omega)]
  simp
 ·obtain⟨h1,h2,_⟩:=q.toks (by omega)
  rw[hV] at h1 h2
  rw[decide_eq_true (by omega),Bool.true_and,←h2,←h1,List.map_map]
  rfl
abbrev tbox (k:Int) (T:ByteArray) (at_:Int):Obj:=.cells #[.int .i64 k,.string T,.int .i64 at_] 24
end Go.Proofs.YtcgaeknikfaghaaGreatDoor
