import Derived.Test.YtdbgiijdgedggaaGreatDoorQM23
import Derived.Test.YtdbgiijdgedggaaGreatDoorQM22
import Derived.StillTailTactics
import Derived.Deep.RegionHeld3
set_option linter.unusedSimpArgs false
set_option linter.unusedVariables false
set_option maxRecDepth 100000
set_option maxHeartbeats 25600000
namespace Go.Proofs.YtdbgiijdgedggaaGreatDoor
open Go.RowKit Go.Shelf
theorem Rd.str {w:World} {G:Nat->Prop} {A:Option Addr} {n c i:Nat} {l:List ByteArray} (h:Rd w G A n c (l.map .string)) (hi:i<n):∃ b off s,A=some ⟨b,off,none⟩/\l[i]?=some s/\∀ W,Below w.heap.size w W->b<W.heap.size/\W.cell? ⟨b,off+i,none⟩=some (.string s):=by
 obtain⟨b,off,e,_,hb,hc⟩:=h.at_ (by omega)
 have hl:=h.len
 rw[Fi] at hl
 obtain⟨s,hs⟩:∃ s,l[i]?=some s:=⟨_,Ge (by omega)⟩
 exact⟨b,off,s,e,hs,fun W r=>⟨Fp hb r.size,(r.cell (p:=⟨b,off+i,none⟩) hb).trans (hc i _ (by rw[Fj,hs];rfl))⟩⟩
theorem nY (w:World) (x:Sx) (A:Option Addr) (c:Nat):
  Calls Tryz.prog 89 #[aX x A c] w fun e w'=>e=.returned (.tuple #[.string (if x.list=false/\x.k=3 then x.T else⟨#[]⟩),.bool (decide (x.list=false/\x.k=3))])/\Below w.heap.size w w':=by
 obtain⟨J,r,O,L,Q,I⟩:=x
 unfold aX
 simp only
 obtain⟨n,hn⟩:∃ n,I.length=n:=⟨_,rfl⟩
 rw[hn]
 clear hn
 cases J with
 |true=>
  rw[FQ (by simp),Gq (by simp)]
  go_enter Tryz.func89,Tryz.ntmps89
  go_wp2
  go_ret2
  exact⟨rfl,(Gp _ w).alloc (Fm _) _⟩
 |false=>
  by_cases h:r=3
  ·subst h
   rw[Fx (by simp),FW (by simp)]
   go_enter Tryz.func89,Tryz.ntmps89
   go_wp2
   go_ret2
   exact⟨rfl,(Gp _ w).alloc (Fm _) _⟩
  ·rw[FQ (by simp[h]),Gq (by simp[h])]
   have hb:(r != 3)=true:=by simp[h]
   clear h
   go_enter Tryz.func89,Tryz.ntmps89
   go_wp2
   go_ret2
   exact⟨rfl,(Gp _ w).alloc (Fm _) _⟩
def eU (l:List ByteArray):Bool:=l.any fun s=>Bd.reserved s.data.toList
theorem AY (w:World) {G:Nat->Prop} (A:Option Addr) (n c:Nat) (l:List ByteArray) (h:Rd w G A n c (l.map .string)) (hn:n<=1000000):
  Calls Tryz.prog 102 #[.slice A n c,.func (.func 39) #[] #[]] w fun e w'=>(∃ r:Int,e=.returned (.int .i64 r)/\decide (0<=r)=eU l)/\w'=w:=by
 have Q:=Gn h
 obtain⟨X,J⟩:∃ X,Hid (eU l=X):=⟨_,rfl⟩
 rw[J.out]
 have HL:Hid (l.length=n):=by have:=h.len;rwa [Fi] at this
 clear h
 go_enter Tryz.func102,Tryz.ntmps102
 go_wp2
 go_loopw [8] (fun iv wr=>∃ i:Nat,i<=n/\iv=.int .i64 (i:Nat)/\wr=w/\Hid (∀ z∈l.take i,Bd.reserved z.data.toList=false)) (fun iv _=>n-(intOf iv).toNat)
 case atStart=>exact⟨0,Fz _,rfl,rfl,fun _ hz=>absurd hz FD⟩
 case round=>
  obtain⟨i,hi,rfl,rfl,O⟩:=hrel
  by_cases U:i<n
  ·obtain⟨b,off,z,rfl,hz,hc⟩:=Q.out.str U
   obtain⟨q1,q2⟩:=hc wr (Gp _ _)
   have V:(i:Int)<(n:Int):=by omega
   have h0:(0:Int)<=(i:Int):=by omega
   have I:=Gn (fu z wr)
   cases hp:Bd.reserved z.data.toList with
   |true=>
    obtain rfl:X=true:=by rw[<-J.out];exact Il.2 ⟨z,FP hz,hp⟩
    rw[hp] at I
    clear O hz hc hp J Q HL
    go_wp2_with fail
    refine I.out.mono ?_
    rintro e Z ⟨rfl,rfl⟩
    go_wp2
    go_ret
    exact⟨⟨_,rfl,by simp⟩,by trivial⟩
   |false=>
    rw[hp] at I
    have L:Hid (∀ y∈l.take (i+1),Bd.reserved y.data.toList=false):=by
     intro y hy
     rw[take_one hz] at hy
     rcases F7.1 hy with hy|hy
     ·exact O.out y hy
     ·rw[F0.1 hy]
      exact hp
    clear O hz hc hp J Q HL
    go_wp2_with fail
    refine I.out.mono ?_
    rintro e Z ⟨rfl,rfl⟩
    go_wp2
    go_roundw
    case rel=>exact⟨i+1,by omega,by go_num,by trivial,L.out⟩
    case measure=>simp[intOf];omega
  ·obtain rfl:i=n:=by omega
   obtain rfl:X=false:=by
    rw[<-J.out]
    have:=O.out
    rw[Gr (by rw[HL.out];exact Fm _)] at this
    exact List.any_eq_false.2 fun z hz=>by rw[this z hz];decide
   clear O J Q HL
   go_wp2
   go_ret
   exact⟨⟨_,rfl,by decide⟩,by trivial⟩
theorem CG (w:World) {G:Nat->Prop} (A:Option Addr) (n c:Nat) (l:List ByteArray) (h:Rd w G A n c (l.map .string)) (hn:n<=1000000):
  Calls Tryz.prog 52 #[.slice A n c,.func (.func 39) #[] #[]] w fun e w'=>e=.returned (.bool (eU l))/\w'=w:=by
 have I:=Gn (AY w A n c l h hn)
 generalize eU l=X at I
 clear h
 go_enter Tryz.func52,Tryz.ntmps52
 go_wp2_with (go_at_call 102;refine I.out.mono ?_;rintro e L ⟨⟨r,rfl,J⟩,rfl⟩)
 go_ret
 exact⟨by first|rfl|rw[J],rfl⟩
theorem ry {w:World} {b q:Nat} {D:DataW Unit} {g:ByteArray->Option Int} (L:w.ownsMap Tryz.prog 9 (plainElem Tryz.prog 3) b q D) (ht:cw D g) (s:ByteArray) (hs:s.size<=maxLen):
  (Instr.lookup 115 (.map (some b)) (.string s) false).run Tryz.prog w=.ok (.int .i64 ((g s).getD 0)) w:=by
 obtain⟨c,r,h,_⟩:=L.lookup_int gC Tryz.underlying115 Tryz.underlying3 (ik w) (IG (P:=Tryz.prog) Tryz.underlying9 hs)
 rw[r]
 obtain⟨t1,t2⟩:=ht s hs
 cases I:g s with
 |none=>
  have e:=t1 I
  rw[Maps.atKey_of_not_has e] at h
  rw[<-eM h]
  rfl
 |some i=>
  obtain⟨O,J⟩:=t2 i I
  rw[J] at h
  rw[<-eM h]
  rfl
theorem Bd.dM:∀ l:List ByteArray,Bd.twice l=decide (¬l.Nodup)
 |[]=>by simp[Bd.twice]
 |s::l=>by
  rw[Bd.twice,Bd.dM l,Ia]
  simp only[Bool.or_eq_true,List.contains_iff_mem,Hu,List.nodup_cons]
  constructor
  ·rintro(h|h)
   ·exact fun e=>e.1 h
   ·exact fun e=>h e.2
  ·intro h
   by_cases hm:s∈l
   ·exact .inl hm
   ·exact .inr fun e=>h ⟨hm,e⟩
theorem xg (w:World) {G:Nat->Prop} (A:Option Addr) (n c:Nat) (l:List ByteArray) (h:Rd w G A n c (l.map .string)) (hn:n<=1000000) (hs:∀ s∈l,s.size<=maxLen):
  Calls Tryz.prog 51 #[.slice A n c] w fun e w'=>e=.returned (.bool (Bd.twice l))/\Below w.heap.size w w':=by
 have ba:∀ W:World,(Instr.makeMap 115 none).run Tryz.prog W=.ok (.map (some W.heap.size)) (W.alloc (.map #[] 0)):=fun W=>run_makeMap _ W
 have HH:=Gn h
 have HS:=Gn hs
 have HL:Hid (l.length=n):=by have:=h.len;rwa [Fi] at this
 obtain⟨X,U⟩:∃ X,Hid (Bd.twice l=X):=⟨_,rfl⟩
 rw[U.out]
 clear h hs
 go_enter Tryz.func51,Tryz.ntmps51
 go_wp2
 go_loopw [9] (fun iv wr=>∃ i:Nat,i<=n/\iv=.int .i64 (i:Nat)/\Hid (Below w.heap.size w wr/\(l.take i).Nodup/\∃ D,wr.ownsMap Tryz.prog 9 (plainElem (H:=Unit) Tryz.prog 3) w.heap.size i D/\cw D (fun s=>if s∈l.take i then some 1 else none))) (fun iv _=>n-(intOf iv).toNat)
 case atStart=>exact⟨0,Fz _,rfl,(Gp _ _).alloc (Fm _) _,List.nodup_nil,_,World.ownsMap_made _ _ _ _,cw.none_.congr fun s=>by simp⟩
 case round=>
  obtain⟨i,a1,rfl,HI⟩:=hrel
  obtain⟨L,V,D,Q,hT⟩:=HI.out
  by_cases ah:i<n
  ·obtain⟨b,off,s,rfl,hz,hc⟩:=HH.out.str ah
   obtain⟨q1,q2⟩:=hc wr L
   have av:(i:Int)<(n:Int):=by omega
   have h0:(0:Int)<=(i:Int):=by omega
   have a7:IntKind.i64.wrap ((i:Int)+1)=(i:Int)+1:=GR _ (by omega)
   have J:=HS.out s (FP hz)
   have ad:=ry Q hT s J
   have O:=IG (P:=Tryz.prog) Tryz.underlying9 J
   have HO:=Gn Q
   have ao:i<maxLen:=by unfold maxLen;omega
   by_cases hm:s∈l.take i
   ·have hX:X=true:=by
     rw[<-U.out,Bd.dM,Hu]
     intro e
     have:=(List.take_sublist (i+1) l).nodup e
     rw[take_one hz,List.nodup_append] at this
     exact this.2.2 s hm s (by simp) rfl
    subst hX
    simp only[Fx hm,G0] at ad
    have HK:Hid (∀ w',w'.ownsMap Tryz.prog 9 (plainElem (H:=Unit) Tryz.prog 3) w.heap.size (i+1) (D.put (dF s) (.lit (.int .i64 2)))->wr.grownBy w' (some w.heap.size)->Below w.heap.size w w'/\(Instr.lookup 115 (.map (some w.heap.size)) (.string s) false).run Tryz.prog w'=.ok (.int .i64 2) w'):=fun w' p1 p2=>
     ⟨L.grown p2 L.size (fun k hk=>by have:=Fk hk;omega),by have:=ry p1 (hT.put (Q.tidy gC) s 2) s J;simpa using this⟩
    clear HI L V Q hT hz hc HH HS HL U J hm
    go_wp2_with (at_mapUpdate;refine Iw _ rfl _ _ _ 115 rfl 9 3 gC Tryz.underlying115 _ w.heap.size i _ rfl HO.out ao _ _ _ rfl rfl O _ [] (Iu Tryz.underlying3 (show(Lit.int .i64 2).wf=true by decide)) ?_;intro w1 I r;obtain⟨b1,l1⟩:=HK.out w1 I r;have B1:=Gn b1;clear I r b1)
    go_ret
    exact⟨rfl,B1.out⟩
   ·simp only[FQ hm,Option.getD_none] at ad
    have HK:Hid (∀ w',w'.ownsMap Tryz.prog 9 (plainElem (H:=Unit) Tryz.prog 3) w.heap.size (i+1) (D.put (dF s) (.lit (.int .i64 1)))->wr.grownBy w' (some w.heap.size)->(Below w.heap.size w w'/\(l.take (i+1)).Nodup/\∃ D,w'.ownsMap Tryz.prog 9 (plainElem (H:=Unit) Tryz.prog 3) w.heap.size (i+1) D/\cw D (fun s=>if s∈l.take (i+1) then some 1 else none))/\(Instr.lookup 115 (.map (some w.heap.size)) (.string s) false).run Tryz.prog w'=.ok (.int .i64 1) w'):=fun w' p1 p2=>by
     have Z:=hT.put (Q.tidy gC) s 1
     refine⟨⟨L.grown p2 L.size (fun k hk=>by have:=Fk hk;omega),?_,_,p1,Z.congr fun t=>?_⟩,by have:=ry p1 Z s J;simpa using this⟩
     ·rw[take_one hz,List.nodup_append]
      exact⟨V,by simp,fun a ha b hb e=>hm (by rw[F0.1 hb] at e;exact e▸ha)⟩
     ·rw[take_one hz]
      by_cases e:t=s
      ·subst e;simp
      ·simp[e]
    clear HI L V Q hT hz hc HH HS HL U J hm
    go_wp2_with (at_mapUpdate;refine Iw _ rfl _ _ _ 115 rfl 9 3 gC Tryz.underlying115 _ w.heap.size i _ rfl HO.out ao _ _ _ rfl rfl O _ [] (Iu Tryz.underlying3 (show(Lit.int .i64 1).wf=true by decide)) ?_;intro w1 I r;obtain⟨v1,l1⟩:=HK.out w1 I r;have V1:=Gn v1;clear I r v1)
    go_roundw
    case rel=>exact⟨i+1,by omega,by go_num,V1.out⟩
    case measure=>simp[intOf];omega
  ·obtain rfl:i=n:=by omega
   have hX:X=false:=by
    rw[<-U.out,Bd.dM]
    rw[Gr (by rw[HL.out];exact Fm _)] at V
    simpa using V
   subst hX
   have HB:=Gn L
   clear HI L V Q hT HH HS HL U ah
   go_wp2
   go_ret
   exact⟨rfl,HB.out⟩
end Go.Proofs.YtdbgiijdgedggaaGreatDoor
namespace Go.Proofs.YtdbgiijdgedggaaGreatDoor
open Go.RowKit
theorem oI:(Tryz.prog.info? 9).map (fun i=>(i.zero,i.size,i.bytes))=some (some (.string ByteArray.empty),1,16):=by kernel_rfl
theorem nU.get {w:World} {G:Nat->Prop} {A:Option Addr} {l:List (ByteArray×Int)} {i:Nat} (h:nU w G A l) (hi:i<l.length):∃ b off p,A=some ⟨b,off,none⟩/\l[i]?=some p/\∀ W,ae (fun k=>¬G k) w W->b<W.heap.size/\W.cell? ⟨b,off+i*2,none⟩=some (.string p.1)/\W.cell? ⟨b,off+i*2+1,none⟩=some (.int .i64 p.2):=by
 obtain⟨b,off,e,I,hb,hc⟩:=h.at_ (by omega)
 exact⟨b,off,l[i],e,Ge hi,fun W r=>⟨Fp hb r.size,(r.cell (p:=⟨b,off+i*2,none⟩) hb fun e=>e I).trans (hc i _ (Ge hi)).1,(r.cell (p:=⟨b,off+i*2+1,none⟩) hb fun e=>e I).trans (hc i _ (Ge hi)).2⟩⟩
theorem qk (w:World) (A:Option Addr) (c:Nat) (l:List (ByteArray×Int)) {G:Nat->Prop} (h:nU w G A l) (hn:l.length<=100000):
  Calls Tryz.prog 50 #[.slice A l.length c] w fun e w'=>(∃ A' c',e=.returned (.slice A' l.length c')/\Rd w' (fun k=>w.heap.size<=k) A' l.length c' ((l.map (·.1)).map .string))/\Below w.heap.size w w':=by
 obtain⟨i0,hi,ah,ao,av⟩:=Gj oI
 obtain⟨n,I⟩:∃ n,l.length=n:=⟨_,rfl⟩
 have V:=Gn h
 have HL:=Gn I
 rw[I] at hn ⊢
 clear h I
 go_enter Tryz.func50,Tryz.ntmps50
 go_wp2
 go_loopw [3,8] (fun sv iv wr=>∃ (i d:Nat) (B:Option Addr),i<=n/\sv=.slice B i d/\iv=.int .i64 (i:Nat)/\Hid (Below w.heap.size w wr/\wr.ownsRow w.heap.size 9 1 (.slice B i d) i (((l.take i).map (·.1)).map .string))) (fun _ iv _=>n-(intOf iv).toNat)
 case atStart=>exact⟨0,0,none,Fz _,rfl,rfl,Gp _ _,Gg _ _ _ _⟩
 case round=>
  obtain⟨i,d,B,a7,rfl,rfl,r⟩:=hrel
  by_cases Q:i<n
  ·obtain⟨b,off,p,rfl,hp,hc⟩:=V.out.get (i:=i) (by rw[HL.out];exact Q)
   obtain⟨q1,q2,q3⟩:=hc wr (ae.af r.out.1)
   obtain⟨p1,p2⟩:=p
   simp only at q2 q3
   have a1:(i:Int)<(n:Int):=by omega
   have h0:(0:Int)<=(i:Int):=by omega
   have ba:IntKind.i64.wrap ((i:Int)+1)=(i:Int)+1:=GR _ (by omega)
   have Z:i+1<=maxLen:=by unfold maxLen;omega
   have ad:(i+1)*16<=140737488355328:=by omega
   have X:=r.out.1.size
   have HO:Hid (∀ o J,((wr.alloc o).alloc J).ownsRow w.heap.size 9 1 (.slice B i d) i (((l.take i).map (·.1)).map .string)):=fun o J=>(r.out.2.alloc o).alloc J
   have HS:Hid (∀ o J O c2 L,((wr.alloc o).alloc J).grownBy L (Value.slice B i d).ownBlock->L.ownsRow w.heap.size 9 1 (.slice O (i+1) c2) (i+1) (((l.take i).map (·.1)).map .string++[.string p1])->Below w.heap.size w L/\L.ownsRow w.heap.size 9 1 (.slice O (i+1) c2) (i+1) (((l.take (i+1)).map (·.1)).map .string)):=fun o J O c2 L g1 g2=>by
    refine⟨((r.out.1.alloc X o).alloc (by simp;omega) J).grown g1 (by simp;omega) (fun k hk=>(r.out.2.lt k hk).1),?_⟩
    rw[take_one hp,Hf,Hf]
    exact g2
   clear hp hc V r HL
   go_wp2_with (at_builtin;refine cZ _ rfl (.tmp 12) (.tmp 15) 79 rfl w.heap.size 9 i0 (.string ByteArray.empty) 16 Tryz.underlying79 hi ah ao av rfl (.slice B i d) i _ (by simp[Act.eval]) (HO.out _ _) _ 1 1 [.string p1] (by simp[Act.eval]) rfl (fH rfl) (by intro u hu;simp at hu;subst hu;rfl) Z ad (by simp;omega) ?_;intro O c2 L o2 g2 a2;have S2:=Gn (HS.out _ _ O c2 L g2 o2);clear o2 g2 a2)
   clear HO HS q2 q3
   go_wp2
   go_roundw
   case rel=>exact⟨i+1,c2,O,by omega,by go_num,by go_num,S2.out⟩
   case measure=>simp[intOf];omega
  ·obtain rfl:i=n:=by omega
   have U:=r.out
   rw[Gr (by rw[HL.out];exact Fm _)] at U
   have HV:Hid (Rd wr (fun k=>w.heap.size<=k) B i d ((l.map (·.1)).map .string)/\Below w.heap.size w wr):=⟨Rd.eX U.2,U.1⟩
   clear U r V HL Q
   go_wp2
   go_ret
   exact⟨⟨B,d,rfl,HV.out.1⟩,HV.out.2⟩
theorem zq (w:World) (b:Nat) (F:Nat->Prop) (l:List Nd) (p:Int) (h:Bk w b F l) (hp:0<=p):
  Calls Tryz.prog 58 #[.pointer (some ⟨b,0,none⟩),.int .i64 p] w fun e w'=>e=.returned (.int .i64 (Bd.aC l p))/\Below w.heap.size w w':=by
 obtain⟨i,rfl⟩:∃ i:Nat,p=i:=⟨p.toNat,by omega⟩
 by_cases hi:i<l.length
 ·obtain⟨x,L⟩:∃ x,l[i]?=some x:=⟨_,Ge hi⟩
  have I:=Gn (CJ w b F l i x h L)
  have e:Bd.aC l (i:Int)=x.sort:=by unfold Bd.aC;rw[Ih,L];rfl
  rw[e]
  clear h hp hi L e
  go_enter Tryz.func58,Tryz.ntmps58
  go_wp2_with fail
  refine I.out.mono ?_
  rintro e O ⟨⟨P,rfl,_⟩,r⟩
  have J:=Gn (r.alloc r.size (.cells (P.cells x) 50))
  clear I r
  go_wp2
  go_ret
  exact⟨rfl,J.out⟩
 ·have I:=Gn (Cy w b F l (i:Int) h (.inr (by omega)))
  have e:Bd.aC l (i:Int)=0:=by unfold Bd.aC;rw[Ih,GB (by omega)];rfl
  rw[e]
  clear h hp hi e
  go_enter Tryz.func58,Tryz.ntmps58
  go_wp2_with fail
  refine I.out.mono ?_
  rintro e O ⟨rfl,r⟩
  have J:=Gn (r.alloc r.size (.cells #[.int .i64 0,.int .i64 0,.slice none 0 0,.string ⟨#[]⟩,.bool false,.slice none 0 0,.slice none 0 0] 50))
  clear I r
  go_wp2
  go_ret
  exact⟨rfl,J.out⟩
theorem kB (w:World) (mb:Nat) (v0 v1 v2 v3:Value) (hl:aa w mb 102 #[v0,v1,v2,v3]) (A:Option Addr) (n c:Nat) (id h:Int):
  Calls Tryz.prog 97 #[.pointer (some ⟨mb,0,none⟩),.slice A n c,.int .i64 id,.int .i64 h] w fun e w'=>e=.returned (.tuple #[.int .i64 id,.int .i64 h])/\w'=w.setCell ⟨mb,0,none⟩ (.slice A n c):=by
 have c0:=hl.cell 0
 have f0:=hl.free 0
 have r:=hl.lt
 clear hl
 go_enter Tryz.func97,Tryz.ntmps97
 go_wp2
 exact GD (by simp[results,Tryz.results97,go_sem]) rfl ⟨rfl,rfl⟩
theorem sw {a b:ByteArray} (h:¬a=b):(a.toList == b.toList)=false:=by
 rw[GA,GA]
 exact Gx.2 fun e=>h (Lt.dK e)
theorem Bd.uC (s:ByteArray) (a:Sc) (p:ByteArray×Int):Bd.bound (a++[p]) s=if p.1=s then some p.2 else Bd.bound a s:=by
 rw[Bd.jO]
 show(match (match Bd.bound [] s with|some i=>some i|none=>if p.1=s then some p.2 else none) with|some i=>some i|none=>Bd.bound a s)=_
 show(match (if p.1=s then some p.2 else none) with|some i=>some i|none=>Bd.bound a s)=_
 split <;> simp_all
abbrev Bd.EO (o:Option Int):Value:=.tuple #[.int .i64 (o.getD 0),.bool o.isSome]
theorem qb (w:World) (mb:Nat) (A:Option Addr) (n c:Nat) (l:Sc) (s:ByteArray) {G:Nat->Prop} (hc:w.cell? ⟨mb,2,none⟩=some (.slice A n c)) (h:eQ w G A n c l) (hn:n<=1000000):
  Calls Tryz.prog 136 #[.pointer (some ⟨mb,0,none⟩),.string s] w fun e w'=>e=.returned (Bd.EO (Bd.bound l s))/\w'=w:=by
 obtain⟨R,V⟩:∃ R,Bd.bound l s=R:=⟨_,rfl⟩
 have O:Hid (Bd.bound (l.take n) s=R):=by show _=_;rw[<-h.len,Ib,V]
 have Q:=Gn fun(i:Nat) (hi:i<n)=>h.par.get (i:=i) (by rw[h.len];exact hi)
 rw[V]
 clear h V
 go_enter Tryz.func136,Tryz.ntmps136
 go_wp2
 go_loopw [6] (fun iv wr=>∃ k:Nat,k<=n/\iv=.int .i64 ((k:Int)-1)/\wr=w/\Hid (Bd.bound (l.take k) s=R)) (fun iv _=>(intOf iv+1).toNat)
 case atStart=>exact⟨n,Fm _,by go_num,rfl,O.out⟩
 case round=>
  obtain⟨k,hk,rfl,rfl,L⟩:=hrel
  rcases Hn k with rfl|X
  ·have e:R=none:=by rw[<-L.out];rfl
   subst e
   clear L Q O
   go_wp2
   exact GD (by simp[results,Tryz.results136,go_sem]) rfl ⟨rfl,rfl⟩
  ·obtain⟨j,rfl⟩:∃ j,k=j+1:=⟨k-1,by omega⟩
   have J:((j+1:Nat):Int)-1=(j:Int):=by omega
   rw[J]
   obtain⟨b,off,p,rfl,hp,I⟩:=Q.out j (by omega)
   obtain⟨q1,q2,q3⟩:=I wr (ae.refl _ _)
   have r:=L.out
   rw[take_one hp,Bd.uC] at r
   obtain⟨p1,p2⟩:=p
   simp only at q2 q3 r
   have Z:(0:Int)<=(j:Int):=by omega
   have ad:(j:Int)<(n:Int):=by omega
   by_cases he:p1=s
   ·rw[Fx he] at r
    subst r
    subst he
    clear L Q O I hp J
    go_wp2
    exact GD (by simp[results,Tryz.results136,go_sem]) rfl ⟨rfl,rfl⟩
   ·rw[FQ he] at r
    have d1:=sw he
    have U:Hid (Bd.bound (l.take j) s=R):=r
    clear L Q O I hp J r he
    go_wp2
    go_roundw
    case rel=>exact⟨j,by omega,by go_num,by first|rfl|trivial,U.out⟩
    case measure=>simp[intOf]
abbrev Bd.EI (o:Option Nat):Int:=(o.map fun j=>(j:Int)).getD (-1)
theorem j7 (w:World) (mb:Nat) (A:Option Addr) (N n c:Nat) (L:List (iZ×Dc)) (s:ByteArray) {G:Nat->Prop} (hc:w.cell? ⟨mb,1,none⟩=some (.slice A n c)) (h:rX w G A N c L) (ad:n<=N) (hn:n<=1000000):
  Calls Tryz.prog 137 #[.pointer (some ⟨mb,0,none⟩),.string s] w fun e w'=>e=.returned (.int .i64 (Bd.EI (Bd.decl (L.map (·.2)) s n)))/\w'=w:=by
 obtain⟨R,Z⟩:∃ R,Bd.decl (L.map (·.2)) s n=R:=⟨_,rfl⟩
 have U:Hid (Bd.decl (L.map (·.2)) s n=R):=Z
 have V:=Gn fun(i:Nat) (hi:i<n)=>h.get (i:=i) (by omega)
 rw[Z]
 clear h Z ad
 go_enter Tryz.func137,Tryz.ntmps137
 go_wp2
 go_loopw [5] (fun iv wr=>∃ k:Nat,k<=n/\iv=.int .i64 ((k:Int)-1)/\wr=w/\Hid (Bd.decl (L.map (·.2)) s k=R)) (fun iv _=>(intOf iv+1).toNat)
 case atStart=>exact⟨n,Fm _,by go_num,rfl,U.out⟩
 case round=>
  obtain⟨k,hk,rfl,rfl,Q⟩:=hrel
  rcases Hn k with rfl|ah
  ·have e:R=none:=by rw[<-Q.out];rfl
   subst e
   clear Q V U
   go_wp2
   go_ret
   exact⟨rfl,rfl⟩
  ·obtain⟨j,rfl⟩:∃ j,k=j+1:=⟨k-1,by omega⟩
   have J:((j+1:Nat):Int)-1=(j:Int):=by omega
   rw[J]
   obtain⟨b,off,P,d,rfl,a1,_,hd,_,I⟩:=V.out j (by omega)
   have q2:=(I wr (ae.refl _ _)).2 0 _ rfl
   rw[Ho] at q2
   have r:=Q.out
   rw[Bd.decl,hd] at r
   simp only[GZ,Option.some.injEq] at r
   obtain⟨nm,O⟩:∃ nm,d.name=nm:=⟨_,rfl⟩
   rw[O] at q2 r
   have ao:(0:Int)<=(j:Int):=by omega
   have av:(j:Int)<(n:Int):=by omega
   by_cases he:nm=s
   ·rw[Fx he] at r
    subst r
    subst he
    clear Q V U I hd J O
    go_wp2
    go_ret
    exact⟨rfl,rfl⟩
   ·rw[FQ he] at r
    have d1:=sw he
    have X:Hid (Bd.decl (L.map (·.2)) s j=R):=r
    clear Q V U I hd J r he O
    go_wp2
    go_roundw
    case rel=>exact⟨j,by omega,by go_num,by first|rfl|trivial,X.out⟩
    case measure=>simp[intOf]
theorem Mk.aF.input {E:Mk.Env} {w:World} {M:Nat} {Y:Mk.Lay} {s:Ms} (h:Mk.aF E w M Y s) {A:Option Addr} {l:List Sx} (ht:au E.v (fun b _=>E.P b) A l):au w (fun b _=>¬Mk.ag M Y b) A l:=
 ht.bR h.pl fun k r hp=>⟨fun e=>e hp,h.Eo k hp r⟩
structure Mk.Small (s:Ms):Prop where
 fr:s.fr.length<=4900
 sc:s.sc.length<=4900
 ids:∀ f∈s.fr,f.ids.length<=1000/\f.dp<=4900
 N:s.N.length<=20000
theorem Mk.aF.pow {E:Mk.Env} (r:E.Ok) {w:World} {M:Nat} {Y:Mk.Lay} {s:Ms} (h:Mk.aF E w M Y s):dD w:=r.T.on h.base
theorem Mk.aF.ask {E:Mk.Env} (r:E.Ok) {w:World} {M:Nat} {Y:Mk.Lay} {s:Ms} (h:Mk.aF E w M Y s):iJ w:=r.K.below h.base
theorem Mk.dC {E:Mk.Env} {w I:World} {M:Nat} {Y:Mk.Lay} {s:Ms} {r:bN} {e:Ending} (h:Mk.aF E w M Y s) (hb:cr w E.bk Y.Fb r e I):e=.returned (.tuple #[.int .i64 r.2.1,.int .i64 r.2.2])/\Mk.Left E w M Y { s with N:=r.1 } I:=by
 obtain⟨J,F',L,O,Q⟩:=hb
 exact⟨J,h.Dq O L Q⟩
theorem Mk.given {E:Mk.Env} {w h:World} {M:Nat} {Y:Mk.Lay} {s:Ms} {bs:List Fr} {f:Fr} {r:bN} (hl:Mk.Left E w M Y { s with N:=r.1 } h) (hf:s.fr=bs++[f]) (hs:Mk.Small s):
  Calls Tryz.prog 237 #[.pointer (some ⟨M,0,none⟩),.int .i64 r.2.1,.int .i64 r.2.2] h fun x w'=>Mk.aY E w M Y (Mk.aO s r) x w':=by
 obtain⟨Y',I,J,L⟩:=hl
 have hb:bs.length<=5000:=by have:=hs.fr;rw[hf,Gb] at this;omega
 have hn:f.ids.length<=100000:=by have:=(hs.ids f (by rw[hf];simp)).1;omega
 exact(pk E h M Y' _ bs f r.2.1 r.2.2 I hf hb hn).mono fun x w' ⟨O,Q⟩=>⟨O,Q.after J L⟩
theorem Mk.cp {E:Mk.Env} {w h:World} {M:Nat} {Y:Mk.Lay} {s:Ms} (hl:Mk.Left E w M Y s h) {b:Nat} {t:TypeId} {cs:Array Value} (I:aa w b t cs) (hb:¬Mk.ag M Y b):aa h b t cs:=by
 obtain⟨Y',J,r,L⟩:=hl
 exact r.lies I hb
theorem zR (E:Mk.Env) (hE:E.Ok) (w:World) (M:Nat) (Y:Mk.Lay) (s:Ms) (bs:List Fr) (f:Fr) (o:Int) (I J:Nat) (A:Option Addr) (n c:Nat) (l:List Int) (h:Mk.aF E w M Y s) (hf:s.fr=bs++[f]) (hs:Mk.Small s) (hI:Tm.Inv s.N)
  (g1:¬Mk.ag M Y I) (g2:¬Mk.ag M Y J) (Q:aa w I 95 #[.pointer (some ⟨M,0,none⟩)]) (U:aa w J 3 #[.int .i64 o]) (hA:aH w A n l) (hw:∀ z∈l,(Lit.int .i64 z).wf=true) (Z:Gs (fun k=>¬Mk.ag M Y k) A n) (hn:n<=1000):
  Calls Tryz.prog 236 #[.slice A n c,.pointer (some ⟨I,0,none⟩),.pointer (some ⟨J,0,none⟩)] w fun x w'=>Mk.aY E w M Y (Mk.ends E.D s (.op o) l) x w':=by
 have c1:w.cell? ⟨I,0,none⟩=some (.pointer (some ⟨M,0,none⟩)):=by rw[Q.cell];rfl
 have c2:w.cell? ⟨J,0,none⟩=some (.int .i64 o):=by rw[U.cell];rfl
 have c0:w.cell? ⟨M,0,none⟩=some (.pointer (some ⟨E.bk,0,none⟩)):=by rw[h.own.cell];rfl
 have z1:=Q.lt
 have z2:=U.lt
 have zM:=h.own.lt
 have hd:Mk.aF E w.drew M Y s:=h.drew
 have X:Hid (Calls Tryz.prog 36 #[.pointer (some ⟨E.bk,0,none⟩),.int .i64 o,.slice A n c] w.drew fun e L=>e=.returned (.tuple #[.int .i64 (Tm.app s.N o l).2.1,.int .i64 (Tm.app s.N o l).2.2])/\(L.cell? ⟨I,0,none⟩=some (.pointer (some ⟨M,0,none⟩))/\L.cell? ⟨J,0,none⟩=some (.int .i64 o)/\L.cell? ⟨M,0,none⟩=some (.pointer (some ⟨E.bk,0,none⟩)))/\Calls Tryz.prog 237 #[.pointer (some ⟨M,0,none⟩),.int .i64 (Tm.app s.N o l).2.1,.int .i64 (Tm.app s.N o l).2.2] L fun x w'=>Mk.aY E w M Y (Mk.ends E.D s (.op o) l) x w'/\(w'.cell? ⟨I,0,none⟩=some (.pointer (some ⟨M,0,none⟩))/\w'.cell? ⟨J,0,none⟩=some (.int .i64 o)/\w'.cell? ⟨M,0,none⟩=some (.pointer (some ⟨E.bk,0,none⟩)))):=by
  refine(Dz w.drew E.bk Y.Fb s.N hd.aO hI o A n c l (hA.below ⟨rfl,rfl,rfl,Fm _,fun _ _=>rfl⟩) hw Z (fun k hk e=>hk (.inr (.inl e))) hn (by have:=hs.N;omega) (hd.pow hE) (hd.ask hE)).mono ?_
  intro e L hb
  obtain⟨e1,e2⟩:=Mk.dC hd hb
  obtain⟨_,_,_,ht,_⟩:=hb
  exact⟨e1,⟨by rw[(ht.lies (show aa w.drew I _ _ from Q) (fun e=>g1 (.inr (.inl e)))).cell];rfl,by rw[(ht.lies (show aa w.drew J _ _ from U) (fun e=>g2 (.inr (.inl e)))).cell];rfl,by rw[(ht.lies hd.own hd.xM).cell];rfl⟩,(Mk.given e2 hf hs).mono fun x w' q=>⟨q.up ⟨rfl,rfl,rfl,Fm _,fun _ _=>rfl⟩,by rw[(Mk.cp q.2 (show aa w.drew I _ _ from Q) g1).cell];rfl,by rw[(Mk.cp q.2 (show aa w.drew J _ _ from U) g2).cell];rfl,by
   obtain⟨Y',r1,_⟩:=q.2
   rw[r1.own.cell]
   rfl⟩⟩
 obtain⟨r,hr⟩:∃ r,Mk.ends E.D s (.op o) l=r:=⟨_,rfl⟩
 obtain⟨q,hq⟩:∃ q,Tm.app s.N o l=q:=⟨_,rfl⟩
 rw[hr] at X ⊢
 rw[hq] at X
 obtain⟨q0,q1,q2⟩:=q
 obtain⟨bk,O⟩:∃ bk,E.bk=bk:=⟨_,rfl⟩
 rw[O] at X c0
 clear h hf hs hI g1 g2 Q U hA hw Z hd hr hq O
 go_enter Tryz.func236,Tryz.ntmps236
 go_wp2_with fail
 have HS:Hid (w.drew.cell? ⟨I,0,none⟩=some (.pointer (some ⟨M,0,none⟩))/\w.drew.cell? ⟨J,0,none⟩=some (.int .i64 o)/\w.drew.cell? ⟨M,0,none⟩=some (.pointer (some ⟨bk,0,none⟩))):=⟨c1,c2,c0⟩
 go_region_held3 (fun W=>W.cell? ⟨I,0,none⟩=some (.pointer (some ⟨M,0,none⟩))/\W.cell? ⟨J,0,none⟩=some (.int .i64 o)/\W.cell? ⟨M,0,none⟩=some (.pointer (some ⟨bk,0,none⟩)))
  (first|exact HS.out|assumption)
  (first|(go_at_call 36;refine X.out.mono ?_;rintro e L ⟨rfl,ad,Z⟩)|(go_at_call 237;refine Calls.mono (by assumption) ?_;rintro e w2 ⟨⟨rfl,v⟩,ah⟩))
 all_goals
  have V:=Gn v
  clear v
  go_wp2
  go_ret
  exact⟨rfl,V.out⟩
theorem iw.put {w w':World} {b:Nat} {m:List (Nat×List Int×Int)} {D:DataW Unit} {j:Nat} {A:List Int} {id:Int} (J:Mk.Keys m) (U:w.ownsMap Tryz.prog 9 (plainElem (H:=Unit) Tryz.prog 3) b m.length D) (ht:kb D m) (r:Maps.size D=m.length)
  (L:w'.ownsMap Tryz.prog 9 (plainElem (H:=Unit) Tryz.prog 3) b (m.length+1) (D.put (dF (Mk.key j A)) (.lit (.int .i64 id)))):iw w' b (Mk.put m j A id):=by
 have h:=U.tidy gC
 have hs:Maps.size (D.put (dF (Mk.key j A)) (.lit (.int .i64 id)))=(Mk.put m j A id).length:=by
  rw[Maps.size_put h,Mk.Bb J,r]
  obtain⟨O,Q⟩:=ht j A
  cases I:Mk.hit m j A with
  |none=>rw[O I];rfl
  |some i=>rw[(Q i I).1];rfl
 exact⟨⟨_,me L (by rw[hs];exact Fm _),ht.put h j A id,hs⟩,J.put j A id⟩
theorem uU (E:Mk.Env) (w:World) (M:Nat) (Y:Mk.Lay) (s:Ms) (bs:List Fr) (f:Fr) (j:Nat) (A0:List Int) (O b2:Nat) (A:Option Addr) (n c:Nat) (l:List Int) (h:Mk.aF E w M Y s) (hf:s.fr=bs++[f]) (hs:Mk.Small s)
  (g1:¬Mk.ag M Y O) (l1:aa w O 95 #[.pointer (some ⟨M,0,none⟩)]) (l2:aa w b2 9 #[.string (Mk.key j A0)]) (hA:aH w A n l) (hg:Gs (fun k=>¬Mk.ag M Y k) A n) (hw:∀ z∈l,(Lit.int .i64 z).wf=true) (h0:0<n) (a1:(Mk.key j A0).size<=maxLen) (hm:s.made.length<maxLen):
  Calls Tryz.prog 273 #[.slice A n c,.pointer (some ⟨O,0,none⟩),.pointer (some ⟨b2,0,none⟩)] w fun x w'=>Mk.aY E w M Y (Mk.ends E.D s (.cD j A0) l) x w':=by
 obtain⟨b,off,z,rfl,hz,av,_,hc⟩:=hA.get h0
 rw[Ho] at hc
 have L:l.headD 0=z:=by
  cases l with
  |nil=>simp at hz
  |cons y l=>simpa using hz
 obtain⟨U,c0⟩:=hc w (Gp _ w)
 have X:¬Mk.ag M Y b:=hg _ rfl h0
 have c1:w.cell? ⟨O,0,none⟩=some (.pointer (some ⟨M,0,none⟩)):=by rw[l1.cell];rfl
 have c2:w.cell? ⟨b2,0,none⟩=some (.string (Mk.key j A0)):=by rw[l2.cell];rfl
 have c3:w.cell? ⟨M,3,none⟩=some (.map (some Y.mb)):=by rw[h.own.cell];rfl
 have hd:Mk.aF E w.drew M Y s:=h.drew
 obtain⟨⟨D,ho,ht,ao⟩,hk⟩:=hd.made
 have Z:=IG (P:=Tryz.prog) Tryz.underlying9 a1
 have ba:=hw z av
 have Q:Hid (∀ w',w'.ownsMap Tryz.prog 9 (plainElem (H:=Unit) Tryz.prog 3) Y.mb (s.made.length+1) (D.put (dF (Mk.key j A0)) (.lit (.int .i64 z)))->w.drew.grownBy w' (some Y.mb)->
   w'.cell? ⟨O,0,none⟩=some (.pointer (some ⟨M,0,none⟩))/\w'.cell? ⟨b,off,none⟩=some (.int .i64 z)/\Calls Tryz.prog 237 #[.pointer (some ⟨M,0,none⟩),.int .i64 z,.int .i64 0] w'.drew fun x w'=>Mk.aY E w M Y (Mk.ends E.D s (.cD j A0) l) x w'):=fun w' q1 q2=>by
  have hl:=hd.note q2 (iw.put hk ho ht ao q1)
  have e1:=Mk.cp hl (show aa w.drew O _ _ from l1) g1
  refine⟨by rw[e1.cell];rfl,?_,?_⟩
  ·obtain⟨Y',_,t,_⟩:=hl
   exact(t.cell (p:=⟨b,off,none⟩) U X).trans c0
  ·obtain⟨Y',r1,t1,y1⟩:=hl
   have hb:bs.length<=5000:=by have:=hs.fr;rw[hf,Gb] at this;omega
   have a7:f.ids.length<=100000:=by have:=(hs.ids f (by rw[hf];simp)).1;omega
   refine(pk E w'.drew M Y' _ bs f z 0 r1.drew hf hb a7).mono fun x w2 ⟨k1,k2⟩=>⟨by rw[k1];show Ending.returned (Value.int .i64 _)=.returned (.int .i64 (Mk.give _ (l.headD 0) 0).2);rw[L],?_⟩
   have k3:=((k2.up (w:=w') ⟨rfl,rfl,rfl,Fm _,fun _ _=>rfl⟩).after (Y:=Y) t1 y1).up (w:=w) ⟨rfl,rfl,rfl,Fm _,fun _ _=>rfl⟩
   show Mk.Left E w M Y (Mk.give _ (l.headD 0) 0).1 w2
   rw[L]
   exact k3
 have HO:Hid (w.drew.ownsMap Tryz.prog 9 (plainElem (H:=Unit) Tryz.prog 3) Y.mb s.made.length D):=ho
 obtain⟨r,hr⟩:∃ r,Mk.ends E.D s (.cD j A0) l=r:=⟨_,rfl⟩
 rw[hr] at Q ⊢
 obtain⟨ml,ah⟩:∃ ml,s.made.length=ml:=⟨_,rfl⟩
 rw[ah] at Q HO hm
 obtain⟨mb,ad⟩:∃ mb,Y.mb=mb:=⟨_,rfl⟩
 rw[ad] at Q HO c3
 have bl:(0:Int)<(n:Int):=by omega
 have z1:=l1.lt
 have z2:=l2.lt
 have zM:=h.own.lt
 clear h hf hs g1 l1 l2 hA hg hw hz av hc X hd ho ht ao hk hr ah ad L
 go_enter Tryz.func273,Tryz.ntmps273
 go_wp2_with fail
 go_still_tail 8,(by kernel_rfl)
 change wpList _ _ _ _ _ w.drew
 refine Iw _ rfl _ _ _ 115 rfl 9 3 gC Tryz.underlying115 _ mb ml _ rfl HO.out hm _ _ _ rfl rfl Z _ [] (Iu Tryz.underlying3 ba) ?_
 intro w1 J I
 obtain⟨k1,k2,k3⟩:=Q.out w1 J I
 have bb:b<w1.heap.size:=Fp U I.size
 have HG:=Gn k3
 clear J I k3 Q HO c0 c1 c2 c3
 go_wp2_with fail
 go_still_tail 4,(by kernel_rfl)
 change wpList _ _ _ _ _ w1.drew
 generalize w1.drew=W2 at HG ⊢
 go_wp2_with fail
 refine HG.out.mono ?_
 rintro e w2 ⟨rfl,v⟩
 have V:=Gn v
 clear HG v
 go_wp2
 go_ret
 exact⟨rfl,V.out⟩
end Go.Proofs.YtdbgiijdgedggaaGreatDoor
