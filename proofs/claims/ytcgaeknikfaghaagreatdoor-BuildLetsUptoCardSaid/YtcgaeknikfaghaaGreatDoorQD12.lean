/- What the proofs of this claim use, text by text. -/
import Derived.Test.YtcgaeknikfaghaaGreatDoorQD06
import Derived.Lib.ConvBytes
import Derived.Lib.AtoiErrMem
import Derived.Lib.MinMax
import Derived.Test.YtcgaeknikfaghaaGreatDoorRows
import Derived.Stop.LaidErr
import Derived.Lib.LaidTab
import Derived.Shelf.Vars
set_option linter.unusedSimpArgs false
set_option linter.unusedVariables false
set_option maxRecDepth 100000
set_option maxHeartbeats 25600000
namespace Go.Proofs.YtcgaeknikfaghaaGreatDoor
open Go.RowKit
theorem sgn_neg {z:Int}:(Z.sgn z<0)↔z<0:=by
 rcases Z.sgn_cases z with⟨h1,h2⟩|⟨h1,h2⟩|⟨h1,h2⟩ <;> rw[h2] <;> omega
structure Gl (w:World):Prop where
 syn:∃ v,w.cell? ⟨4,0,none⟩=some v∧(v=.nilIface∨∃ t p,v=.iface t p)
 bru:w.cell? ⟨8,15,none⟩=some (.int .u8 4)
 max:∃ m:Int,w.cell? ⟨1,0,none⟩=some (.int .i64 m)
theorem Gl.below {w w':World} (h:Gl w) (hb:Below w.heap.size w w'):Gl w':=by
 obtain⟨⟨v,h1,h2⟩,h3,⟨m,h4⟩⟩:=h
 exact⟨⟨v,(hb.cell (p:=⟨4,0,none⟩) (World.block_lt_of_cell? w _ h1)).trans h1,h2⟩,(hb.cell (p:=⟨8,15,none⟩) (World.block_lt_of_cell? w _ h3)).trans h3,⟨m,(hb.cell (p:=⟨1,0,none⟩) (World.block_lt_of_cell? w _ h4)).trans h4⟩⟩
theorem kpoint7 (z:Int) (w:World):Calls Tryz.prog 203 #[.int .i64 z] w fun e w'=>e=.returned (.bool (Lt.pt z))∧w'=w:=by
 by_cases h0:0≤z
 ·by_cases h1:z≤196607
  ·have hp:Lt.pt z=true:=decide_eq_true ⟨h0,h1⟩
   rw[hp]
   go_enter Tryz.func203,Tryz.ntmps203
   go_wp2
   go_ret
   exact⟨rfl,rfl⟩
  ·have hp:Lt.pt z=false:=decide_eq_false (by omega)
   rw[hp]
   go_enter Tryz.func203,Tryz.ntmps203
   go_wp2
   go_ret
   exact⟨rfl,rfl⟩
 ·have hp:Lt.pt z=false:=decide_eq_false (by omega)
  rw[hp]
  go_enter Tryz.func203,Tryz.ntmps203
  go_wp2
  go_ret
  exact⟨rfl,rfl⟩
theorem kruns1 (z:Int) (w:World):Calls Tryz.prog 202 #[.int .i64 z] w fun e w'=>e=.returned (.bool (!Lt.pt z))∧w'=w:=by
 have HP:=Lib.hid fun W=>kpoint7 z W
 generalize Lt.pt z=b at HP
 cases b
 all_goals
  go_enter Tryz.func202,Tryz.ntmps202
  go_wp2_with (go_at_call 203;refine(HP.out _).mono ?_;rintro e w1 ⟨rfl,rfl⟩)
  go_ret
  exact⟨rfl,rfl⟩
def Lt.low (n:Nat):Nat:=if n/32 % 2=1 then n else n+32
theorem Lt.low_all:((List.range 256).all fun n=>decide (bits .or .u8 (n:Int) 32=(Lt.low n:Int))&&decide (Lt.low n<256))=true:=by decide +kernel
theorem Lt.low_bits {n:Nat} (h:n<256):bits .or .u8 (n:Int) 32=(Lt.low n:Int)∧Lt.low n<256:=by
 have:=List.all_eq_true.1 Lt.low_all n (List.mem_range.2 h)
 simpa using this
theorem klower7 (n:Nat) (h:n<256) (w:World):Calls Tryz.prog 246 #[.int .u8 (n:Nat)] w fun e w'=>e=.returned (.int .u8 (Lt.low n:Nat))∧w'=w:=by
 obtain⟨h1,h2⟩:=Lt.low_bits h
 go_enter Tryz.func246,Tryz.ntmps246
 go_wp2
 go_ret
 exact⟨by first|rfl|rw[h1],rfl⟩
theorem kindexI (w:World) (A:Option Addr) (n c:Nat) (l:List Int) (h:NumS w A n l) (hn:n≤1000000000):
  Calls Tryz.prog 218 #[.slice A n c,.func (.func 202) #[] #[]] w fun e w'=>(∃ r:Int,e=.returned (.int .i64 r)∧decide (0≤r)=!(l.all Lt.pt))∧w'=w:=by
 have HH:=Lib.hid h
 obtain⟨X,HX⟩:∃ X,Hid (l.all Lt.pt=X):=⟨_,rfl⟩
 rw[HX.out]
 clear h
 go_enter Tryz.func218,Tryz.ntmps218
 go_wp2
 go_loopw [8] (fun iv wr=>∃ i:Nat,i≤n∧iv=.int .i64 (i:Nat)∧wr=w∧Hid (∀ z∈l.take i,Lt.pt z=true)) (fun iv _=>n-(intOf iv).toNat)
 case atStart=>exact⟨0,Nat.zero_le _,rfl,rfl,fun _ hz=>absurd hz List.not_mem_nil⟩
 case round=>
  obtain⟨i,hi,rfl,rfl,HI⟩:=hrel
  by_cases hlt:i<n
  ·obtain⟨b,off,z,rfl,hz,hmem,_,hc⟩:=HH.out.get hlt
   obtain⟨q1,q2⟩:=hc wr (Below.refl _ _)
   have hlt':(i:Int)<(n:Int):=by omega
   have h0:(0:Int)≤(i:Int):=by omega
   have HPt:=Lib.hid (kruns1 z wr)
   cases hp:Lt.pt z with
   |false=>
    obtain rfl:X=false:=by rw[←HX.out];exact List.all_eq_false.2 ⟨z,hmem,by rw[hp];decide⟩
    rw[hp] at HPt
    clear HI hz hmem hc hp HX
    go_wp2_with fail
    refine HPt.out.mono ?_
    rintro e w1 ⟨rfl,rfl⟩
    go_wp2
    go_ret
    exact⟨⟨_,rfl,by simp⟩,by trivial⟩
   |true=>
    rw[hp] at HPt
    have HAll:Hid (∀ y∈l.take (i+1),Lt.pt y=true):=by
     intro y hy
     rw[take_one hz] at hy
     rcases List.mem_append.1 hy with hy|hy
     ·exact HI.out y hy
     ·rw[List.mem_singleton.1 hy]
      exact hp
    clear HI hz hmem hc hp HX
    go_wp2_with fail
    refine HPt.out.mono ?_
    rintro e w1 ⟨rfl,rfl⟩
    go_wp2
    go_roundw
    case rel=>exact⟨i+1,by omega,by go_num,by trivial,HAll.out⟩
    case measure=>simp[intOf];omega
  ·obtain rfl:i=n:=by omega
   obtain rfl:X=true:=by
    rw[←HX.out]
    have:=HI.out
    rw[List.take_of_length_le (by rw[HH.out.len];exact Nat.le_refl _)] at this
    exact List.all_eq_true.2 this
   clear HI HX
   go_wp2
   go_ret
   exact⟨⟨_,rfl,by decide⟩,by trivial⟩
theorem kcontI (w:World) (A:Option Addr) (n c:Nat) (l:List Int) (h:NumS w A n l) (hn:n≤1000000000):
  Calls Tryz.prog 201 #[.slice A n c,.func (.func 202) #[] #[]] w fun e w'=>e=.returned (.bool (!(l.all Lt.pt)))∧w'=w:=by
 have HI:=Lib.hid (kindexI w A n c l h hn)
 generalize (!(l.all Lt.pt))=X at HI
 clear h
 go_enter Tryz.func201,Tryz.ntmps201
 go_wp2_with (go_at_call 218;refine HI.out.mono ?_;rintro e w1 ⟨⟨r,rfl,hr⟩,rfl⟩)
 go_ret
 exact⟨by first|rfl|rw[hr],rfl⟩
theorem Lt.ways_dig {n:Nat} (h:n<48∨57<n):decide ((48:Int)≤(n:Int))=false∨decide ((48:Int)≤(n:Int))=true∧decide ((n:Int)≤57)=false:=by
 by_cases h1:n<48
 ·exact .inl (decide_eq_false (by omega))
 ·exact .inr ⟨decide_eq_true (by omega),decide_eq_false (by omega)⟩
def Lt.digBy (n:Nat):Option Nat:=if 48≤n∧n≤57 then some (n-48) else if 97≤Lt.low n∧Lt.low n≤102 then some (Lt.low n-87) else none
theorem Lt.digBy_all:((List.range 256).all fun n=>decide (Lt.dig (UInt8.ofNat n)=Lt.digBy n))=true:=by decide +kernel
theorem Lt.digBy_eq (c:UInt8):Lt.dig c=Lt.digBy c.toNat:=by
 have:=List.all_eq_true.1 Lt.digBy_all c.toNat (List.mem_range.2 c.toNat_lt)
 simpa using this
theorem Lt.low_95:Lt.low 95=127:=by decide
def Lt.parse (l:List UInt8):Option Nat:=if l=[] then none else Lt.val 0 l
def Lt.parsed:Option Nat→Value
 |some n=> .tuple #[.int .u64 (n:Nat),.nilIface]
 |none=> .tuple #[.int .u64 0,.iface 291 (.int .i64 2)]
theorem kparse_in (T:ByteArray) (w:World) (hT:T.size≤5):
  Calls Tryz.prog 235 #[.string T,.int .i64 16,.int .i64 32] w fun e w'=>e=.returned (Lt.parsed (Lt.parse T.data.toList))∧Below w.heap.size w w':=by
 by_cases hz:T.size=0
 ·have he:T=⟨#[]⟩:=Lt.bytes_eq (by rw[List.eq_nil_of_length_eq_zero ((Lt.len_bytes T).trans hz)])
  subst he
  clear hT hz
  go_enter Tryz.func235,Tryz.ntmps235
  go_wp2
  go_ret2
  exact⟨rfl,Below.refl _ _⟩
 have hne:T.data.toList≠[]:=fun e=>hz (by rw[←Lt.len_bytes,e];rfl)
 have hneT:(T.toList == [])=false:=by rw[ByteArray.toList_eq];exact beq_eq_false_iff_ne.2 hne
 have hemp:T.toList.isEmpty=false:=by rw[ByteArray.toList_eq];exact List.isEmpty_eq_false_iff.2 hne
 obtain⟨X,HX⟩:∃ X,Hid (Lt.parse T.data.toList=X):=⟨_,rfl⟩
 have HX0:Hid (Lt.val 0 T.data.toList=X):=by
  have:=HX.out
  unfold Lt.parse at this
  rw[if_neg hne] at this
  exact this
 rw[HX.out]
 have hcv:=Lib.run_convert_string_bytes (P:=Tryz.prog) w 9 109 5 T (u:=.string) Tryz.underlying9 Tryz.underlying109 Tryz.underlying5
 have HC:Hid (∀ (j:Nat) (hj:j<T.size),(Lib.bytesWorld w 5 T).cell? ⟨w.heap.size,j,none⟩=some (.int .u8 (T[j].toNat:Nat))):=fun j hj=>by
  rw[Lib.bytesWorld_cell w 5 T j hj]
  have h':j<T.data.toList.length:=by rw[Lt.len_bytes];exact hj
  simp[List.getD,List.getElem?_eq_getElem h']
  rfl
 have HB:=Lib.hid (Lib.bytesWorld_below w 5 T)
 obtain⟨W1,hW1⟩:∃ W1,W1=Lib.bytesWorld w 5 T:=⟨_,rfl⟩
 rw[←hW1] at hcv HC HB
 have hmv:IntKind.u64.wrap (IntKind.u64.wrap 4294967296-1)=4294967295:=by
  rw[IntKind.wrap_u64,IntKind.wrap_u64]
  decide
 clear hW1 HX hne
 go_enter Tryz.func235,Tryz.ntmps235
 go_wp2
 go_loop [12,13,101] (fun vu vn vi=>∃ (k acc:Nat),vu=.bool false∧vn=.int .u64 (acc:Nat)∧vi=.int .i64 (k:Nat)∧k≤T.size∧Hid (X=Lt.val acc (T.data.toList.drop k)∧acc<16^k))
  (fun _ _ vi=>T.size-(intOf vi).toNat)
 case atStart=>exact⟨0,0,rfl,rfl,rfl,Nat.zero_le _,HX0.out.symm,by decide⟩
 case round=>
  obtain⟨k,acc,rfl,rfl,rfl,hk,HI⟩:=hrel
  have hacc:acc<1048576:=Nat.lt_of_lt_of_le HI.out.2 (Nat.le_trans (Nat.pow_le_pow_right (by decide) (show k≤5 by omega)) (by decide))
  by_cases hlt:k<T.size
  ·have hc:=HC.out k hlt
   obtain⟨hv,hp⟩:=HI.out
   rw[Lt.drop_at T hlt] at hv
   have hd:=Lt.digBy_eq T[k]
   have hc256:=T[k].toNat_lt
   generalize hg:T[k]=c at hc hv hd hc256
   generalize hn:c.toNat=n at hc hd hc256
   have HLow:=Lib.hid fun W=>klower7 n hc256 W
   have hlow:=(Lt.low_bits hc256).2
   unfold Lt.digBy at hd
   have ha0:(acc:Int)<1048576:=by omega
   have hc256':(n:Int)<256:=by omega
   have hlt':(k:Int)<(T.size:Int):=by omega
   have hT':(T.size:Int)≤5:=by omega
   clear HC HX0 hemp hneT hT
   by_cases hdig:48≤n∧n≤57
   ·rw[if_pos hdig] at hd
    rw[Lt.val_some _ hd] at hv
    obtain⟨hd0,hd1⟩:=hdig
    obtain⟨r,hr⟩:∃ r,r=acc*16+(n-48):=⟨_,rfl⟩
    rw[←hr] at hv
    have HN:Hid (X=Lt.val r (T.data.toList.drop (k+1))∧r<16^(k+1)):=by
     refine⟨hv,?_⟩
     rw[Nat.pow_succ]
     omega
    have hd0':(48:Int)≤(n:Int):=by omega
    have hd1':(n:Int)≤57:=by omega
    have h95:((n:Int) == 95)=false:=beq_eq_false_iff_ne.2 (by omega)
    have hsum:(acc:Int)*16+((n:Int)-48)=(r:Int):=by omega
    have h16:decide ((16:Int)≤(n:Int)-48)=false:=decide_eq_false (by omega)
    have h17:decide ((1152921504606846976:Int)≤(acc:Int))=false:=decide_eq_false (by omega)
    have h18:decide ((r:Int)<(acc:Int)*16)=false:=decide_eq_false (by omega)
    have h19:decide ((4294967295:Int)<(r:Int))=false:=decide_eq_false (by omega)
    clear HI hv hp hd hg hn hc256 hlow hr
    go_wp2
    refine⟨⟨k+1,r,rfl,(by first|rfl|(congr 1;omega)),(by first|rfl|(congr 1;omega)),by omega,HN.out⟩,by simp[intOf];omega⟩
   ·rw[if_neg hdig] at hd
    by_cases hlet:97≤Lt.low n∧Lt.low n≤102
    ·rw[if_pos hlet] at hd
     rw[Lt.val_some _ hd] at hv
     have hn95:n≠95:=by
      rintro rfl
      rw[Lt.low_95] at hlet
      omega
     have h95:((n:Int) == 95)=false:=beq_eq_false_iff_ne.2 (by omega)
     generalize Lt.low n=m at hlet hv HLow hlow
     obtain⟨hl0,hl1⟩:=hlet
     have hl0':(97:Int)≤(m:Int):=by omega
     have hl1':(m:Int)≤102:=by omega
     obtain⟨r,hr⟩:∃ r,r=acc*16+(m-87):=⟨_,rfl⟩
     rw[←hr] at hv
     have HN:Hid (X=Lt.val r (T.data.toList.drop (k+1))∧r<16^(k+1)):=by
      refine⟨hv,?_⟩
      rw[Nat.pow_succ]
      omega
     have hways:decide ((48:Int)≤(n:Int))=false∨decide ((48:Int)≤(n:Int))=true∧decide ((n:Int)≤57)=false:=Lt.ways_dig (by omega)
     have h20:decide ((97:Int)≤(m:Int))=true:=decide_eq_true hl0'
     have h21:decide ((m:Int)≤122)=true:=decide_eq_true (by omega)
     obtain⟨d,hdm⟩:∃ d:Nat,(m:Int)-97+10=(d:Int):=⟨m-87,by omega⟩
     have hsum:(acc:Int)*16+(d:Int)=(r:Int):=by omega
     have h16:decide ((16:Int)≤(d:Int))=false:=decide_eq_false (by omega)
     have h17:decide ((1152921504606846976:Int)≤(acc:Int))=false:=decide_eq_false (by omega)
     have h18:decide ((r:Int)<(acc:Int)*16)=false:=decide_eq_false (by omega)
     have h19:decide ((4294967295:Int)<(r:Int))=false:=decide_eq_false (by omega)
     have hd16:(d:Int)<16:=by omega
     clear HI hv hp hd hg hn hc256 hlow hdig hn95 hr hl0 hl1
     rcases hways with h1|⟨h1,h2⟩
     all_goals
      go_wp2_with (go_at_call 246;refine(HLow.out _).mono ?_;rintro e w1 ⟨rfl,rfl⟩)
      refine⟨⟨k+1,r,rfl,(by first|rfl|(congr 1;omega)),(by first|rfl|(congr 1;omega)),by omega,HN.out⟩,by simp[intOf];omega⟩
    ·rw[if_neg hlet] at hd
     rw[Lt.val_none _ hd] at hv
     subst hv
     have hways:decide ((48:Int)≤(n:Int))=false∨decide ((48:Int)≤(n:Int))=true∧decide ((n:Int)≤57)=false:=Lt.ways_dig (by omega)
     have hways2:n=95∨((n:Int) == 95)=false:=by
      by_cases h:n=95
      ·exact .inl h
      ·exact .inr (beq_eq_false_iff_ne.2 (by omega))
     have hways3:(Lt.low n:Int)<97∨(97:Int)≤(Lt.low n:Int)∧(122:Int)<(Lt.low n:Int)∨(103:Int)≤(Lt.low n:Int)∧(Lt.low n:Int)≤122:=by omega
     generalize Lt.low n=m at hways3 HLow hlow hlet
     have hm':(m:Int)<256:=by omega
     have hways4:decide ((97:Int)≤(m:Int))=false∨decide ((97:Int)≤(m:Int))=true∧decide ((m:Int)≤122)=false∨(decide ((97:Int)≤(m:Int))=true∧decide ((m:Int)≤122)=true∧(97:Int)≤(m:Int))∧decide ((16:Int)≤(m:Int)-97+10)=true:=by
      rcases hways3 with h|h|h
      ·exact .inl (decide_eq_false (by omega))
      ·exact .inr (.inl ⟨decide_eq_true h.1,decide_eq_false (by omega)⟩)
      ·exact .inr (.inr ⟨⟨decide_eq_true (by omega),decide_eq_true (by omega),by omega⟩,decide_eq_true (by omega)⟩)
     clear hways3
     clear HI hp hd hg hn hc256 hlow hdig hlet
     rcases hways2 with rfl|h95
     ·rcases hways4 with h3|⟨h3,h4⟩|⟨⟨h3,h4,h6⟩,h5⟩
      all_goals
       clear hways
       go_wp2_with (go_at_call 246;refine(HLow.out _).mono ?_;rintro e w1 ⟨rfl,rfl⟩)
       go_ret2
       exact⟨rfl,HB.out⟩
     ·rcases hways with h1|⟨h1,h2⟩
      all_goals
       rcases hways4 with h3|⟨h3,h4⟩|⟨⟨h3,h4,h6⟩,h5⟩
       all_goals
        go_wp2_with (go_at_call 246;refine(HLow.out _).mono ?_;rintro e w1 ⟨rfl,rfl⟩)
        go_ret2
        exact⟨rfl,HB.out⟩
  ·obtain rfl:k=T.size:=by omega
   have hv:=HI.out.1
   rw[List.drop_of_length_le (by rw[Lt.len_bytes];exact Nat.le_refl _),Lt.val] at hv
   subst hv
   clear HI hlt HC HX0
   go_wp2
   go_ret2
   exact⟨rfl,HB.out⟩
theorem kParseUint7 (T:ByteArray) (w:World) (hT:T.size≤5) (hG:Gl w):
  Calls Tryz.prog 220 #[.string T,.int .i64 16,.int .i64 32] w fun e w'=>(∃ (n:Nat) (v:Value),e=.returned (.tuple #[.int .u64 (n:Nat),v])∧(v=.nilIface∧Lt.parse T.data.toList=some n∨(∃ t x,v=.iface t x)∧Lt.parse T.data.toList=none∧n=0))∧Below w.heap.size w w':=by
 have HP:=Lib.hid (kparse_in T w hT)
 have HGl:=Lib.hid hG
 obtain⟨X,hX⟩:∃ X,Lt.parse T.data.toList=X:=⟨_,rfl⟩
 rw[hX] at HP ⊢
 cases X with
 |some n=>
  clear hX hG
  go_enter Tryz.func220,Tryz.ntmps220
  go_wp2_with (go_at_call 235;refine(HP.out).mono ?_;rintro e w1 ⟨rfl,hb⟩;unfold Lt.parsed)
  go_ret2
  exact⟨⟨n,_,rfl,.inl ⟨by first|rfl|trivial,by first|rfl|trivial⟩⟩,hb⟩
 |none=>
  clear hX hG
  go_enter Tryz.func220,Tryz.ntmps220
  go_wp2_with (first
   |(go_at_call 235;refine(HP.out).mono ?_;rintro e w1 ⟨rfl,hb⟩;unfold Lt.parsed)
   |(go_at_call 236;obtain⟨v,g1,g2⟩:=(HGl.out.below hb).syn;refine(Tryz.strconv_toError_syntax _ _ _ _ v _ (by omega) g1 g2).mono ?_;rintro e w2 ⟨N,rfl,_,_,hb2⟩))
  go_ret2
  exact⟨⟨0,_,rfl,.inr ⟨⟨_,_,rfl⟩,by first|rfl|trivial,rfl⟩⟩,hb.trans (hb2.mono hb.size)⟩
def DigOf (c:UInt8) (r t:List UInt8) (k:Nat):Prop:=k=0∧Lt.one (c::r)=(c.toNat,r)∨0<k∧k≤r.length+1∧t.length≤5∧Lt.one (c::r)=(Lt.num t).elim (c.toNat,r) fun n=>(n,(c::r).drop k)
theorem DigOf.none_ {l:List UInt8} {c:UInt8} {r:List UInt8} (hl:l=c::r) (h:l.take 2≠[92,117]):DigOf c r [] 0:=by
 subst hl
 refine .inl ⟨rfl,Lt.one_plain fun e=>h ?_⟩
 obtain⟨rfl,e⟩:=e
 cases r with
 |nil=>cases e
 |cons d r=>injection e with e;subst e;rfl
theorem Lt.getD_elim {α:Type} (o:Option Nat) (f:Nat→α) (d:α):(o.map f).getD d=o.elim d f:=by cases o <;> rfl
theorem DigOf.four {l:List UInt8} {c:UInt8} {r:List UInt8} (hl:l=c::r) (h:l.take 2=[92,117]) (h3:l.take 3≠[92,117,123]) (h6:6≤l.length):DigOf c r ((l.drop 2).take 4) 6:=by
 obtain⟨q,rfl⟩:∃ q,l=92::117::q:=⟨l.drop 2,by have e:=List.take_append_drop 2 l;rw[h] at e;exact e.symm⟩
 injection hl with e1 e2
 subst e1
 subst e2
 refine .inr ⟨by decide,by simpa using h6,by simp;omega,?_⟩
 rw[Lt.one_esc,Lt.esc_four fun e=>h3 ?_,if_pos (by simpa using h6),Lt.getD_elim]
 ·rfl
 ·cases q with
  |nil=>cases e
  |cons d q=>injection e with e;subst e;rfl
theorem DigOf.short {l:List UInt8} {c:UInt8} {r:List UInt8} (hl:l=c::r) (h:l.take 2=[92,117]) (h3:l.take 3≠[92,117,123]) (h6:¬6≤l.length):DigOf c r [] 0:=by
 obtain⟨q,rfl⟩:∃ q,l=92::117::q:=⟨l.drop 2,by have e:=List.take_append_drop 2 l;rw[h] at e;exact e.symm⟩
 injection hl with e1 e2
 subst e1
 subst e2
 refine .inl ⟨rfl,?_⟩
 rw[Lt.one_esc,Lt.esc_four fun e=>h3 ?_,if_neg (by simp at h6;omega)]
 ·rfl
 ·cases q with
  |nil=>cases e
  |cons d q=>injection e with e;subst e;rfl
theorem Lt.app_first {α:Type} [DecidableEq α] {x:α}:∀ {a b c d:List α},a++x::b=c++x::d→x∉a→x∉c→a=c∧b=d
 |[],b,[],d,h,_,_=>⟨rfl,by injection h⟩
 |[],b,y::c,d,h,_,hc=>by injection h with h _;subst h;exact absurd List.mem_cons_self hc
 |y::a,b,[],d,h,ha,_=>by injection h with h _;subst h;exact absurd List.mem_cons_self ha
 |y::a,b,z::c,d,h,ha,hc=>by
  injection h with h1 h2
  subst h1
  obtain⟨e1,e2⟩:=Lt.app_first h2 (fun m=>ha (List.mem_cons_of_mem _ m)) (fun m=>hc (List.mem_cons_of_mem _ m))
  exact⟨by rw[e1],e2⟩
theorem Lt.num_no125 {d:List UInt8} {n:Nat} (h:Lt.num d=some n):(125:UInt8)∉d:=fun hm=>by
 have:=Lt.val_digs d 0 n (Lt.num_some.1 h).2.1 125 hm
 rw[Lt.dig_125] at this
 cases this
theorem Lt.brace_first {q d x:List UInt8} (h:q=d++125::x) (hd:(125:UInt8)∉d) (h5:d.length≤5):Lt.brace q=(Lt.num d).map fun n=>(n,q.drop (d.length+1)):=by
 have hx:q.drop (d.length+1)=x:=by
  rw[h]
  simp
 rw[hx]
 cases e:Lt.num d with
 |some n=>exact Lt.brace_some.2 ⟨d,h,h5,e⟩
 |none=>
  cases e2:Lt.brace q with
  |none=>rfl
  |some y=>
   obtain⟨n,r⟩:=y
   obtain⟨d',h1,_,h3⟩:=Lt.brace_some.1 e2
   obtain⟨rfl,_⟩:=Lt.app_first (h.symm.trans h1) hd (Lt.num_no125 h3)
   rw[e] at h3
   cases h3
theorem Lt.brace_far {q:List UInt8} (h:(125:UInt8)∉q.take 6):Lt.brace q=none:=by
 cases e:Lt.brace q with
 |none=>rfl
 |some y=>
  obtain⟨n,r⟩:=y
  obtain⟨d,h1,h2,h3⟩:=Lt.brace_some.1 e
  refine absurd ?_ h
  subst h1
  rw[List.take_append]
  refine List.mem_append_right _ ?_
  obtain⟨k,hk⟩:∃ k,6-d.length=k+1:=⟨5-d.length,by omega⟩
  rw[hk,List.take_succ_cons]
  exact List.mem_cons_self
theorem DigOf.far {l:List UInt8} {c:UInt8} {r:List UInt8} (hl:l=c::r) (h3:l.take 3=[92,117,123]) (h:(125:UInt8)∉(l.drop 3).take 6):DigOf c r [] 0:=by
 obtain⟨q,rfl⟩:∃ q,l=92::117::123::q:=⟨l.drop 3,by have e:=List.take_append_drop 3 l;rw[h3] at e;exact e.symm⟩
 injection hl with e1 e2
 subst e1
 subst e2
 refine .inl ⟨rfl,?_⟩
 rw[Lt.one_esc,Lt.esc_brace,Lt.brace_far (q:=q) h]
 rfl
theorem DigOf.brace {l:List UInt8} {c:UInt8} {r d x:List UInt8} (hl:l=c::r) (h3:l.take 3=[92,117,123]) (h:(l.drop 3).take 6=d++125::x) (hd:(125:UInt8)∉d):DigOf c r d (3+d.length+1):=by
 obtain⟨q,rfl⟩:∃ q,l=92::117::123::q:=⟨l.drop 3,by have e:=List.take_append_drop 3 l;rw[h3] at e;exact e.symm⟩
 injection hl with e1 e2
 subst e1
 subst e2
 have hq:q.take 6=d++125::x:=h
 have h5:d.length≤5∧d.length+1≤q.length:=by
  have:=congrArg List.length hq
  rw[List.length_take,List.length_append,List.length_cons] at this
  omega
 have hq':q=d++125::(x++q.drop 6):=by
  conv=>lhs;rw[←List.take_append_drop 6 q,hq]
  simp
 refine .inr ⟨by omega,by simp;omega,h5.1,?_⟩
 rw[Lt.one_esc,Lt.esc_brace,Lt.brace_first hq' hd h5.1,Lt.getD_elim]
 rw[show 3+d.length+1=(d.length+1)+3 by omega]
 rfl
theorem Lt.indexByte_ways (c:UInt8):∀ q:List UInt8,Lib.indexByte q c= -1∧c∉q∨∃ d x,Lib.indexByte q c=(d.length:Nat)∧q=d++c::x∧c∉d
 |[]=> .inl ⟨rfl,List.not_mem_nil⟩
 |b::q=>by
  rw[Lib.indexByte]
  by_cases hb:b=c
  ·subst hb
   exact .inr ⟨[],q,by simp,rfl,List.not_mem_nil⟩
  ·have hb':(b == c)=false:=beq_eq_false_iff_ne.2 hb
   rw[hb',if_neg (by simp)]
   rcases Lt.indexByte_ways c q with⟨h1,h2⟩|⟨d,x,h1,h2,h3⟩
   ·refine .inl ⟨by rw[h1];rfl,fun h=>?_⟩
    rcases List.mem_cons.1 h with h|h
    ·exact hb h.symm
    ·exact h2 h
   ·refine .inr ⟨b::d,x,?_,by rw[h2];rfl,fun h=>?_⟩
    ·rw[h1,if_neg (by simp)]
     rfl
    ·rcases List.mem_cons.1 h with h|h
     ·exact hb h.symm
     ·exact h3 h
theorem Lt.cut_ways (q:List UInt8):((Lib.cut q [125]).2.2=false∧(125:UInt8)∉q)∨((Lib.cut q [125]).2.2=true∧(∃ x,q=(Lib.cut q [125]).1++125::x)∧(125:UInt8)∉(Lib.cut q [125]).1):=by
 have hi:=Lib.index_one q 125
 rcases Lt.indexByte_ways 125 q with⟨h1,h2⟩|⟨d,x,h1,h2,h3⟩
 ·refine .inl ⟨?_,h2⟩
  unfold Lib.cut
  rw[hi,h1,if_neg (by decide)]
 ·have e:Lib.cut q [125]=(d,x,true):=by
   unfold Lib.cut
   rw[hi,h1,if_pos (by omega)]
   rw[h2]
   simp
  rw[e]
  exact .inr ⟨rfl,⟨x,h2⟩,h3⟩
theorem Lt.slice_from7 (s:ByteArray) (n:Nat) (hn:n≤s.size) (w:World):(Instr.slice 9 (.string s) (some (.int .i64 (n:Int))) none none).run Tryz.prog w=.ok (.string (s.extract n s.size)) w:=by
 rw[run_slice_string_from_if _ _ _ _ _ Tryz.underlying9,if_pos (by omega)]
 rfl
theorem Lt.hasPrefix_take (l p:List UInt8):Lib.hasPrefix l p=decide (l.take p.length=p):=by
 unfold Lib.hasPrefix
 rw[Bool.eq_iff_iff]
 simp only[decide_eq_true_eq,List.isPrefixOf_iff_prefix]
 constructor
 ·rintro⟨t,rfl⟩
  simp
 ·intro h
  exact⟨l.drop p.length,by
   conv=>lhs;lhs;rw[←h]
   exact List.take_append_drop _ _⟩
theorem kdigits7 (s:ByteArray) (c:UInt8) (r:List UInt8) (hl:s.data.toList=c::r) (w:World) (hs:s.size≤100000000) (hG:Gl w):
  Calls Tryz.prog 219 #[.string s] w fun e w'=>(∃ (T:ByteArray) (k:Nat),e=.returned (.tuple #[.string T,.int .i64 (k:Nat)])∧DigOf c r T.data.toList k)∧Below w.heap.size w w':=by
 have HP3:Hid (∀ W,Calls Tryz.prog 54 #[.string s,.string ⟨#[92,117,123]⟩] W fun e w'=>e=.returned (.bool (decide (s.data.toList.take 3=[92,117,123])))∧w'=W):=fun W=>by
  have:=Tryz.strings_HasPrefix s ⟨#[92,117,123]⟩ W
  rwa [Lt.hasPrefix_take] at this
 have HP2:Hid (∀ W,Calls Tryz.prog 54 #[.string s,.string ⟨#[92,117]⟩] W fun e w'=>e=.returned (.bool (decide (s.data.toList.take 2=[92,117])))∧w'=W):=fun W=>by
  have:=Tryz.strings_HasPrefix s ⟨#[92,117]⟩ W
  rwa [Lt.hasPrefix_take] at this
 have hsz:=Lt.len_bytes s
 by_cases h3:s.data.toList.take 3=[92,117,123]
 ·obtain⟨m,hm⟩:=hG.max
  have hlen:3≤s.size:=by
   have:=congrArg List.length h3
   rw[List.length_take,hsz] at this
   simp at this
   omega
  obtain⟨e,he⟩:∃ e:Nat,min (s.size:Int) 9=(e:Int):=⟨min s.size 9,by omega⟩
  have he3:3≤e:=by omega
  have hes:e≤s.size:=by omega
  have hsl:=Lt.slice_both s 3 e hes he3
  obtain⟨c1,c2⟩:=Lt.cut_bytes s 3 e hes he3
  have hq:(s.extract 3 e).data.toList=(s.data.toList.drop 3).take 6:=by
   rw[c1]
   by_cases h9:9≤s.size
   ·rw[show e-3=6 by omega]
   ·rw[List.take_of_length_le (by rw[List.length_drop,hsz];omega),List.take_of_length_le (by rw[List.length_drop,hsz];omega)]
  have hcut:=fun W hW=>Tryz.strings_Cut (s.extract 3 e) ⟨#[125]⟩ m W (by omega) hW
  rw[hq] at hcut
  have hways:=Lt.cut_ways ((s.data.toList.drop 3).take 6)
  obtain⟨C,hC⟩:∃ C,Lib.cut ((s.data.toList.drop 3).take 6) [125]=C:=⟨_,rfl⟩
  rw[show(⟨#[125]⟩:ByteArray).data.toList=[125] from rfl,hC] at hcut
  rw[hC] at hways
  obtain⟨C1,C2,C3⟩:=C
  simp only at hcut hways
  rw[h3] at HP3
  have HPt:Hid (∀ W,Calls Tryz.prog 54 #[.string s,.string ⟨#[92,117,123]⟩] W fun e w'=>e=.returned (.bool true)∧w'=W):=fun W=>by simpa using HP3.out W
  have HCut:Hid (∀ W,W.cell? ⟨1,0,none⟩=some (.int .i64 m)→Calls Tryz.prog 234 #[.string (s.extract 3 e),.string ⟨#[125]⟩] W fun e w'=>e=.returned (.tuple #[.string ⟨C1.toArray⟩,.string ⟨C2.toArray⟩,.bool C3])∧∃ n,w'=W.drewN n):=hcut
  obtain⟨D,hD⟩:∃ D:ByteArray,(⟨C1.toArray⟩:ByteArray)=D:=⟨_,rfl⟩
  have hD1:D.data.toList=C1:=by rw[←hD]
  have hDl:D.size=C1.length:=by rw[←Lt.len_bytes,hD1]
  rw[hD] at HCut
  have HB:Hid (∀ k,Below w.heap.size w (w.drewN k)):=fun k=>Turn.none_ ((Turn.refl (fun _=>False) w).drewN k) (fun _=>id)
  rcases hways with⟨rfl,hno⟩|⟨rfl,⟨x,hx⟩,hno⟩
  ·have HR:=Lib.hid (DigOf.far hl h3 hno)
   clear HP3 HP2 hl hsz hG hcut hC hno hq c1 c2 h3 hD hD1 hDl
   go_enter Tryz.func219,Tryz.ntmps219
   go_wp2_with (first
    |(go_at_call 54;refine(HPt.out _).mono ?_;rintro e w1 ⟨rfl,rfl⟩)
    |(go_at_call 234;refine(HCut.out _ hm).mono ?_;rintro e w1 ⟨rfl,n,rfl⟩))
   go_ret2
   exact⟨⟨_,_,rfl,HR.out⟩,HB.out _⟩
  ·have HR:=Lib.hid (DigOf.brace hl h3 hx hno)
   have hc6:D.size≤6:=by
    have:=congrArg List.length hx
    rw[List.length_take,List.length_append,List.length_cons] at this
    omega
   rw[←hD1,Lt.len_bytes] at HR
   clear HP3 HP2 hl hsz hG hcut hC hno hq c1 c2 h3 hD hx hD1 hDl
   go_enter Tryz.func219,Tryz.ntmps219
   go_wp2_with (first
    |(go_at_call 54;refine(HPt.out _).mono ?_;rintro e w1 ⟨rfl,rfl⟩)
    |(go_at_call 234;refine(HCut.out _ hm).mono ?_;rintro e w1 ⟨rfl,n,rfl⟩))
   go_ret2
   exact⟨⟨_,_,by first|rfl|(congr 3;omega),HR.out⟩,HB.out _⟩
 ·have HPf:Hid (∀ W,Calls Tryz.prog 54 #[.string s,.string ⟨#[92,117,123]⟩] W fun e w'=>e=.returned (.bool false)∧w'=W):=fun W=>by simpa [h3] using HP3.out W
  by_cases h2:s.data.toList.take 2=[92,117]
  ·have HPt:Hid (∀ W,Calls Tryz.prog 54 #[.string s,.string ⟨#[92,117]⟩] W fun e w'=>e=.returned (.bool true)∧w'=W):=fun W=>by simpa [h2] using HP2.out W
   by_cases h6:6≤s.size
   ·have HR:=Lib.hid (DigOf.four hl h2 h3 (by omega))
    obtain⟨c1,c2⟩:=Lt.cut_bytes s 2 6 h6 (by decide)
    rw[←c1] at HR
    have hsl:=Lt.slice_both s 2 6 h6 (by decide)
    have h6':(6:Int)≤(s.size:Int):=by omega
    clear HP3 HP2 hl hsz hG h3 h2 c1 c2
    go_enter Tryz.func219,Tryz.ntmps219
    go_wp2_with (first
     |(go_at_call 54;refine(HPf.out _).mono ?_;rintro e w1 ⟨rfl,rfl⟩)
     |(go_at_call 54;refine(HPt.out _).mono ?_;rintro e w1 ⟨rfl,rfl⟩))
    go_ret2
    exact⟨⟨_,_,rfl,HR.out⟩,Below.refl _ _⟩
   ·have HR:=Lib.hid (DigOf.short hl h2 h3 (by omega))
    have h6':¬(6:Int)≤(s.size:Int):=by omega
    clear HP3 HP2 hl hsz hG h3 h2 h6
    go_enter Tryz.func219,Tryz.ntmps219
    go_wp2_with (first
     |(go_at_call 54;refine(HPf.out _).mono ?_;rintro e w1 ⟨rfl,rfl⟩)
     |(go_at_call 54;refine(HPt.out _).mono ?_;rintro e w1 ⟨rfl,rfl⟩))
    go_ret2
    exact⟨⟨⟨#[]⟩,0,rfl,HR.out⟩,Below.refl _ _⟩
  ·have HPf2:Hid (∀ W,Calls Tryz.prog 54 #[.string s,.string ⟨#[92,117]⟩] W fun e w'=>e=.returned (.bool false)∧w'=W):=fun W=>by simpa [h2] using HP2.out W
   have HR:=Lib.hid (DigOf.none_ hl h2)
   clear HP3 HP2 hl hsz hG h3 h2
   go_enter Tryz.func219,Tryz.ntmps219
   go_wp2_with (first
    |(go_at_call 54;refine(HPf.out _).mono ?_;rintro e w1 ⟨rfl,rfl⟩)
    |(go_at_call 54;refine(HPf2.out _).mono ?_;rintro e w1 ⟨rfl,rfl⟩))
   go_ret2
   exact⟨⟨⟨#[]⟩,0,rfl,HR.out⟩,Below.refl _ _⟩
theorem Lt.num_parse (l:List UInt8):Lt.num l=(Lt.parse l).bind fun n=>if n≤196607 then some n else none:=by
 unfold Lt.num Lt.parse
 split <;> rfl
theorem Lt.parse_lt {l:List UInt8} {n:Nat} (h5:l.length≤5) (h:Lt.parse l=some n):n<1048576:=by
 unfold Lt.parse at h
 split at h
 ·cases h
 ·have h1:=Lt.val_le l 0 n h
  have h2:16^l.length≤16^5:=Nat.pow_le_pow_right (by decide) h5
  omega
def FirstSaid (c:UInt8) (r:List UInt8) (e:Ending):Prop:=∃ v k:Nat,e=.returned (.tuple #[.int .i64 (v:Nat),.int .i64 (k:Nat)])∧0<k∧k≤r.length+1∧Lt.one (c::r)=(v,(c::r).drop k)
theorem kfirst7 (s:ByteArray) (c:UInt8) (r:List UInt8) (hl:s.data.toList=c::r) (w:World) (hs:s.size≤100000000) (hG:Gl w):
  Calls Tryz.prog 204 #[.string s] w fun e w'=>FirstSaid c r e∧Below w.heap.size w w':=by
 have HD:=Lib.hid (kdigits7 s c r hl w hs hG)
 have HGl:=Lib.hid hG
 have hlen:s.size=r.length+1:=by rw[←Lt.len_bytes,hl];rfl
 have hs0:0<s.size:=by omega
 have hc0:s[0]=c:=by
  have:=Lt.drop_at s hs0
  rw[List.drop_zero,hl] at this
  injection this with this _
  exact this.symm
 obtain⟨Post,hPost⟩:∃ Post:Ending→World→Prop,Post=fun e w'=>FirstSaid c r e∧Below w.heap.size w w':=⟨_,rfl⟩
 rw[←hPost]
 have HPlain:Hid (Lt.one (c::r)=(c.toNat,r)→∀ w',Below w.heap.size w w'→Post (.returned (.tuple #[.int .i64 (s[0].toNat:Nat),.int .i64 1])) w'):=fun h w' hb=>by
  rw[hPost,hc0]
  exact⟨⟨c.toNat,1,rfl,by decide,by omega,h⟩,hb⟩
 have HOk:Hid (∀ v k:Nat,0<k→k≤r.length+1→Lt.one (c::r)=(v,(c::r).drop k)→∀ w',Below w.heap.size w w'→Post (.returned (.tuple #[.int .i64 (v:Nat),.int .i64 (k:Nat)])) w'):=fun v k h1 h2 h3 w' hb=>by
  rw[hPost]
  exact⟨⟨v,k,rfl,h1,h2,h3⟩,hb⟩
 have hwr:wrap64 (s[0].toNat:Int)=(s[0].toNat:Int):=by
  have:=s[0].toNat_lt
  unfold wrap64
  omega
 have hs0':(0:Int)<(s.size:Int):=by omega
 clear hPost hG hl hc0
 go_enter Tryz.func204,Tryz.ntmps204
 go_wp2_with fail
 refine HD.out.mono ?_
 rintro e w1 ⟨⟨T,k,rfl,hd⟩,hb⟩
 rcases hd with⟨rfl,ho⟩|⟨hk0,hkl,hT,ho⟩
 ·have HR:=Lib.hid (HPlain.out ho w1 hb)
  clear ho hb HD HGl HPlain HOk hlen
  go_wp2
  all_goals
   first|exact HR.out|(rw[hwr];exact HR.out)|exact bodyPost_ret (by simp[results,Tryz.results204,go_sem]) rfl HR.out|(rw[hwr];exact bodyPost_ret (by simp[results,Tryz.results204,go_sem]) rfl HR.out)
 ·rw[Lt.len_bytes] at hT
  have HP:=Lib.hid (kParseUint7 T w1 hT (HGl.out.below hb))
  have hk0':(0:Int)<(k:Int):=by omega
  have HO:=Lib.hid ho
  have HB:=Lib.hid hb
  have HT:Hid (T.data.toList.length≤5):=by
   show _≤_
   rw[Lt.len_bytes]
   exact hT
  clear ho hb HD HGl hlen hT
  go_wp2_with fail
  refine HP.out.mono ?_
  rintro e w2 ⟨⟨n,v,rfl,hv⟩,hb2⟩
  have HB2:=Lib.hid (HB.out.trans (hb2.mono HB.out.size))
  rcases hv with⟨rfl,hp⟩|⟨⟨t,x,rfl⟩,hp,rfl⟩
  ·have hn:n<1048576:=Lt.parse_lt HT.out hp
   have HPt:=Lib.hid (kpoint7 n w2)
   by_cases hle:n≤196607
   ·have hpt:Lt.pt (n:Int)=true:=decide_eq_true ⟨by omega,by omega⟩
    rw[hpt] at HPt
    have HR:=Lib.hid (HOk.out n k hk0 hkl (by rw[HO.out,Lt.num_parse,hp,Option.bind_some,if_pos hle];rfl) w2 HB2.out)
    have hn':(n:Int)<1048576:=by omega
    clear hp hpt hle hkl hk0 HP HPlain HOk hb2 hn
    go_wp2_with (go_at_call 203;refine HPt.out.mono ?_;rintro e w3 ⟨rfl,rfl⟩)
    first|exact HR.out|exact bodyPost_ret (by simp[results,Tryz.results204,go_sem]) rfl HR.out
   ·have hpt:Lt.pt (n:Int)=false:=decide_eq_false (by omega)
    rw[hpt] at HPt
    have HR:=Lib.hid (HPlain.out (by rw[HO.out,Lt.num_parse,hp,Option.bind_some,if_neg hle];rfl) w2 HB2.out)
    have hn':(n:Int)<1048576:=by omega
    clear hp hpt hle hkl hk0 HP HPlain HOk hb2 hn
    go_wp2_with (go_at_call 203;refine HPt.out.mono ?_;rintro e w3 ⟨rfl,rfl⟩)
    all_goals
     first|exact HR.out|(rw[hwr];exact HR.out)|exact bodyPost_ret (by simp[results,Tryz.results204,go_sem]) rfl HR.out|(rw[hwr];exact bodyPost_ret (by simp[results,Tryz.results204,go_sem]) rfl HR.out)
  ·have HR:=Lib.hid (HPlain.out (by rw[HO.out,Lt.num_parse,hp];rfl) w2 HB2.out)
   clear hp hkl hk0 HP HPlain HOk hb2
   go_wp2
   all_goals
    first|exact HR.out|(rw[hwr];exact HR.out)|exact bodyPost_ret (by simp[results,Tryz.results204,go_sem]) rfl HR.out|(rw[hwr];exact bodyPost_ret (by simp[results,Tryz.results204,go_sem]) rfl HR.out)
def strLen:Value→Nat
 | .string T=>T.size
 |_=>0
theorem laid_mem {P:Program} {x:String×DataW Unit}:∀ {l:List (String×DataW Unit)} {W:World},laidMet P l W→x∈l→∃ r,laidMet P (x::r) W
 |[],_,_,h=>absurd h List.not_mem_nil
 |y::l,W,h,hx=>by
  rcases List.mem_cons.1 hx with rfl|hx
  ·exact⟨l,h⟩
  ·exact laid_mem h.tail hx
theorem star_err: "*"++ "errors.errorString"= "*errors.errorString":=by decide
theorem row_errStr (u:TypeId) (h:Tryz.prog.typeName? 3 u=some "*errors.errorString"):u=309:=
 typeName_ptr_named (nm:= "errors.errorString") (by rw[star_err];kernel_rfl) (by kernel_rfl) (by decide) u (by rw[star_err];exact h)
theorem Gl.of_laid {l:List (String×DataW Unit)} {W:World} (h:laidMet Tryz.prog l W) (h1:("strconv.ErrSyntax",Rows.laid_strconv_ErrSyntax)∈l) (h2:("math/bits.deBruijn64tab",Rows.laid_math_bits_deBruijn64tab)∈l)
  (hm:∃ m,W.cell? ⟨1,0,none⟩=some (.int .i64 m)):Gl W:=by
 obtain⟨r1,k1⟩:=laid_mem h h1
 obtain⟨r2,k2⟩:=laid_mem h h2
 refine⟨?_,?_,hm⟩
 ·obtain⟨a,s,hv,_⟩:=laid_sentinel (P:=Tryz.prog) (g:=4) (ti:=151) (tp:=309) (te:=311) (ts:=9) k1 (by kernel_rfl) (by kernel_rfl) Tryz.underlying151 row_errStr Tryz.underlying309 Tryz.underlying311 rfl rfl Tryz.underlying9 (by kernel_rfl) (by kernel_rfl)
  exact⟨_,World.var?_cell (by kernel_rfl) hv 0,.inr ⟨_,_,rfl⟩⟩
 ·have k:=Lib.tabIs_of_head (P:=Tryz.prog) (g:=8) (t:=315) (e:=5) (n:=64) (k:=.u8) (by kernel_rfl) (by kernel_rfl) (by kernel_rfl) Tryz.underlying5 (by kernel_rfl) (by kernel_rfl) (show laidMet Tryz.prog (("math/bits.deBruijn64tab",Lib.tabData .u8 [0,1,56,2,57,49,28,3,61,58,42,50,38,29,17,4,62,47,59,36,45,43,51,22,53,39,33,30,24,18,12,5,63,55,48,27,60,41,37,16,46,35,44,21,52,32,23,11,54,26,40,15,34,20,31,10,25,14,19,9,13,8,7,6])::r2) W from k2)
  exact k.cell (by kernel_rfl) 15 (by decide)
end Go.Proofs.YtcgaeknikfaghaaGreatDoor
