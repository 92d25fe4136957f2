import Derived.WalkArith
import Derived.Laws.AppendOwn
import Derived.OwnWalk
import Derived.Laws.Strings
import Derived.Tactics
import Derived.IntWalk
import Derived.Laws.World
import Derived.Lib.ItoaLen
import Derived.Maps.Own
import Derived.Maps.Views
import Derived.StringKeys
import Derived.WalkKit
import Derived.Below
import Derived.Laws.Rows
import Derived.Maps.AppendAt
import Derived.Maps.OwnSet
import Derived.Lib.SliceRun
import Derived.Lib.Hide
import Derived.Deep.Draws
import Derived.Laws.AppendOwnNone
import Derived.Deep.RegionLaw
import Derived.Test.YtdbgiijdgedggaaGreatDoorRows
import Derived.Deep.Slices
import Derived.Deep.Fields
import Derived.ChangeSame
import Derived.ProofKit
import Derived.OpenShut
import Derived.Laws.OwnMore
import Derived.Deep.QuietTactic
import Derived.WalkSpells
import Derived.WalkLawsBesides
import Derived.KernelRfl
import Derived.BigQuiet
import Derived.Laws.StructEq
import Derived.OrdersIn
import Derived.RangeFuncCalls
import Derived.StillTail
import Derived.TacticsIn
set_option linter.unusedSimpArgs false
set_option linter.unusedVariables false
set_option maxRecDepth 100000
set_option maxHeartbeats 25600000
namespace Go.Proofs.YtdbgiijdgedggaaGreatDoor
open Go.RowKit
theorem Ff:type_of% @WalkArith.wf_i64:=@WalkArith.wf_i64
theorem Fg:type_of% @List.getElem?_eq_some_iff:=@List.getElem?_eq_some_iff
theorem Fh:type_of% @List.take_succ_eq_append_getElem:=@List.take_succ_eq_append_getElem
theorem Fi:type_of% @List.length_map:=@List.length_map
theorem Fj:type_of% @List.getElem?_map:=@List.getElem?_map
theorem Fk:type_of% @Option.some.inj:=@Option.some.inj
theorem Fl:type_of% @Array.getElem?_eq_some_iff:=@Array.getElem?_eq_some_iff
theorem Fm:type_of% @Nat.le_refl:=@Nat.le_refl
theorem Fo:type_of% @Nat.le_trans:=@Nat.le_trans
theorem Fp:type_of% @Nat.lt_of_lt_of_le:=@Nat.lt_of_lt_of_le
theorem Fq:type_of% @Below.heap_alloc:=@Below.heap_alloc
theorem Fs:type_of% @Below.heap_setCell:=@Below.heap_setCell
theorem Fu:type_of% @World.cell?_of_block:=@World.cell?_of_block
theorem Fv:type_of% @Array.length_toList:=@Array.length_toList
theorem Fw:type_of% @wpList_append_own_at:=@wpList_append_own_at
theorem Fx:type_of% @if_pos:=@if_pos
theorem Fy:type_of% @run_append_own_at:=@run_append_own_at
theorem Fz:type_of% @Nat.zero_le:=@Nat.zero_le
theorem FA:type_of% @Nat.zero_add:=@Nat.zero_add
theorem FC:type_of% @List.drop_eq_getElem_cons:=@List.drop_eq_getElem_cons
theorem FD:type_of% @List.not_mem_nil:=@List.not_mem_nil
theorem FE:type_of% @List.mem_cons:=@List.mem_cons
theorem FF:type_of% @Nat.mul_le_mul_right:=@Nat.mul_le_mul_right
theorem FG:type_of% @List.length_cons:=@List.length_cons
theorem FH:type_of% @Nat.pow_succ:=@Nat.pow_succ
theorem FI:type_of% @Nat.mul_comm:=@Nat.mul_comm
theorem FJ:type_of% @Nat.mul_assoc:=@Nat.mul_assoc
theorem FK:type_of% @List.length_take:=@List.length_take
theorem FM:type_of% @List.take_append_drop:=@List.take_append_drop
theorem FN:type_of% @List.take_left:=@List.take_left
theorem FO:type_of% @List.getElem?_append_left:=@List.getElem?_append_left
theorem FP:type_of% @List.mem_of_getElem?:=@List.mem_of_getElem?
theorem FQ:type_of% @if_neg:=@if_neg
theorem FR:type_of% @List.length_pos_iff:=@List.length_pos_iff
theorem FT:type_of% @Option.map_eq_some_iff:=@Option.map_eq_some_iff
theorem FU:type_of% @List.length_drop:=@List.length_drop
theorem FV:type_of% @List.eq_nil_of_length_eq_zero:=@List.eq_nil_of_length_eq_zero
theorem FW:type_of% @decide_eq_true:=@decide_eq_true
theorem FX:type_of% @of_decide_eq_true:=@of_decide_eq_true
theorem FY:type_of% @List.nil_append:=@List.nil_append
theorem FZ:type_of% @List.cons_append:=@List.cons_append
theorem F0:type_of% @List.mem_singleton:=@List.mem_singleton
theorem F3:type_of% @List.append_assoc:=@List.append_assoc
theorem F7:type_of% @List.mem_append:=@List.mem_append
theorem F9:type_of% @List.mem_append_left:=@List.mem_append_left
theorem Ga:type_of% @List.getElem?_append_right:=@List.getElem?_append_right
theorem Gb:type_of% @List.length_append:=@List.length_append
theorem Gc:type_of% @List.mem_cons_self:=@List.mem_cons_self
theorem Gd:type_of% @List.mem_cons_of_mem:=@List.mem_cons_of_mem
theorem Ge:type_of% @List.getElem?_eq_getElem:=@List.getElem?_eq_getElem
theorem Gf:type_of% @List.getElem_mem:=@List.getElem_mem
theorem Gg:type_of% @World.ownsRow_nil:=@World.ownsRow_nil
theorem Gh:type_of% @World.ownsRow.lt:=@World.ownsRow.lt
theorem Gi:type_of% @World.ownsRow.cells:=@World.ownsRow.cells
theorem Gj:type_of% @info_parts:=@info_parts
theorem Gk:type_of% @World.ownsRow.alloc:=@World.ownsRow.alloc
theorem Gm:type_of% @cell_one_new:=@cell_one_new
theorem Gn:type_of% @Lib.hid:=@Lib.hid
theorem Gp:type_of% @Below.refl:=@Below.refl
theorem Gq:type_of% @decide_eq_false:=@decide_eq_false
theorem Gr:type_of% @List.take_of_length_le:=@List.take_of_length_le
theorem Gt:type_of% @List.all_eq_true:=@List.all_eq_true
theorem Gu:type_of% @List.mem_range:=@List.mem_range
theorem Gv:type_of% @Nat.not_lt_zero:=@Nat.not_lt_zero
theorem Gw:type_of% @beq_iff_eq:=@beq_iff_eq
theorem Gx:type_of% @beq_eq_false_iff_ne:=@beq_eq_false_iff_ne
theorem Gy:type_of% @Nat.pow_le_pow_right:=@Nat.pow_le_pow_right
theorem Gz:type_of% @List.drop_of_length_le:=@List.drop_of_length_le
theorem GA:type_of% @ByteArray.toList_eq:=@ByteArray.toList_eq
theorem GB:type_of% @List.getElem?_eq_none:=@List.getElem?_eq_none
theorem GD:type_of% @bodyPost_ret:=@bodyPost_ret
theorem GF:type_of% @List.drop_drop:=@List.drop_drop
theorem GG:type_of% @List.take_succ_cons:=@List.take_succ_cons
theorem GH:type_of% @List.append_nil:=@List.append_nil
theorem GI:type_of% @List.flatMap_cons:=@List.flatMap_cons
theorem GJ:type_of% @List.mem_flatMap:=@List.mem_flatMap
theorem GK:type_of% @List.map_cons:=@List.map_cons
theorem GL:type_of% @List.map_nil:=@List.map_nil
theorem GM:type_of% @List.getLast?_concat:=@List.getLast?_concat
theorem GN:type_of% @List.mem_of_mem_take:=@List.mem_of_mem_take
theorem GQ:type_of% @List.getElem?_take:=@List.getElem?_take
theorem GR:type_of% @IntWalk.i64_in:=@IntWalk.i64_in
theorem GU:type_of% @Bool.eq_false_iff:=@Bool.eq_false_iff
theorem GV:type_of% @List.getElem_of_mem:=@List.getElem_of_mem
theorem GX:type_of% @Nat.lt_or_ge:=@Nat.lt_or_ge
theorem GY:type_of% @Bool.and_eq_true:=@Bool.and_eq_true
theorem GZ:type_of% @Option.map_some:=@Option.map_some
theorem G0:type_of% @Option.getD_some:=@Option.getD_some
theorem G1:type_of% @congrArg:=@congrArg
theorem G3:type_of% @List.getD_eq_getElem?_getD:=@List.getD_eq_getElem?_getD
theorem G4:type_of% @Nat.mul_add:=@Nat.mul_add
theorem G5:type_of% @Nat.mul_le_mul_left:=@Nat.mul_le_mul_left
theorem G6:type_of% @Nat.min_eq_left:=@Nat.min_eq_left
theorem G8:type_of% @List.take_zero:=@List.take_zero
theorem G9:type_of% @Nat.mod_eq_of_lt:=@Nat.mod_eq_of_lt
theorem Ha:type_of% @Nat.add_sub_cancel:=@Nat.add_sub_cancel
theorem Hb:type_of% @List.ext_getElem:=@List.ext_getElem
theorem Hc:type_of% @List.getElem_drop:=@List.getElem_drop
theorem He:type_of% @List.length_nil:=@List.length_nil
theorem Hf:type_of% @List.map_append:=@List.map_append
theorem Hg:type_of% @List.mem_reverse:=@List.mem_reverse
theorem Hh:type_of% @List.mem_map:=@List.mem_map
theorem Hj:type_of% @Nat.add_mul:=@Nat.add_mul
theorem Hk:type_of% @Nat.one_mul:=@Nat.one_mul
theorem Hl:type_of% @Nat.pow_le_pow_left:=@Nat.pow_le_pow_left
theorem Hn:type_of% @Nat.eq_zero_or_pos:=@Nat.eq_zero_or_pos
theorem Ho:type_of% @Nat.add_zero:=@Nat.add_zero
theorem Hp:type_of% @Nat.mul_one:=@Nat.mul_one
theorem Hq:type_of% @Nat.pow_add:=@Nat.pow_add
theorem Hr:type_of% @decide_eq_false_iff_not:=@decide_eq_false_iff_not
theorem Hs:type_of% @Array.getElem?_toList:=@Array.getElem?_toList
theorem Ht:type_of% @Nat.mul_le_mul:=@Nat.mul_le_mul
theorem Hu:type_of% @decide_eq_true_eq:=@decide_eq_true_eq
theorem Hv:type_of% @wpList_append_own_none:=@wpList_append_own_none
theorem Hw:type_of% @List.drop_zero:=@List.drop_zero
theorem Hx:type_of% @Nat.zero_mul:=@Nat.zero_mul
theorem Hy:type_of% @if_true:=@if_true
theorem Hz:type_of% @World.cell?_setCell_other:=@World.cell?_setCell_other
theorem H8:type_of% @Nat.pos_of_ne_zero:=@Nat.pos_of_ne_zero
theorem H9:type_of% @World.size_alloc:=@World.size_alloc
theorem Ia:type_of% @Bool.eq_iff_iff:=@Bool.eq_iff_iff
theorem Ib:type_of% @List.take_length:=@List.take_length
theorem Ic:type_of% @List.getElem?_of_mem:=@List.getElem?_of_mem
theorem Ie:type_of% @Nat.add_assoc:=@Nat.add_assoc
theorem Ig:type_of% @And.intro:=@And.intro
theorem Ih:type_of% @Int.toNat_natCast:=@Int.toNat_natCast
theorem Ii:type_of% @Bool.false_or:=@Bool.false_or
theorem Ij:type_of% @IntWalk.wrap64_in:=@IntWalk.wrap64_in
theorem Ik:type_of% @List.prefix_refl:=@List.prefix_refl
theorem Il:type_of% @List.any_eq_true:=@List.any_eq_true
theorem Im:type_of% @List.length_singleton:=@List.length_singleton
theorem Io:type_of% @List.mem_filter:=@List.mem_filter
theorem Ip:type_of% @List.cons.inj:=@List.cons.inj
theorem Iq:type_of% @Lib.itoa_length_le:=@Lib.itoa_length_le
theorem Ir:type_of% @List.mem_map_of_mem:=@List.mem_map_of_mem
theorem Iu:type_of% @plainElem_int:=@plainElem_int
theorem Iv:type_of% @Maps.has_put_other:=@Maps.has_put_other
theorem Iw:type_of% @wpList_mapUpdate_own:=@wpList_mapUpdate_own
theorem Iy:type_of% @Nat.le_succ_of_le:=@Nat.le_succ_of_le
theorem Iz:type_of% @Nat.le_succ:=@Nat.le_succ
theorem IA:type_of% @Nat.add_le_add:=@Nat.add_le_add
theorem IB:type_of% @Nat.le_of_ble_eq_true:=@Nat.le_of_ble_eq_true
theorem IC:type_of% @List.filter_cons_of_neg:=@List.filter_cons_of_neg
theorem ID:type_of% @List.filter_cons_of_pos:=@List.filter_cons_of_pos
theorem IE:type_of% @World.block_lt_of_cell?:=@World.block_lt_of_cell?
theorem IG:type_of% @WideMaps.keyOf_string_mk:=@WideMaps.keyOf_string_mk
theorem IH:type_of% @List.flatMap_append:=@List.flatMap_append
theorem II:type_of% @Nat.add_sub_cancel_left:=@Nat.add_sub_cancel_left
theorem IJ:type_of% @List.length_eq_zero_iff:=@List.length_eq_zero_iff
theorem IK:type_of% @List.dropLast_concat_getLast:=@List.dropLast_concat_getLast
end Go.Proofs.YtdbgiijdgedggaaGreatDoor
namespace Go.Proofs.YtdbgiijdgedggaaGreatDoor
open Go.RowKit
instance DD:LawfulBEq ByteArray where
 eq_of_beq:=by
  intro a b h
  have h':(a.data == b.data)=true:=h
  have:=eq_of_beq h'
  cases a
  cases b
  simp_all
 rfl:=by
  intro a
  show(a.data == a.data)=true
  simp
theorem om {n:Nat} (h:n<=1000000):(Lit.int .i64 (n:Int)).wf=true:=Ff (by omega)
theorem eM {a b:Int} (h:(DataW.lit (.int .i64 a):DataW Unit)=.lit (.int .i64 b)):a=b:=by simpa using h
abbrev cH (l:List Int):List Value:=l.map fun x=> .int .i64 x
theorem take_one {α:Type} {l:List α} {i:Nat} {x:α} (h:l[i]?=some x):l.take (i+1)=l.take i++[x]:=by
 obtain⟨hi,e⟩:=Fg.1 h
 rw[Fh hi,e]
theorem nD {α:Type} {f:Nat->α} {n i:Nat} {o:α} (h:((List.range n).map f)[i]?=some o):i<n/\o=f i:=by
 have hl:=(Fg.1 h).1
 rw[Fi,List.length_range] at hl
 rw[Fj,List.getElem?_range hl] at h
 exact⟨hl,(Fk h).symm⟩
theorem addr_add (b off i:Nat):(⟨b,off,none⟩:Addr).add i=⟨b,off+i,none⟩:=by unfold Addr.add;split <;> simp_all
def aa (w:World) (g:Nat) (t:TypeId) (cs:Array Value):Prop:=w.heap[g]?=some (.cells cs t (0,0))
theorem aa.lt {w:World} {g:Nat} {t:TypeId} {cs:Array Value} (h:aa w g t cs):g<w.heap.size:=(Fl.1 h).1
theorem aa.cell {w:World} {g:Nat} {t:TypeId} {cs:Array Value} (h:aa w g t cs) (i:Nat):w.cell? ⟨g,i,none⟩=cs[i]?:=cell_of_row w g i cs t (0,0) h
theorem aa.free {w:World} {g:Nat} {t:TypeId} {cs:Array Value} (h:aa w g t cs) (i:Nat):w.frozen? ⟨g,i,none⟩=false:=by
 have r:w.heap[g]?=some (.cells cs t (0,0)):=h
 simp[World.frozen?,r]
theorem aa.new (w:World) (t:TypeId) (cs:Array Value):aa (w.alloc (.cells cs t)) w.heap.size t cs:=heap_alloc_new w _
theorem aa.put {w:World} {g:Nat} {t:TypeId} {cs:Array Value} (h:aa w g t cs) (i:Nat) (u:Value):aa (w.setCell ⟨g,i,none⟩ u) g t (cs.setIfInBounds i u):=by
 have r:w.heap[g]?=some (.cells cs t (0,0)):=h
 show(w.setCell ⟨g,i,none⟩ u).heap[g]?=_
 simp[World.setCell,Array.getElem?_modify,r]
structure ae (F:Nat->Prop) (w w':World):Prop where
 os:w'.os=w.os
 tape:w'.tape=w.tape
 output:w'.output=w.output
 size:w.heap.size<=w'.heap.size
 block:∀ k,k<w.heap.size->¬F k->w'.heap[k]?=w.heap[k]?
section
variable {F G : Nat -> Prop} {a b c w w' : World}
theorem ae.refl (F:Nat->Prop) (w:World):ae F w w:=⟨rfl,rfl,rfl,Fm _,fun _ _ _=>rfl⟩
theorem ae.trans (h:ae F a b) (k:ae G b c) (r:∀ i,G i->F i\/a.heap.size<=i):ae F a c:=
 ⟨k.os.trans h.os,k.tape.trans h.tape,k.output.trans h.output,Fo h.size k.size,fun i hi hn=>
  (k.block i (Fp hi h.size) (fun g=>(r i g).elim hn (fun e=>absurd hi (Nat.not_lt.2 e)))).trans (h.block i hi hn)⟩
theorem ae.mono (h:ae F a b) (hF:∀ i,i<a.heap.size->F i->G i):ae G a b:=⟨h.os,h.tape,h.output,h.size,fun i hi hn=>h.block i hi (fun f=>hn (hF i hi f))⟩
theorem ae.af (h:Below w.heap.size w w'):ae F w w':=⟨h.os,h.tape,h.output,h.size,fun i hi _=>h.block i hi⟩
theorem ae.aB {row:Option Nat} (h:w.grownBy w' row) (r:∀ g,row=some g->g<w.heap.size->F g):ae F w w':=
 ⟨h.os,h.tape,h.output,h.size,fun i hi hn=>h.block i hi (fun e=>hn (r i e.symm hi))⟩
theorem ae.drew (h:ae F a w):ae F a w.drew:=⟨h.os,h.tape,h.output,h.size,h.block⟩
theorem ae.drewN (h:ae F a w) (n:Nat):ae F a (w.drewN n):=⟨h.os,h.tape,h.output,h.size,h.block⟩
theorem ae.alloc (h:ae F a w) (o:Obj):ae F a (w.alloc o):=
 h.trans (G:=fun _=>False) ⟨rfl,rfl,rfl,by simp,fun i hi _=>Fq w o i hi⟩ (fun _ e=>e.elim)
theorem ae.put (h:ae F a w) {p:Addr} (hp:F p.block\/a.heap.size<=p.block) (u:Value):ae F a (w.setCell p u):=
 h.trans (G:=fun i=>i=p.block) ⟨rfl,rfl,rfl,by simp[World.setCell],fun i _ hn=>Fs w p u i hn⟩ (fun _ e=>e▸hp)
theorem ae.step (h:ae F a w) (k:Below w.heap.size w w'):ae F a w':=h.trans (G:=fun _=>False) (ae.af k) (fun _ e=>e.elim)
theorem ae.below {B:Nat} (h:ae F w w') (r:B<=w.heap.size) (hF:∀ i,F i->B<=i):Below B w w':=
 ⟨h.os,h.tape,h.output,h.size,fun i hi=>h.block i (Fp hi r) (fun f=>absurd hi (Nat.not_lt.2 (hF i f)))⟩
theorem ae.none_ (h:ae F w w') (hF:∀ i,¬F i):Below w.heap.size w w':=⟨h.os,h.tape,h.output,h.size,fun i hi=>h.block i hi (hF i)⟩
theorem ae.lies {g:Nat} {t:TypeId} {cs:Array Value} (h:ae F w w') (hl:aa w g t cs) (r:¬F g):aa w' g t cs:=(h.block g hl.lt r).trans hl
theorem ae.cell {p:Addr} (h:ae F w w') (hp:p.block<w.heap.size) (hF:¬F p.block):w'.cell? p=w.cell? p:=Fu (w:=w) (h.block p.block hp hF)
theorem ae.own {base:Nat} {e:TypeId} {size n:Nat} {v:Value} {xs:List Value} (h:ae F w w') (I:w.ownsRow base e size v n xs) (hv:∀ g,v.ownBlock=some g->¬F g):w'.ownsRow base e size v n xs:=by
 refine⟨I.1,?_⟩
 rcases I.2 with hn|⟨g,cap,cur,rfl,hb,r,rest⟩
 ·exact .inl hn
 ·exact .inr ⟨g,cap,cur,rfl,hb,(h.block g (Fl.1 r).1 (hv g rfl)).trans r,rest⟩
theorem ae.map {H:Type} {P:Program} {k:TypeId} {R:Value->Option (DataW H×List MemPlace)} {b n:Nat} {D:DataW H} (h:ae F w w') (J:w.ownsMap P k R b n D) (hb:¬F b):w'.ownsMap P k R b n D:=by
 have I:=J.lt
 obtain⟨es,clock,e,r⟩:=J
 exact⟨es,clock,(h.block b I hb).trans e,r⟩
end
theorem ji {w:World} {base:Nat} {e:TypeId} {size n:Nat} {v:Value} {xs:List Value} (h:w.ownsRow base e size v n xs) {g:Nat} (r:v.ownBlock=some g):∃ cs,aa w g e cs:=by
 rcases h.2 with⟨rfl,_⟩|⟨I,cap,cur,rfl,_,J,_⟩
 ·cases r
 ·have:I=g:=by simpa [Value.ownBlock] using r
  subst this
  exact⟨cur,J⟩
theorem aT {w:World} {base:Nat} {e t:TypeId} {size n g:Nat} {v:Value} {xs:List Value} {cs:Array Value} (h:w.ownsRow base e size v n xs) (hl:aa w g t cs) (r:e≠t):v.ownBlock≠some g:=by
 intro L
 obtain⟨cs',I⟩:=ji h L
 have:=Fk (I.symm.trans hl)
 injection this with _ J
 exact r J
theorem eh {w:World} {base r:Nat} {e Q:TypeId} {size I n n':Nat} {v v':Value} {xs O:List Value} (h:w.ownsRow base e size v n xs) (U:w.ownsRow r Q I v' n' O) (L:e≠Q):∀ g,v.ownBlock=some g->v'.ownBlock≠some g:=by
 intro g V J
 obtain⟨cs',q⟩:=ji U J
 exact aT h q L V
theorem dW {H:Type} {P:Program} {k:TypeId} {R:Value->Option (DataW H×List MemPlace)} {b m:Nat} {D:DataW H} {w:World} {base:Nat} {e:TypeId} {size n:Nat} {v:Value} {xs:List Value} (h:w.ownsRow base e size v n xs) (L:w.ownsMap P k R b m D):v.ownBlock≠some b:=by
 intro J
 obtain⟨cs',I⟩:=ji h J
 obtain⟨es,clock,e,_⟩:=L
 have r:w.heap[b]?=some (.cells cs' _ (0,0)):=I
 rw[e] at r
 cases r
theorem ed {H:Type} {P:Program} {k:TypeId} {R:Value->Option (DataW H×List MemPlace)} {b m g:Nat} {D:DataW H} {w:World} {t:TypeId} {cs:Array Value} (h:aa w g t cs) (I:w.ownsMap P k R b m D):g≠b:=by
 rintro rfl
 obtain⟨es,clock,e,_⟩:=I
 have r:w.heap[g]?=some (.cells cs _ (0,0)):=h
 rw[e] at r
 cases r
theorem me {H:Type} {P:Program} {k:TypeId} {R:Value->Option (DataW H×List MemPlace)} {b n m:Nat} {D:DataW H} {w:World} (h:w.ownsMap P k R b n D) (hm:Maps.size D<=m):w.ownsMap P k R b m D:=by
 obtain⟨es,clock,e,F,_,rfl⟩:=h
 refine⟨es,clock,e,F,?_,rfl⟩
 rw[Maps.size_eq,length_sorted,Fi,Fv] at hm
 exact hm
theorem aI {w:World} {base:Nat} {e:TypeId} {size n:Nat} {v:Value} {xs:List Value} (h:w.ownsRow base e size v n xs):∃ A c,v=.slice A n c:=by
 rcases h.2 with⟨rfl,rfl⟩|⟨g,cap,cur,rfl,_⟩
 ·exact⟨none,0,rfl⟩
 ·exact⟨_,_,rfl⟩
theorem cZ {P:Program} (w:World) {ops:Array Oper} {rest:List Oper} {o:Oper} {a:Act} {Q:Exit->Act->World->Prop} (ah:o.guard=none) (s x:Operand) (t:TypeId)
  (ho:o.op=.call { callee:=.builtin .append,args:=#[s,x],argTypes:=#[t,t] })
  (base:Nat) (e:TypeId) (i:TypeInfo) (z:Value) (bytes:Nat) (ht:P.underlying t=some (.slice e)) (hi:P.info? e=some i) (hz:i.zero=some z)
  (L:i.size=1) (Z:i.bytes=bytes) (ao:z.cells.size=1)
  (v:Value) (n:Nat) (xs:List Value) (hs:a.eval s=v) (U:w.ownsRow base e 1 v n xs)
  (V:Addr) (m c:Nat) (news:List Value) (hx:a.eval x=.slice (some V) m c) (hl:news.length=m*1) (J:∀ j u,news[j]?=some u->w.cell? (V.add j)=some u) (h1:∀ u∈news,u.oneCell'=true)
  (X:n+m<=maxLen) (r:(n+m)*bytes<=140737488355328) (I:base<=w.heap.size)
  (h:∀ A' O w',w'.ownsRow base e 1 (.slice A' (n+m) O) (n+m) (xs++news)->w.grownBy w' v.ownBlock->((Value.slice A' (n+m) O).ownBlock=v.ownBlock\/(Value.slice A' (n+m) O).ownBlock=some w.heap.size)->wpList P ops Q rest (a.put o.dst (.slice A' (n+m) O)) w'):
  wpList P ops Q (o::rest) a w:=
 Fw w ah s x t ho base e i z 1 bytes ht hi hz L Z ao (by decide) v n xs hs U V m c news hx hl J h1 X r I fun v' w' q1 q2 _ q4=>by
  obtain⟨A',O,rfl⟩:=aI q1
  exact h A' O w' q1 q2 q4
theorem aZ {P:Program} {w:World} {ops:Array Oper} {o:Oper} {a:Act} {K:Act->World->Prop} {Q:Exit->Act->World->Prop} {E:Prop} (ah:o.guard=none) (s x:Operand) (t:TypeId)
  (ho:o.op=.call { callee:=.builtin .append,args:=#[s,x],argTypes:=#[t,t] })
  (base:Nat) (e:TypeId) (i:TypeInfo) (z:Value) (bytes:Nat) (ht:P.underlying t=some (.slice e)) (hi:P.info? e=some i) (hz:i.zero=some z)
  (L:i.size=1) (Z:i.bytes=bytes) (ao:z.cells.size=1)
  (v:Value) (n:Nat) (xs:List Value) (hs:a.eval s=v) (U:w.ownsRow base e 1 v n xs)
  (V:Addr) (m c:Nat) (news:List Value) (hx:a.eval x=.slice (some V) m c) (hl:news.length=m*1) (J:∀ j u,news[j]?=some u->w.cell? (V.add j)=some u) (h1:∀ u∈news,u.oneCell'=true)
  (X:n+m<=maxLen) (r:(n+m)*bytes<=140737488355328) (I:base<=w.heap.size)
  (h:∀ A' O w',w'.ownsRow base e 1 (.slice A' (n+m) O) (n+m) (xs++news)->w.grownBy w' v.ownBlock->((Value.slice A' (n+m) O).ownBlock=v.ownBlock\/(Value.slice A' (n+m) O).ownBlock=some w.heap.size)->K (a.put o.dst (.slice A' (n+m) O)) w'):
  if Region.wanted o (yielded ops a.tmps)=true then Oper.wp P o a w K Q else E:=by
 have hw:Region.wanted o (yielded ops a.tmps)=true:=by simp[Region.wanted,ah]
 rw[Fx hw]
 obtain⟨v',w',hr,q1,q2,_,q4⟩:=Fy (P:=P) w base t o.type e i z 1 bytes ht hi hz L Z ao (by decide) v n xs U V m c news hl J h1 X r I
 obtain⟨A',O,rfl⟩:=aI q1
 unfold Oper.wp
 simp[execOp,ho,resolve,invoke,builtin,hs,hx,hr,Result.andThen]
 exact h A' O w' q1 q2 q4
structure Rd (w:World) (G:Nat->Prop) (A:Option Addr) (n c:Nat) (xs:List Value):Prop where
 len:xs.length=n
 nil:A=none->n=0/\c=0
 le:n<=c
 cm:c<=maxLen
 at_:0<n->∃ b off,A=some ⟨b,off,none⟩/\G b/\b<w.heap.size/\∀ j u,xs[j]?=some u->w.cell? ⟨b,off+j,none⟩=some u
theorem Rd.dI (w:World) (G:Nat->Prop):Rd w G none 0 0 []:=⟨rfl,fun _=>⟨rfl,rfl⟩,Fm _,Fz _,fun h=>absurd h (by omega)⟩
theorem Rd.turn {w w':World} {F G:Nat->Prop} {A:Option Addr} {n c:Nat} {xs:List Value} (h:Rd w G A n c xs) (ht:ae F w w') (I:∀ b,b<w.heap.size->G b->¬F b):Rd w' G A n c xs:=
 ⟨h.len,h.nil,h.le,h.cm,fun hn=>by
  obtain⟨b,off,e,r,hb,hc⟩:=h.at_ hn
  exact⟨b,off,e,r,Fp hb ht.size,fun j u hu=>(ht.cell (p:=⟨b,off+j,none⟩) hb (I b hb r)).trans (hc j u hu)⟩⟩
theorem Rd.below {w w':World} {G:Nat->Prop} {A:Option Addr} {n c:Nat} {xs:List Value} (h:Rd w G A n c xs) (ht:Below w.heap.size w w'):Rd w' G A n c xs:=
 h.turn (F:=fun _=>False) (ae.af ht) (fun _ _ _ e=>e)
theorem Rd.mono {w:World} {G G':Nat->Prop} {A:Option Addr} {n c:Nat} {xs:List Value} (h:Rd w G A n c xs) (r:∀ b,b<w.heap.size->G b->G' b):Rd w G' A n c xs:=
 ⟨h.len,h.nil,h.le,h.cm,fun hn=>by
  obtain⟨b,off,e,I,hb,hc⟩:=h.at_ hn
  exact⟨b,off,e,r b hb I,hb,hc⟩⟩
theorem Rd.eX {w:World} {base:Nat} {e:TypeId} {A:Option Addr} {n c:Nat} {xs:List Value} (h:w.ownsRow base e 1 (.slice A n c) n xs):Rd w (fun b=>base<=b) A n c xs:=by
 have hl:=h.1
 rcases h.2 with⟨e,rfl⟩|⟨g,cap,cur,e,hb,L,O,Q,U,V⟩
 ·injection e with r J I
  subst r
  subst I
  exact⟨by omega,fun _=>⟨rfl,rfl⟩,Fm _,Fz _,fun hn=>absurd hn (by omega)⟩
 ·injection e with r J I
  subst r
  subst I
  refine⟨by omega,fun e=>(by cases e),O,Q,fun hn=>⟨g,0,rfl,hb,(Fl.1 L).1,fun j u hu=>?_⟩⟩
  have:=h.cells (g:=g) rfl j u hu
  rw[FA]
  rw[show(⟨g,0,none⟩:Addr).add j=⟨g,j,none⟩ by unfold Addr.add;split <;> simp_all] at this
  exact this
end Go.Proofs.YtdbgiijdgedggaaGreatDoor
namespace Go.Proofs.YtdbgiijdgedggaaGreatDoor
theorem Lt.ar (s:ByteArray):s.data.toList.length=s.size:=by rw[Fv];rfl
theorem Lt.aD (s:ByteArray) {i:Nat} (h:i<s.size):s.data.toList.drop i=s[i]::s.data.toList.drop (i+1):=by
 have r:i<s.data.toList.length:=by rw[Fv];exact h
 rw[FC r]
 congr 1
theorem Lt.dK {a b:ByteArray} (h:a.data.toList=b.data.toList):a=b:=by
 have e:=Array.toList_inj.1 h
 cases a
 cases b
 simp only at e
 rw[e]
def Lt.kh (c:UInt8):Option Nat:=
 if 48<=c.toNat/\c.toNat<=57 then some (c.toNat-48) else if 97<=c.toNat/\c.toNat<=102 then some (c.toNat-87) else if 65<=c.toNat/\c.toNat<=70 then some (c.toNat-55) else none
theorem Lt.rH {c:UInt8} {d:Nat} (h:Lt.kh c=some d):d<16:=by
 unfold Lt.kh at h
 split at h
 ·injection h with h;omega
 ·split at h
  ·injection h with h;omega
  ·split at h
   ·injection h with h;omega
   ·cases h
def Lt.val:Nat->List UInt8->Option Nat
 |n,[]=>some n
 |n,c::t=>match Lt.kh c with
  |none=>none
  |some d=>Lt.val (n*16+d) t
theorem Lt.gd {n:Nat} {c:UInt8} (t:List UInt8) (h:Lt.kh c=none):Lt.val n (c::t)=none:=by rw[Lt.val,h]
theorem Lt.gx {n d:Nat} {c:UInt8} (t:List UInt8) (h:Lt.kh c=some d):Lt.val n (c::t)=Lt.val (n*16+d) t:=by rw[Lt.val,h]
theorem Lt.lM:∀ (l:List UInt8) (n m:Nat),Lt.val n l=some m->∀ c∈l,(Lt.kh c).isSome=true
 |[],_,_,_,c,hc=>absurd hc FD
 |x::l,n,m,h,c,hc=>by
  cases e:Lt.kh x with
  |none=>rw[Lt.gd _ e] at h;cases h
  |some d=>
   rw[Lt.gx _ e] at h
   rcases FE.1 hc with rfl|hc
   ·rw[e];rfl
   ·exact Lt.lM l _ m h c hc
theorem Lt.xE:∀ (l:List UInt8) (n m:Nat),Lt.val n l=some m->m<(n+1)*16^l.length
 |[],n,m,h=>by
  rw[Lt.val] at h
  injection h with h
  simp
  omega
 |x::l,n,m,h=>by
  cases e:Lt.kh x with
  |none=>rw[Lt.gd _ e] at h;cases h
  |some d=>
   rw[Lt.gx _ e] at h
   have r:=Lt.xE l _ m h
   have I:=Lt.rH e
   have J:(n*16+d+1)*16^l.length<=((n+1)*16)*16^l.length:=FF _ (by omega)
   rw[FG,FH,FI (16^l.length) 16,<-FJ]
   omega
def Lt.num (l:List UInt8):Option Nat:=if l=[] then none else(Lt.val 0 l).bind fun n=>if n<=196607 then some n else none
theorem Lt.dR {l:List UInt8} {n:Nat}:Lt.num l=some n↔l≠[]/\Lt.val 0 l=some n/\n<=196607:=by
 unfold Lt.num
 split
 ·rename_i h
  simp[h]
 ·rename_i h
  cases e:Lt.val 0 l with
  |none=>simp
  |some m=>
   simp only[Option.bind_some]
   split
   ·rename_i hm
    constructor
    ·intro q;injection q with q;subst q;exact⟨h,rfl,hm⟩
    ·rintro⟨_,q,_⟩;exact q
   ·rename_i hm
    constructor
    ·intro q;cases q
    ·rintro⟨_,q,hn⟩;injection q with q;subst q;exact absurd hn hm
theorem Lt.sL:Lt.kh 125=none:=by decide
theorem Lt.AP:Lt.kh 123=none:=by decide
def Lt.dX (q:List UInt8):Nat->Nat->Option (Nat×List UInt8)
 |0,_=>none
 |m+1,k=>if q[k]?=some 125 then match Lt.num (q.take k) with
   |some n=>some (n,q.drop (k+1))
   |none=>Lt.dX q m (k+1)
  else Lt.dX q m (k+1)
def Lt.iu (q:List UInt8):Option (Nat×List UInt8):=Lt.dX q 5 1
theorem Lt.kJ {q:List UInt8} {n:Nat} {r:List UInt8}:∀ (m k:Nat),Lt.dX q m k=some (n,r)->∃ d,q=d++125::r/\d.length<k+m/\Lt.num d=some n
 |0,_,h=>by cases h
 |m+1,k,h=>by
  rw[Lt.dX] at h
  have next:Lt.dX q m (k+1)=some (n,r)->∃ d,q=d++125::r/\d.length<k+(m+1)/\Lt.num d=some n:=fun h=>by
   obtain⟨d,L,U,O⟩:=Lt.kJ m (k+1) h
   exact⟨d,L,by omega,O⟩
  split at h
  ·rename_i Q
   cases e:Lt.num (q.take k) with
   |none=>rw[e] at h;exact next h
   |some x=>
    rw[e] at h
    simp only[Option.some.injEq,Prod.mk.injEq] at h
    obtain⟨rfl,rfl⟩:=h
    obtain⟨J,I⟩:=Fg.1 Q
    refine⟨q.take k,?_,by rw[FK];omega,e⟩
    conv=>lhs;rw[<-FM k q,FC J,I]
  ·exact next h
theorem Lt.nz {d r:List UInt8} {n:Nat} (hd:Lt.num d=some n):∀ (m k:Nat),1<=k->k<=d.length->d.length<k+m->Lt.dX (d++125::r) m k=some (n,r)
 |0,k,_,J,L=>by omega
 |m+1,k,Q,J,L=>by
  rw[Lt.dX]
  by_cases O:k=d.length
  ·subst O
   rw[Fx (by simp),FN,hd]
   simp
  ·have h:k<d.length:=by omega
   have I:(d++125::r)[k]?≠some 125:=by
    intro e
    rw[FO h] at e
    have hm:=FP e
    have:=Lt.lM d 0 n (Lt.dR.1 hd).2.1 125 hm
    rw[Lt.sL] at this
    cases this
   rw[FQ I]
   exact Lt.nz hd m (k+1) (by omega) h (by omega)
theorem Lt.fP {q:List UInt8} {n:Nat} {r:List UInt8}:Lt.iu q=some (n,r)↔∃ d,q=d++125::r/\d.length<=5/\Lt.num d=some n:=by
 constructor
 ·intro h
  obtain⟨d,J,L,I⟩:=Lt.kJ 5 1 h
  exact⟨d,J,by omega,I⟩
 ·rintro⟨d,rfl,L,I⟩
  have:d≠[]:=(Lt.dR.1 I).1
  have:0<d.length:=FR.2 this
  exact Lt.nz I 5 1 (by omega) (by omega) (by omega)
def Lt.yM (r:List UInt8):Option (Nat×List UInt8):=match r with
 |123::q=>Lt.iu q
 |_=>if 4<=r.length then(Lt.num (r.take 4)).map fun n=>(n,r.drop 4) else none
theorem Lt.gS (q:List UInt8):Lt.yM (123::q)=Lt.iu q:=rfl
theorem Lt.jl {r:List UInt8} (h:r.head?≠some 123):Lt.yM r=if 4<=r.length then(Lt.num (r.take 4)).map fun n=>(n,r.drop 4) else none:=by
 unfold Lt.yM
 split
 ·exact absurd rfl h
 ·rfl
def Lt.one:List UInt8->Nat×List UInt8
 |[]=>(0,[])
 |c::t=>(if c=92/\t.head?=some 117 then Lt.yM t.tail else none).getD (c.toNat,t)
theorem Lt.fp {c:UInt8} {t:List UInt8} (h:¬(c=92/\t.head?=some 117)):Lt.one (c::t)=(c.toNat,t):=by rw[Lt.one,FQ h];rfl
theorem Lt.gN {r:List UInt8}:Lt.one (92::117::r)=(Lt.yM r).getD (92,117::r):=by
 rw[Lt.one,Fx ⟨rfl,rfl⟩]
 rfl
theorem Lt.vx {r:List UInt8} {n:Nat} {q:List UInt8} (h:Lt.yM r=some (n,q)):n<=196607/\q.length<=r.length:=by
 by_cases hb:r.head?=some 123
 ·obtain⟨t,rfl⟩:∃ t,r=123::t:=by
   cases r with
   |nil=>cases hb
   |cons c t=>exact⟨t,by injection hb with hb;rw[hb]⟩
  rw[Lt.gS] at h
  obtain⟨d,rfl,_,L⟩:=Lt.fP.1 h
  refine⟨(Lt.dR.1 L).2.2,?_⟩
  simp
  omega
 ·rw[Lt.jl hb] at h
  split at h
  ·obtain⟨m,hm,e⟩:=FT.1 h
   injection e with I J
   subst I
   refine⟨(Lt.dR.1 hm).2.2,?_⟩
   rw[<-J,FU]
   omega
  ·cases h
theorem Lt.gP (c:UInt8) (t:List UInt8):(Lt.one (c::t)).1<=196607/\(Lt.one (c::t)).2.length<=t.length:=by
 have hc:=c.toNat_lt
 by_cases h:c=92/\t.head?=some 117
 ·obtain⟨rfl,h⟩:=h
  cases t with
  |nil=>cases h
  |cons d r=>
   injection h with h
   subst h
   rw[Lt.gN]
   cases e:Lt.yM r with
   |none=>simp
   |some x=>
    obtain⟨n,q⟩:=x
    have:=Lt.vx e
    simp
    omega
 ·rw[Lt.fp h]
  refine⟨by simp only;omega,Fm _⟩
def Lt.points:Nat->List UInt8->List Int
 |0,_=>[]
 |_+1,[]=>[]
 |n+1,c::t=>((Lt.one (c::t)).1:Int)::Lt.points n (Lt.one (c::t)).2
theorem Lt.j6:∀ (n m:Nat) (l:List UInt8),l.length<=n->l.length<=m->Lt.points n l=Lt.points m l
 |0,m,l,h,_=>by
  obtain rfl:l=[]:=FV (by omega)
  cases m <;> rfl
 |n+1,0,l,_,h=>by
  obtain rfl:l=[]:=FV (by omega)
  rfl
 |n+1,m+1,[],_,_=>rfl
 |n+1,m+1,c::t,r,I=>by
  have:=(Lt.gP c t).2
  rw[FG] at r I
  rw[Lt.points,Lt.points,Lt.j6 n m _ (by omega) (by omega)]
def Lt.ir (l:List UInt8):List Int:=Lt.points l.length l
theorem Lt.tx:Lt.ir []=[]:=rfl
theorem Lt.lz (c:UInt8) (t:List UInt8):Lt.ir (c::t)=((Lt.one (c::t)).1:Int)::Lt.ir (Lt.one (c::t)).2:=by
 have:=(Lt.gP c t).2
 unfold Lt.ir
 rw[FG,Lt.points,Lt.j6 t.length (Lt.one (c::t)).2.length _ this (Fm _)]
def Lt.pt (z:Int):Bool:=decide (0<=z/\z<=196607)
theorem Lt.jI:∀ (n:Nat) (l:List UInt8),l.length<=n->(Lt.ir l).length<=l.length/\∀ z∈Lt.ir l,Lt.pt z=true
 |0,l,h=>by
  obtain rfl:l=[]:=FV (by omega)
  exact⟨Fm _,fun _ h=>absurd h FD⟩
 |n+1,[],_=>⟨Fm _,fun _ h=>absurd h FD⟩
 |n+1,c::t,h=>by
  obtain⟨r,I⟩:=Lt.gP c t
  rw[FG] at h
  obtain⟨i1,i2⟩:=Lt.jI n (Lt.one (c::t)).2 (by omega)
  rw[Lt.lz,FG,FG]
  refine⟨by omega,fun z hz=>?_⟩
  rcases FE.1 hz with rfl|hz
  ·unfold Lt.pt
   exact FW ⟨by omega,by omega⟩
  ·exact i2 z hz
theorem Lt.wy {z:Int} (h:Lt.pt z=true):0<=z/\z<=196607:=FX h
def Lt.dy (R:List (Int×Int)) (z:Int):List (Int×Int):=match R.getLast? with
 |some x=>if x.1=z then R.dropLast++[(x.1,x.2+1)] else R++[(z,1)]
 |none=>[(z,1)]
theorem Lt.qZ (z:Int):Lt.dy [] z=[(z,1)]:=rfl
theorem Lt.gz (R:List (Int×Int)) (z n:Int):Lt.dy (R++[(z,n)]) z=R++[(z,n+1)]:=by simp[Lt.dy]
theorem Lt.iP (R:List (Int×Int)) {y z:Int} (n:Int) (h:y≠z):Lt.dy (R++[(y,n)]) z=R++[(y,n)]++[(z,1)]:=by simp[Lt.dy,h]
def Lt.runs (h:List Int):List (Int×Int):=h.foldl Lt.dy []
theorem Lt.fh (h:List Int) (z:Int):Lt.runs (h++[z])=Lt.dy (Lt.runs h) z:=by simp[Lt.runs]
def Lt.expand (R:List (Int×Int)):List Int:=R.flatMap fun x=>List.replicate x.2.toNat x.1
theorem Lt.fI (R S:List (Int×Int)):Lt.expand (R++S)=Lt.expand R++Lt.expand S:=by simp[Lt.expand]
theorem Lt.fL (c n:Int):Lt.expand [(c,n)]=List.replicate n.toNat c:=by simp[Lt.expand]
def Lt.total:List (Int×Int)->Int
 |[]=>0
 |x::R=>x.2+Lt.total R
theorem Lt.dh:∀ R S:List (Int×Int),Lt.total (R++S)=Lt.total R+Lt.total S
 |[],S=>by rw[FY,Lt.total];omega
 |x::R,S=>by rw[FZ,Lt.total,Lt.total,Lt.dh R S];omega
theorem Lt.gU (c n:Int):Lt.total [(c,n)]=n:=by rw[Lt.total,Lt.total];omega
structure Lt.lD (zs:List Int) (R:List (Int×Int)):Prop where
 exp:Lt.expand R=zs
 pos:∀ x∈R,1<=x.2/\x.1∈zs
 Bw:∀ i x y,R[i]?=some x->R[i+1]?=some y->x.1≠y.1
 last:R.getLast?.map (·.1)=zs.getLast?
 len:R.length<=zs.length
 sum:Lt.total R=zs.length
theorem Lt.mF {α:Type} (l:List α):l=[]\/∃ m x,l=m++[x]:=by
 rcases List.eq_nil_or_concat l with h|⟨m,x,h⟩
 ·exact .inl h
 ·exact .inr ⟨m,x,by simpa using h⟩
theorem Lt.lD.snoc {X:List Int} {R:List (Int×Int)} (h:Lt.lD X R) (z:Int):Lt.lD (X++[z]) (Lt.dy R z):=by
 rcases Lt.mF R with rfl|⟨S,⟨y,n⟩,rfl⟩
 ·have hz:X=[]:=by
   have:=h.exp
   simpa [Lt.expand] using this.symm
  subst hz
  rw[Lt.qZ]
  refine⟨rfl,fun x r=>?_,fun i x y U I=>?_,rfl,Fm _,rfl⟩
  ·rw[F0.1 r]
   exact⟨by simp,by simp⟩
  ·simp at I
 ·have hp:=h.pos (y,n) (by simp)
  have hs:=h.sum
  have he:=h.exp
  rw[Lt.dh,Lt.gU] at hs
  rw[Lt.fI,Lt.fL] at he
  have ad:1<=n:=hp.1
  by_cases L:y=z
  ·subst L
   rw[Lt.gz]
   refine⟨?_,fun x r=>?_,fun i x Q U I=>?_,by simp,?_,?_⟩
   ·rw[Lt.fI,Lt.fL,<-he,show(n+1).toNat=n.toNat+1 by omega,List.replicate_succ',F3]
   ·rcases F7.1 r with r|r
    ·have:=h.pos x (F9 _ r)
     exact⟨this.1,F9 _ this.2⟩
    ·rw[F0.1 r]
     exact⟨by simp only;omega,by simp⟩
   ·have hl:i+1<S.length+1:=by
     have:=(Fg.1 I).1
     simpa using this
    have O:(S++[(y,n)])[i]?=some x:=by rw[<-U,FO (by omega),FO (by omega)]
    by_cases hi:i+1<S.length
    ·exact h.Bw i x Q O (by rw[<-I,FO hi,FO hi])
    ·have J:i+1=S.length:=by omega
     have V:Q=(y,n+1):=by
      rw[J,Ga (Fm _)] at I
      simpa using I.symm
     subst V
     exact h.Bw i x (y,n) O (by rw[J,Ga (Fm _)];simp)
   ·have:=h.len
    simp at this ⊢
    omega
   ·rw[Lt.dh,Lt.gU,Gb]
    simp
    omega
  ·rw[Lt.iP S n L]
   refine⟨?_,fun x r=>?_,fun i x Q U I=>?_,by simp,?_,?_⟩
   ·rw[Lt.fI,Lt.fI,Lt.fL,Lt.fL,he]
    rfl
   ·rcases F7.1 r with r|r
    ·have:=h.pos x r
     exact⟨this.1,F9 _ this.2⟩
    ·rw[F0.1 r]
     exact⟨by simp,by simp⟩
   ·have hl:i+1<(S++[(y,n)]).length+1:=by
     have:=(Fg.1 I).1
     simpa using this
    have O:(S++[(y,n)])[i]?=some x:=by rw[<-U,FO (l₁:=S++[(y,n)]) (by omega)]
    by_cases hi:i+1<(S++[(y,n)]).length
    ·exact h.Bw i x Q O (by rw[<-I,FO (l₁:=S++[(y,n)]) hi])
    ·have J:i+1=(S++[(y,n)]).length:=by omega
     have V:Q=(z,1):=by
      rw[J,Ga (Fm _)] at I
      simpa using I.symm
     have Z:x=(y,n):=by
      have:i=S.length:=by simp at J;omega
      rw[this,Ga (Fm _)] at O
      simpa using O.symm
     rw[V,Z]
     exact L
   ·have:=h.len
    simp at this ⊢
    omega
   ·rw[Lt.dh,Lt.dh,Lt.gU,Lt.gU,Gb]
    simp
    omega
theorem Lt.Bc (r:List Int):Lt.lD r (Lt.runs r):=by
 suffices h:∀ n:Nat,∀ r:List Int,r.length=n->Lt.lD r (Lt.runs r) from h _ r rfl
 intro n
 induction n with
 |zero=>
  intro r h
  obtain rfl:=FV h
  exact⟨rfl,fun _ h=>absurd h FD,fun i x y h=>(by simp[Lt.runs] at h),rfl,Fm _,rfl⟩
 |succ n I=>
  intro r h
  rcases Lt.mF r with rfl|⟨m,x,rfl⟩
  ·cases h
  ·rw[Lt.fh]
   exact(I m (by simpa using h)).snoc x
theorem Lt.fw:∀ {R:List (Int×Int)},(∀ x∈R,¬x.2<1)->0<=Lt.total R
 |[],_=>Int.le_refl _
 |x::R,h=>by
  have r:=h x Gc
  have I:=Lt.fw (R:=R) fun y hy=>h y (Gd _ hy)
  rw[Lt.total]
  omega
def Lt.eY (h:List Int):Int×List (Int×Int):=if h.all Lt.pt then(0,Lt.runs h) else(1,[])
structure Tx.Own (R:List (Int×Int)):Prop where
 pos:∀ x∈R,Lt.pt x.1=true/\1<=x.2
 Bw:∀ i x y,R[i]?=some x->R[i+1]?=some y->x.1≠y.1
structure Tx.May (R:List (Int×Int)):Prop where
 own:Tx.Own R
 few:R.length<=65536
 most:Lt.total R<=1099511627776
end Go.Proofs.YtdbgiijdgedggaaGreatDoor
namespace Go.Proofs.YtdbgiijdgedggaaGreatDoor
open Go.RowKit Go.ChangeShapes Go.WideShapes Go.Deep
theorem ik (w:World):(zeroValue 3).run Tryz.prog w=.ok (.int .i64 0) w:=by kernel_rfl
end Go.Proofs.YtdbgiijdgedggaaGreatDoor
namespace Go.Proofs.YtdbgiijdgedggaaGreatDoor
open Go.RowKit
structure aH (w:World) (A:Option Addr) (n:Nat) (l:List Int):Prop where
 len:l.length=n
 at_:0<n->∃ b off,A=some ⟨b,off,none⟩/\b<w.heap.size/\∀ (i:Nat) x,l[i]?=some x->w.cell? ⟨b,off+i,none⟩=some (.int .i64 x)
theorem aH.below {w w':World} {A:Option Addr} {n:Nat} {l:List Int} (h:aH w A n l) (hb:Below w.heap.size w w'):aH w' A n l:=
 ⟨h.len,fun hn=>by
  obtain⟨b,off,e,r,hc⟩:=h.at_ hn
  exact⟨b,off,e,Fp r hb.size,fun i x I=>(hb.cell (p:=⟨b,off+i,none⟩) r).trans (hc i x I)⟩⟩
theorem aH.get {w:World} {A:Option Addr} {n i:Nat} {l:List Int} (h:aH w A n l) (hi:i<n):
  ∃ b off x,A=some ⟨b,off,none⟩/\l[i]?=some x/\x∈l/\l.drop i=x::l.drop (i+1)/\∀ W,Below w.heap.size w W->b<W.heap.size/\W.cell? ⟨b,off+i,none⟩=some (.int .i64 x):=by
 obtain⟨b,off,e,I,hc⟩:=h.at_ (by omega)
 have r:i<l.length:=by rw[h.len];exact hi
 exact⟨b,off,l[i],e,Ge r,Gf r,FC r,fun W J=>⟨Fp I J.size,(J.cell (p:=⟨b,off+i,none⟩) I).trans (hc i _ (Ge r))⟩⟩
theorem aH.nil (w:World) (A:Option Addr):aH w A 0 []:=⟨rfl,fun h=>absurd h (by decide)⟩
theorem B5:(Tryz.prog.info? 3).map (fun i=>(i.zero,i.size,i.bytes))=some (some (.int .i64 0),1,8):=by kernel_rfl
def dV (w:World) (B:Nat) (A:Option Addr) (c:Nat) (l:List Int):Prop:=w.ownsRow B 3 1 (.slice A l.length c) l.length (cH l)
theorem dV.nil (w:World) (B:Nat):dV w B none 0 []:=Gg _ _ _ _
theorem dV.kept {w w':World} {B:Nat} {A:Option Addr} {c:Nat} {l:List Int} (h:dV w B A c l) (hb:Below w.heap.size w w'):dV w' B A c l:=(ae.af (F:=fun _=>False) hb).own h (fun _ _=>id)
theorem dV.lt {w:World} {B:Nat} {A:Option Addr} {c n:Nat} {l:List Int} (h:dV w B A c l) (hn:l.length=n) {q:Nat} (r:(Value.slice A n c).ownBlock=some q):B<=q/\q<w.heap.size:=by
 subst hn
 exact Gh h q r
theorem dV.uE {w:World} {B:Nat} {A:Option Addr} {c n:Nat} {l:List Int} (h:dV w B A c l) (hn:l.length=n):aH w A n l:=by
 subst hn
 refine⟨rfl,fun L=>?_⟩
 rcases h.2 with⟨e,O⟩|⟨g,cap,cur,e,_,I,_⟩
 ·omega
 ·injection e with r _ _
  subst r
  refine⟨g,0,rfl,(Fl.1 I).1,fun i x J=>?_⟩
  have:=Gi (g:=g) h rfl i (.int .i64 x) (by rw[Fj,J];rfl)
  rwa [addr_add] at this
theorem sV (w:World) {ops:Array Oper} {rest:List Oper} {o:Oper} {a:Act} {Q:Exit->Act->World->Prop} (L:o.guard=none) (s x:Operand)
  (ho:o.op=.call { callee:=.builtin .append,args:=#[s,x],argTypes:=#[44,44] }) (B:Nat) (A:Option Addr) (c:Nat) (l:List Int) (n:Nat) (hn:l.length=n) (z:Int)
  (hs:a.eval s=.slice A n c) (I:dV w B A c l) (hx:a.eval x=.slice (some ⟨w.heap.size,0,none⟩) 1 1) (hl:n<=1000000000) (hB:B<=w.heap.size)
  (h:∀ A' J w',dV w' B A' J (l++[z])->w.grownBy w' (Value.slice A n c).ownBlock->wpList Tryz.prog ops Q rest (a.put o.dst (.slice A' (n+1) J)) w'):
  wpList Tryz.prog ops Q (o::rest) a (w.alloc (.cells #[.int .i64 z] 3)):=by
 subst hn
 obtain⟨i0,hi,U,V,X⟩:=Gj B5
 refine cZ _ L s x 44 ho B 3 i0 (.int .i64 0) 8 Tryz.underlying44 hi U V X rfl _ l.length (cH l) hs (Gk I _) ⟨w.heap.size,0,none⟩ 1 1 [.int .i64 z] hx rfl (Gm _ _ _) (fun u hu=>by simp at hu;subst hu;rfl) (by unfold maxLen;omega) (by omega) (by simp;omega) ?_
 intro A' J w' Z r _
 refine h A' J w' ?_ ?_
 ·unfold dV
  have e:cH l++[.int .i64 z]=cH (l++[z]):=by simp
  rw[e] at Z
  rw[Gb]
  exact Z
 ·refine⟨r.os,r.tape,r.output,Fo (by simp) r.size,fun k hk O=>(r.block k (by simp;omega) O).trans (Fq w _ k hk)⟩
noncomputable def kK (l m:List Int):Bool:=decide (l=m)
theorem BU (w:World) (A:Option Addr) (n c:Nat) (l:List Int) (B:Option Addr) (m d:Nat) (l':List Int) (h:aH w A n l) (U:aH w B m l') (hn:n<=1000000000):
  Calls Tryz.prog 49 #[.slice A n c,.slice B m d] w fun e w'=>e=.returned (.bool (kK l l'))/\Below w.heap.size w w':=by
 by_cases J:n=m
 ·subst J
  have HH:=Gn h
  have O:=Gn U
  have hlen:l.length=l'.length:=by rw[h.len,U.len]
  obtain⟨X,Q⟩:∃ X,Hid (kK l l'=X):=⟨_,rfl⟩
  rw[Q.out]
  clear h U hlen
  go_enter Tryz.func49,Tryz.ntmps49
  go_wp2
  go_loopw [5] (fun iv wr=>∃ i:Nat,i<=n/\iv=.int .i64 (i:Nat)/\Hid (Below w.heap.size w wr/\l.take i=l'.take i)) (fun iv _=>n-(intOf iv).toNat)
  case atStart=>exact⟨0,Fz _,rfl,Gp _ _,rfl⟩
  case round=>
   obtain⟨i,hi,rfl,r⟩:=hrel
   by_cases V:i<n
   ·obtain⟨b,off,x,rfl,hx,_,_,hc⟩:=HH.out.get V
    obtain⟨b',ao,y,rfl,hy,_,_,I⟩:=O.out.get V
    obtain⟨q1,q2⟩:=hc wr r.out.1
    obtain⟨q3,q4⟩:=I wr r.out.1
    have HB:Hid (∀ k,Below w.heap.size w (wr.drewN k)):=fun k=>r.out.1.trans ((ae.none_ ((ae.refl (fun _=>False) wr).drewN k) (fun _=>id)).mono r.out.1.size)
    have ah:(i:Int)<(n:Int):=by omega
    have h0:(0:Int)<=(i:Int):=by omega
    by_cases L:x=y
    ·subst L
     have HN:Hid (l.take (i+1)=l'.take (i+1)):=by
      show _=_
      rw[take_one hx,take_one hy,r.out.2]
     clear hx hy hc I r
     go_wp2
     go_quiet (fail)
     go_wp2
     go_roundw
     case rel=>exact⟨i+1,by omega,by go_num,HB.out _,HN.out⟩
     case measure=>simp[intOf];omega
    ·have ad:(x != y)=true:=bne_iff_ne.2 L
     obtain rfl:X=false:=by
      rw[<-Q.out]
      refine Gq fun e=>L ?_
      subst e
      exact Fk (hx.symm.trans hy)
     clear hx hy hc I r Q
     go_wp2
     go_quiet (fail)
     go_wp2
     go_ret
     exact⟨rfl,HB.out _⟩
   ·obtain rfl:i=n:=by omega
    obtain rfl:X=true:=by
     rw[<-Q.out]
     refine FW ?_
     have:=r.out.2
     rwa [Gr (by rw[HH.out.len];exact Fm _),Gr (by rw[O.out.len];exact Fm _)] at this
    have HB:=Gn r.out.1
    clear r Q
    go_wp2
    go_ret
    exact⟨rfl,HB.out⟩
 ·have ad:(n:Int)≠(m:Int):=by omega
  have Z:kK l l'=false:=by
   refine Gq fun e=>J ?_
   rw[<-h.len,<-U.len,e]
  rw[Z]
  clear h U J
  go_enter Tryz.func49,Tryz.ntmps49
  go_wp2
  go_ret
  exact⟨rfl,Gp _ w⟩
structure cd (w:World) (A:Option Addr) (n:Nat) (l:List (Int×Int)):Prop where
 len:l.length=n
 at_:0<n->∃ b off,A=some ⟨b,off,none⟩/\b<w.heap.size/\∀ (i:Nat) x,l[i]?=some x->w.cell? ⟨b,off+i*2,none⟩=some (.int .i64 x.1)/\w.cell? ⟨b,off+i*2+1,none⟩=some (.int .i64 x.2)
theorem cd.below {w w':World} {A:Option Addr} {n:Nat} {l:List (Int×Int)} (h:cd w A n l) (hb:Below w.heap.size w w'):cd w' A n l:=
 ⟨h.len,fun hn=>by
  obtain⟨b,off,e,r,hc⟩:=h.at_ hn
  exact⟨b,off,e,Fp r hb.size,fun i x I=>⟨(hb.cell (p:=⟨b,off+i*2,none⟩) r).trans (hc i x I).1,(hb.cell (p:=⟨b,off+i*2+1,none⟩) r).trans (hc i x I).2⟩⟩⟩
theorem cd.get {w:World} {A:Option Addr} {n i:Nat} {l:List (Int×Int)} (h:cd w A n l) (hi:i<n):
  ∃ b off x,A=some ⟨b,off,none⟩/\l[i]?=some x/\x∈l/\l.drop i=x::l.drop (i+1)/\∀ W,Below w.heap.size w W->b<W.heap.size/\W.cell? ⟨b,off+i*2,none⟩=some (.int .i64 x.1)/\W.cell? ⟨b,off+i*2+1,none⟩=some (.int .i64 x.2):=by
 obtain⟨b,off,e,I,hc⟩:=h.at_ (by omega)
 have r:i<l.length:=by rw[h.len];exact hi
 have L:=Ge r
 exact⟨b,off,l[i],e,L,Gf r,FC r,fun W J=>⟨Fp I J.size,(J.cell (p:=⟨b,off+i*2,none⟩) I).trans (hc i _ L).1,(J.cell (p:=⟨b,off+i*2+1,none⟩) I).trans (hc i _ L).2⟩⟩
theorem cd.nil (w:World) (A:Option Addr):cd w A 0 []:=⟨rfl,fun h=>absurd h (by decide)⟩
noncomputable def qH (l m:List (Int×Int)):Bool:=decide (l=m)
theorem CM (w:World) (A:Option Addr) (n c:Nat) (l:List (Int×Int)) (B:Option Addr) (m d:Nat) (l':List (Int×Int)) (h:cd w A n l) (V:cd w B m l') (hn:n<=1000000000):
  Calls Tryz.prog 38 #[.slice A n c,.slice B m d] w fun e w'=>e=.returned (.bool (qH l l'))/\Below w.heap.size w w':=by
 by_cases L:n=m
 ·subst L
  have HH:=Gn h
  have Q:=Gn V
  have hlen:l.length=l'.length:=by rw[h.len,V.len]
  obtain⟨X,U⟩:∃ X,Hid (qH l l'=X):=⟨_,rfl⟩
  rw[U.out]
  clear h V hlen
  go_enter Tryz.func38,Tryz.ntmps38
  go_wp2
  go_loopw [5] (fun iv wr=>∃ i:Nat,i<=n/\iv=.int .i64 (i:Nat)/\Hid (Below w.heap.size w wr/\l.take i=l'.take i)) (fun iv _=>n-(intOf iv).toNat)
  case atStart=>exact⟨0,Fz _,rfl,Gp _ _,rfl⟩
  case round=>
   obtain⟨i,hi,rfl,I⟩:=hrel
   by_cases Z:i<n
   ·obtain⟨b,off,⟨x,x'⟩,rfl,hx,_,_,hc⟩:=HH.out.get Z
    obtain⟨b',ao,⟨y,y'⟩,rfl,hy,_,_,J⟩:=Q.out.get Z
    obtain⟨q1,q2,a1⟩:=hc wr I.out.1
    obtain⟨q3,q4,a7⟩:=J wr I.out.1
    have O:Hid (∀ k,Below w.heap.size w (wr.drewN k)):=fun k=>I.out.1.trans ((ae.none_ ((ae.refl (fun _=>False) wr).drewN k) (fun _=>id)).mono I.out.1.size)
    have ah:(i:Int)<(n:Int):=by omega
    have h0:(0:Int)<=(i:Int):=by omega
    by_cases r:x=y/\x'=y'
    ·obtain⟨rfl,rfl⟩:=r
     have HN:Hid (l.take (i+1)=l'.take (i+1)):=by
      show _=_
      rw[take_one hx,take_one hy,I.out.2]
     clear hx hy hc J I
     go_wp2
     go_quiet (fail)
     go_wp2
     go_roundw
     case rel=>exact⟨i+1,by omega,by go_num,O.out _,HN.out⟩
     case measure=>simp[intOf];omega
    ·obtain rfl:X=false:=by
      rw[<-U.out]
      refine Gq fun e=>r ?_
      subst e
      have:=Fk (hx.symm.trans hy)
      injection this with e1 e2
      exact⟨e1,e2⟩
     clear hx hy hc J I U
     rcases Classical.em (x=y) with h1|h1
     ·have h2:¬x'=y':=fun e=>r ⟨h1,e⟩
      subst h1
      clear r
      go_wp2
      go_quiet (fail)
      go_wp2
      go_ret
      exact⟨rfl,O.out _⟩
     ·clear r
      go_wp2
      go_quiet (fail)
      go_wp2
      go_ret
      exact⟨rfl,O.out _⟩
   ·obtain rfl:i=n:=by omega
    obtain rfl:X=true:=by
     rw[<-U.out]
     refine FW ?_
     have:=I.out.2
     rwa [Gr (by rw[HH.out.len];exact Fm _),Gr (by rw[Q.out.len];exact Fm _)] at this
    have O:=Gn I.out.1
    clear I U
    go_wp2
    go_ret
    exact⟨rfl,O.out⟩
 ·have av:(n:Int)≠(m:Int):=by omega
  have ad:qH l l'=false:=by
   refine Gq fun e=>L ?_
   rw[<-h.len,<-V.len,e]
  rw[ad]
  clear h V L
  go_enter Tryz.func38,Tryz.ntmps38
  go_wp2
  go_ret
  exact⟨rfl,Gp _ w⟩
theorem ze (z:Int) (w:World):Calls Tryz.prog 144 #[.int .i64 z] w fun e w'=>e=.returned (.bool (Lt.pt z))/\w'=w:=by
 by_cases h:0<=z
 ·by_cases r:z<196608
  ·have hp:Lt.pt z=true:=FW ⟨h,by omega⟩
   rw[hp]
   go_enter Tryz.func144,Tryz.ntmps144
   go_wp2
   go_ret
   exact⟨rfl,rfl⟩
  ·have hp:Lt.pt z=false:=Gq (by omega)
   rw[hp]
   go_enter Tryz.func144,Tryz.ntmps144
   go_wp2
   go_ret
   exact⟨rfl,rfl⟩
 ·have hp:Lt.pt z=false:=Gq (by omega)
  rw[hp]
  go_enter Tryz.func144,Tryz.ntmps144
  go_wp2
  go_ret
  exact⟨rfl,rfl⟩
end Go.Proofs.YtdbgiijdgedggaaGreatDoor
namespace Go.Proofs.YtdbgiijdgedggaaGreatDoor
open Go.RowKit
section
variable {P : Program} {C : World -> Prop}
theorem cB {id:Nat} {Q:Exit->Act->World->Prop} {a:Act} {w:World} {l:List Oper} (hm:P.follows .mixedOrders=true) (r:Region.lexB .any l.toArray=true) (hC:C w.drew)
  (h:wpQuiet P l.toArray C (fun a'=>∀ w',C w'->Q .normal a' w') l a):(Code.region id l.toArray true).wp P Q a w:=
 wp_region_quiet hm r hC (by simpa using h)
variable {ops : Array Oper} {md : Region.Mode}
end
structure cu (w:World):Type where
 at_:World
 ok:Below w.heap.size w at_
instance ES (w:World):Nonempty (cu w):=⟨⟨w,Gp _ _⟩⟩
abbrev qG (w:World):World->Prop:=fun w'=>∃ s:cu w,w'=s.at_
theorem dt {w r:World} (h:Below w.heap.size w r):qG w r.drew:=⟨⟨r.drew,h.trans (show Below w.heap.size r r.drew from⟨rfl,rfl,rfl,Fm _,fun _ _=>rfl⟩)⟩,rfl⟩
theorem dw {P:Program} {f:FuncId} {args:Array Value} {w:World} {s:cu w} {v:Value} (h:Calls P f args s.at_ fun e w'=>e=.returned v/\Below s.at_.heap.size s.at_ w'):Calls P f args s.at_ fun e r=>e=.returned v/\∃ s':cu w,r=s'.at_:=
 h.mono fun _ r ⟨he,hb⟩=>⟨he,⟨r,s.ok.trans (hb.mono s.ok.size)⟩,rfl⟩
end Go.Proofs.YtdbgiijdgedggaaGreatDoor
