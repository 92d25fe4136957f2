/- What the proofs of this claim use, text by text. -/
import Derived.Test.YtcgaeknikfaghaaGreatDoorQD18
import Derived.Laws.IdiomStrings
import Derived.Deep.QuietTactic
set_option linter.unusedSimpArgs false
set_option linter.unusedVariables false
set_option maxRecDepth 100000
set_option maxHeartbeats 25600000
namespace Go.Proofs.YtcgaeknikfaghaaGreatDoor
open Go.RowKit Go.Shelf
theorem lit_no {s:ByteArray} {l:List UInt8} (h:¬s.data.toList=l):(s.toList == l)=false:=by rw[ByteArray.toList_eq];exact beq_eq_false_iff_ne.2 h
theorem lit_yes {s:ByteArray} {l:List UInt8} (h:s.data.toList=l):(s.toList == l)=true:=by rw[ByteArray.toList_eq];exact beq_iff_eq.2 h
theorem Bd.op_none {s:List UInt8} {n:Nat} (h:s∉Bd.opNames):Bd.op s n=0:=by
 have h1:s≠[45]:=fun e=>h (by rw[e];decide)
 unfold Bd.op
 rw[if_neg fun e=>h1 e.1]
 split
 ·rfl
 ·have:List.findIdx? (fun t=>t == s) Bd.opNames=none:=by
   rw[List.findIdx?_eq_none_iff]
   intro x hx
   rw[beq_eq_false_iff_ne]
   exact fun e=>h (e▸hx)
  rw[this]
theorem Bd.op_zero (s:List UInt8):Bd.op s 0=Bd.op s 2:=by unfold Bd.op;simp
theorem ktextop (s:ByteArray) (w:World) (hno:s.data.toList≠[110,111,116]∧s.data.toList≠[97,110,100]∧s.data.toList≠[111,114]∧s.data.toList≠[61,62]∧s.data.toList≠[120,111,114]∧s.data.toList≠[61]∧s.data.toList≠[100,105,115,116,105,110,99,116]∧s.data.toList≠[105,116,101]∧s.data.toList≠[43]∧s.data.toList≠[45]∧s.data.toList≠[42]∧s.data.toList≠[60,61]∧s.data.toList≠[60]∧s.data.toList≠[62,61]∧s.data.toList≠[62]):
  Calls Tryz.prog 80 #[.string s] w fun e w'=>e=.returned (.int .i64 (Bd.op s.data.toList 0))∧w'=w:=by
 obtain⟨n0,n1,n2,n3,n4,n5,n6,n7,n8,n9,n10,n11,n12,n13,n14⟩:=hno
 by_cases h0:s.data.toList=[115,116,114,46,43,43]
 ·rw[h0]
  have e:Bd.op [115,116,114,46,43,43] 0=22:=by decide
  rw[e]
  have b0:=lit_yes h0
  clear n0 n1 n2 n3 n4 n5 n6 n7 n8 n9 n10 n11 n12 n13 n14 h0
  go_enter Tryz.func80,Tryz.ntmps80
  go_wp2
  go_ret
  exact⟨rfl,rfl⟩
 have b0:=lit_no h0
 by_cases h1:s.data.toList=[115,116,114,46,108,101,110]
 ·rw[h1]
  have e:Bd.op [115,116,114,46,108,101,110] 0=23:=by decide
  rw[e]
  have b1:=lit_yes h1
  clear n0 n1 n2 n3 n4 n5 n6 n7 n8 n9 n10 n11 n12 n13 n14 h1
  go_enter Tryz.func80,Tryz.ntmps80
  go_wp2
  go_ret
  exact⟨rfl,rfl⟩
 have b1:=lit_no h1
 by_cases h2:s.data.toList=[115,116,114,46,97,116]
 ·rw[h2]
  have e:Bd.op [115,116,114,46,97,116] 0=24:=by decide
  rw[e]
  have b2:=lit_yes h2
  clear n0 n1 n2 n3 n4 n5 n6 n7 n8 n9 n10 n11 n12 n13 n14 h2
  go_enter Tryz.func80,Tryz.ntmps80
  go_wp2
  go_ret
  exact⟨rfl,rfl⟩
 have b2:=lit_no h2
 by_cases h3:s.data.toList=[115,116,114,46,115,117,98,115,116,114]
 ·rw[h3]
  have e:Bd.op [115,116,114,46,115,117,98,115,116,114] 0=25:=by decide
  rw[e]
  have b3:=lit_yes h3
  clear n0 n1 n2 n3 n4 n5 n6 n7 n8 n9 n10 n11 n12 n13 n14 h3
  go_enter Tryz.func80,Tryz.ntmps80
  go_wp2
  go_ret
  exact⟨rfl,rfl⟩
 have b3:=lit_no h3
 by_cases h4:s.data.toList=[115,116,114,46,112,114,101,102,105,120,111,102]
 ·rw[h4]
  have e:Bd.op [115,116,114,46,112,114,101,102,105,120,111,102] 0=26:=by decide
  rw[e]
  have b4:=lit_yes h4
  clear n0 n1 n2 n3 n4 n5 n6 n7 n8 n9 n10 n11 n12 n13 n14 h4
  go_enter Tryz.func80,Tryz.ntmps80
  go_wp2
  go_ret
  exact⟨rfl,rfl⟩
 have b4:=lit_no h4
 by_cases h5:s.data.toList=[115,116,114,46,115,117,102,102,105,120,111,102]
 ·rw[h5]
  have e:Bd.op [115,116,114,46,115,117,102,102,105,120,111,102] 0=27:=by decide
  rw[e]
  have b5:=lit_yes h5
  clear n0 n1 n2 n3 n4 n5 n6 n7 n8 n9 n10 n11 n12 n13 n14 h5
  go_enter Tryz.func80,Tryz.ntmps80
  go_wp2
  go_ret
  exact⟨rfl,rfl⟩
 have b5:=lit_no h5
 by_cases h6:s.data.toList=[115,116,114,46,99,111,110,116,97,105,110,115]
 ·rw[h6]
  have e:Bd.op [115,116,114,46,99,111,110,116,97,105,110,115] 0=28:=by decide
  rw[e]
  have b6:=lit_yes h6
  clear n0 n1 n2 n3 n4 n5 n6 n7 n8 n9 n10 n11 n12 n13 n14 h6
  go_enter Tryz.func80,Tryz.ntmps80
  go_wp2
  go_ret
  exact⟨rfl,rfl⟩
 have b6:=lit_no h6
 by_cases h7:s.data.toList=[115,116,114,46,105,110,100,101,120,111,102]
 ·rw[h7]
  have e:Bd.op [115,116,114,46,105,110,100,101,120,111,102] 0=29:=by decide
  rw[e]
  have b7:=lit_yes h7
  clear n0 n1 n2 n3 n4 n5 n6 n7 n8 n9 n10 n11 n12 n13 n14 h7
  go_enter Tryz.func80,Tryz.ntmps80
  go_wp2
  go_ret
  exact⟨rfl,rfl⟩
 have b7:=lit_no h7
 by_cases h8:s.data.toList=[115,116,114,46,114,101,112,108,97,99,101]
 ·rw[h8]
  have e:Bd.op [115,116,114,46,114,101,112,108,97,99,101] 0=30:=by decide
  rw[e]
  have b8:=lit_yes h8
  clear n0 n1 n2 n3 n4 n5 n6 n7 n8 n9 n10 n11 n12 n13 n14 h8
  go_enter Tryz.func80,Tryz.ntmps80
  go_wp2
  go_ret
  exact⟨rfl,rfl⟩
 have b8:=lit_no h8
 by_cases h9:s.data.toList=[]
 ·have e:Bd.op s.data.toList 0=0:=by rw[h9];decide
  rw[e]
  clear n0 n1 n2 n3 n4 n5 n6 n7 n8 n9 n10 n11 n12 n13 n14 h0 h1 h2 h3 h4 h5 h6 h7 h8 h9
  go_enter Tryz.func80,Tryz.ntmps80
  go_wp2
  go_ret
  exact⟨rfl,rfl⟩
 have e:Bd.op s.data.toList 0=0:=Bd.op_none (by simp[Bd.opNames,n0,n1,n2,n3,n4,n5,n6,n7,n8,n9,n10,n11,n12,n13,n14,h0,h1,h2,h3,h4,h5,h6,h7,h8,h9])
 rw[e]
 clear n0 n1 n2 n3 n4 n5 n6 n7 n8 n9 n10 n11 n12 n13 n14 h0 h1 h2 h3 h4 h5 h6 h7 h8 h9
 go_enter Tryz.func80,Tryz.ntmps80
 go_wp2
 go_ret
 exact⟨rfl,rfl⟩
theorem Bd.op_any {s:List UInt8} (h:s≠[45]) (n:Nat):Bd.op s n=Bd.op s 0:=by unfold Bd.op;simp[h]
theorem koperation (s:ByteArray) (n:Nat) (w:World):
  Calls Tryz.prog 53 #[.string s,.int .i64 (n:Int)] w fun e w'=>e=.returned (.int .i64 (Bd.op s.data.toList n))∧w'=w:=by
 by_cases h0:s.data.toList=[110,111,116]
 ·rw[Bd.op_any (by rw[h0];decide) n,h0]
  have e:Bd.op [110,111,116] 0=6:=by decide
  rw[e]
  have b0:=lit_yes h0
  clear h0
  go_enter Tryz.func53,Tryz.ntmps53
  go_wp2
  go_ret
  exact⟨rfl,rfl⟩
 have b0:=lit_no h0
 by_cases h1:s.data.toList=[97,110,100]
 ·rw[Bd.op_any (by rw[h1];decide) n,h1]
  have e:Bd.op [97,110,100] 0=7:=by decide
  rw[e]
  have b1:=lit_yes h1
  clear h0 h1
  go_enter Tryz.func53,Tryz.ntmps53
  go_wp2
  go_ret
  exact⟨rfl,rfl⟩
 have b1:=lit_no h1
 by_cases h2:s.data.toList=[111,114]
 ·rw[Bd.op_any (by rw[h2];decide) n,h2]
  have e:Bd.op [111,114] 0=8:=by decide
  rw[e]
  have b2:=lit_yes h2
  clear h0 h1 h2
  go_enter Tryz.func53,Tryz.ntmps53
  go_wp2
  go_ret
  exact⟨rfl,rfl⟩
 have b2:=lit_no h2
 by_cases h3:s.data.toList=[61,62]
 ·rw[Bd.op_any (by rw[h3];decide) n,h3]
  have e:Bd.op [61,62] 0=9:=by decide
  rw[e]
  have b3:=lit_yes h3
  clear h0 h1 h2 h3
  go_enter Tryz.func53,Tryz.ntmps53
  go_wp2
  go_ret
  exact⟨rfl,rfl⟩
 have b3:=lit_no h3
 by_cases h4:s.data.toList=[120,111,114]
 ·rw[Bd.op_any (by rw[h4];decide) n,h4]
  have e:Bd.op [120,111,114] 0=10:=by decide
  rw[e]
  have b4:=lit_yes h4
  clear h0 h1 h2 h3 h4
  go_enter Tryz.func53,Tryz.ntmps53
  go_wp2
  go_ret
  exact⟨rfl,rfl⟩
 have b4:=lit_no h4
 by_cases h5:s.data.toList=[61]
 ·rw[Bd.op_any (by rw[h5];decide) n,h5]
  have e:Bd.op [61] 0=11:=by decide
  rw[e]
  have b5:=lit_yes h5
  clear h0 h1 h2 h3 h4 h5
  go_enter Tryz.func53,Tryz.ntmps53
  go_wp2
  go_ret
  exact⟨rfl,rfl⟩
 have b5:=lit_no h5
 by_cases h6:s.data.toList=[100,105,115,116,105,110,99,116]
 ·rw[Bd.op_any (by rw[h6];decide) n,h6]
  have e:Bd.op [100,105,115,116,105,110,99,116] 0=12:=by decide
  rw[e]
  have b6:=lit_yes h6
  clear h0 h1 h2 h3 h4 h5 h6
  go_enter Tryz.func53,Tryz.ntmps53
  go_wp2
  go_ret
  exact⟨rfl,rfl⟩
 have b6:=lit_no h6
 by_cases h7:s.data.toList=[105,116,101]
 ·rw[Bd.op_any (by rw[h7];decide) n,h7]
  have e:Bd.op [105,116,101] 0=13:=by decide
  rw[e]
  have b7:=lit_yes h7
  clear h0 h1 h2 h3 h4 h5 h6 h7
  go_enter Tryz.func53,Tryz.ntmps53
  go_wp2
  go_ret
  exact⟨rfl,rfl⟩
 have b7:=lit_no h7
 by_cases h8:s.data.toList=[43]
 ·rw[Bd.op_any (by rw[h8];decide) n,h8]
  have e:Bd.op [43] 0=15:=by decide
  rw[e]
  have b8:=lit_yes h8
  clear h0 h1 h2 h3 h4 h5 h6 h7 h8
  go_enter Tryz.func53,Tryz.ntmps53
  go_wp2
  go_ret
  exact⟨rfl,rfl⟩
 have b8:=lit_no h8
 by_cases h9:s.data.toList=[45]
 ·by_cases hn:n=1
  ·subst hn
   rw[h9]
   have e:Bd.op [45] 1=14:=by decide
   rw[e]
   have b9:=lit_yes h9
   clear h0 h1 h2 h3 h4 h5 h6 h7 h8 h9
   go_enter Tryz.func53,Tryz.ntmps53
   go_wp2
   go_ret
   exact⟨rfl,rfl⟩
  ·have e:Bd.op [45] n=16:=by unfold Bd.op;rw[if_neg fun e=>hn e.2];decide
   rw[h9,e]
   have b9:=lit_yes h9
   have hn1:((n:Int) == 1)=false:=beq_eq_false_iff_ne.2 (by omega)
   clear h0 h1 h2 h3 h4 h5 h6 h7 h8 h9
   go_enter Tryz.func53,Tryz.ntmps53
   go_wp2
   go_ret
   exact⟨rfl,rfl⟩
 have b9:=lit_no h9
 by_cases h10:s.data.toList=[42]
 ·rw[Bd.op_any (by rw[h10];decide) n,h10]
  have e:Bd.op [42] 0=17:=by decide
  rw[e]
  have b10:=lit_yes h10
  clear h0 h1 h2 h3 h4 h5 h6 h7 h8 h9 h10
  go_enter Tryz.func53,Tryz.ntmps53
  go_wp2
  go_ret
  exact⟨rfl,rfl⟩
 have b10:=lit_no h10
 by_cases h11:s.data.toList=[60,61]
 ·rw[Bd.op_any (by rw[h11];decide) n,h11]
  have e:Bd.op [60,61] 0=18:=by decide
  rw[e]
  have b11:=lit_yes h11
  clear h0 h1 h2 h3 h4 h5 h6 h7 h8 h9 h10 h11
  go_enter Tryz.func53,Tryz.ntmps53
  go_wp2
  go_ret
  exact⟨rfl,rfl⟩
 have b11:=lit_no h11
 by_cases h12:s.data.toList=[60]
 ·rw[Bd.op_any (by rw[h12];decide) n,h12]
  have e:Bd.op [60] 0=19:=by decide
  rw[e]
  have b12:=lit_yes h12
  clear h0 h1 h2 h3 h4 h5 h6 h7 h8 h9 h10 h11 h12
  go_enter Tryz.func53,Tryz.ntmps53
  go_wp2
  go_ret
  exact⟨rfl,rfl⟩
 have b12:=lit_no h12
 by_cases h13:s.data.toList=[62,61]
 ·rw[Bd.op_any (by rw[h13];decide) n,h13]
  have e:Bd.op [62,61] 0=20:=by decide
  rw[e]
  have b13:=lit_yes h13
  clear h0 h1 h2 h3 h4 h5 h6 h7 h8 h9 h10 h11 h12 h13
  go_enter Tryz.func53,Tryz.ntmps53
  go_wp2
  go_ret
  exact⟨rfl,rfl⟩
 have b13:=lit_no h13
 by_cases h14:s.data.toList=[62]
 ·rw[Bd.op_any (by rw[h14];decide) n,h14]
  have e:Bd.op [62] 0=21:=by decide
  rw[e]
  have b14:=lit_yes h14
  clear h0 h1 h2 h3 h4 h5 h6 h7 h8 h9 h10 h11 h12 h13 h14
  go_enter Tryz.func53,Tryz.ntmps53
  go_wp2
  go_ret
  exact⟨rfl,rfl⟩
 have b14:=lit_no h14
 rw[Bd.op_any h9 n]
 have HT:=Lib.hid fun w=>ktextop s w ⟨h0,h1,h2,h3,h4,h5,h6,h7,h8,h9,h10,h11,h12,h13,h14⟩
 clear h0 h1 h2 h3 h4 h5 h6 h7 h8 h9 h10 h11 h12 h13 h14
 generalize Bd.op s.data.toList 0=r at HT ⊢
 go_enter Tryz.func53,Tryz.ntmps53
 go_wp2_with fail
 refine(HT.out _).mono ?_
 rintro e w1 ⟨rfl,rfl⟩
 clear HT
 go_wp2
 go_ret
 exact⟨rfl,rfl⟩
theorem hasPrefix_take (l p:List UInt8):Lib.hasPrefix l p=decide (l.take p.length=p):=by
 unfold Lib.hasPrefix
 rw[Bool.eq_iff_iff,decide_eq_true_eq,List.isPrefixOf_iff_prefix,List.prefix_iff_eq_take]
 exact⟨Eq.symm,Eq.symm⟩
theorem kreserved (s:ByteArray) (w:World):
  Calls Tryz.prog 21 #[.string s] w fun e w'=>e=.returned (.bool (Bd.reserved s.data.toList))∧w'=w:=by
 by_cases h0:s.data.toList=[116,114,117,101]
 ·rw[h0]
  have e:Bd.reserved [116,114,117,101]=true:=by decide
  rw[e]
  have b0:=lit_yes h0
  clear h0
  go_enter Tryz.func21,Tryz.ntmps21
  go_wp2
  go_ret
  exact⟨rfl,rfl⟩
 have b0:=lit_no h0
 by_cases h1:s.data.toList=[102,97,108,115,101]
 ·rw[h1]
  have e:Bd.reserved [102,97,108,115,101]=true:=by decide
  rw[e]
  have b1:=lit_yes h1
  clear h0 h1
  go_enter Tryz.func21,Tryz.ntmps21
  go_wp2
  go_ret
  exact⟨rfl,rfl⟩
 have b1:=lit_no h1
 by_cases h2:s.data.toList=[108,101,116]
 ·rw[h2]
  have e:Bd.reserved [108,101,116]=true:=by decide
  rw[e]
  have b2:=lit_yes h2
  clear h0 h1 h2
  go_enter Tryz.func21,Tryz.ntmps21
  go_wp2
  go_ret
  exact⟨rfl,rfl⟩
 have b2:=lit_no h2
 by_cases h3:s.data.toList=[102,111,114,97,108,108]
 ·rw[h3]
  have e:Bd.reserved [102,111,114,97,108,108]=true:=by decide
  rw[e]
  have b3:=lit_yes h3
  clear h0 h1 h2 h3
  go_enter Tryz.func21,Tryz.ntmps21
  go_wp2
  go_ret
  exact⟨rfl,rfl⟩
 have b3:=lit_no h3
 by_cases h4:s.data.toList=[101,120,105,115,116,115]
 ·rw[h4]
  have e:Bd.reserved [101,120,105,115,116,115]=true:=by decide
  rw[e]
  have b4:=lit_yes h4
  clear h0 h1 h2 h3 h4
  go_enter Tryz.func21,Tryz.ntmps21
  go_wp2
  go_ret
  exact⟨rfl,rfl⟩
 have b4:=lit_no h4
 by_cases h5:s.data.toList=[109,97,116,99,104]
 ·rw[h5]
  have e:Bd.reserved [109,97,116,99,104]=true:=by decide
  rw[e]
  have b5:=lit_yes h5
  clear h0 h1 h2 h3 h4 h5
  go_enter Tryz.func21,Tryz.ntmps21
  go_wp2
  go_ret
  exact⟨rfl,rfl⟩
 have b5:=lit_no h5
 by_cases h6:s.data.toList=[112,97,114]
 ·rw[h6]
  have e:Bd.reserved [112,97,114]=true:=by decide
  rw[e]
  have b6:=lit_yes h6
  clear h0 h1 h2 h3 h4 h5 h6
  go_enter Tryz.func21,Tryz.ntmps21
  go_wp2
  go_ret
  exact⟨rfl,rfl⟩
 have b6:=lit_no h6
 by_cases h7:s.data.toList=[33]
 ·rw[h7]
  have e:Bd.reserved [33]=true:=by decide
  rw[e]
  have b7:=lit_yes h7
  clear h0 h1 h2 h3 h4 h5 h6 h7
  go_enter Tryz.func21,Tryz.ntmps21
  go_wp2
  go_ret
  exact⟨rfl,rfl⟩
 have b7:=lit_no h7
 by_cases h8:s.data.toList=[95]
 ·rw[h8]
  have e:Bd.reserved [95]=true:=by decide
  rw[e]
  have b8:=lit_yes h8
  clear h0 h1 h2 h3 h4 h5 h6 h7 h8
  go_enter Tryz.func21,Tryz.ntmps21
  go_wp2
  go_ret
  exact⟨rfl,rfl⟩
 have b8:=lit_no h8
 by_cases h9:s.data.toList=[97,115]
 ·rw[h9]
  have e:Bd.reserved [97,115]=true:=by decide
  rw[e]
  have b9:=lit_yes h9
  clear h0 h1 h2 h3 h4 h5 h6 h7 h8 h9
  go_enter Tryz.func21,Tryz.ntmps21
  go_wp2
  go_ret
  exact⟨rfl,rfl⟩
 have b9:=lit_no h9
 by_cases h10:s.data.toList=[100,105,118]
 ·rw[h10]
  have e:Bd.reserved [100,105,118]=true:=by decide
  rw[e]
  have b10:=lit_yes h10
  clear h0 h1 h2 h3 h4 h5 h6 h7 h8 h9 h10
  go_enter Tryz.func21,Tryz.ntmps21
  go_wp2
  go_ret
  exact⟨rfl,rfl⟩
 have b10:=lit_no h10
 by_cases h11:s.data.toList=[109,111,100]
 ·rw[h11]
  have e:Bd.reserved [109,111,100]=true:=by decide
  rw[e]
  have b11:=lit_yes h11
  clear h0 h1 h2 h3 h4 h5 h6 h7 h8 h9 h10 h11
  go_enter Tryz.func21,Tryz.ntmps21
  go_wp2
  go_ret
  exact⟨rfl,rfl⟩
 have b11:=lit_no h11
 by_cases h12:s.data.toList=[97,98,115]
 ·rw[h12]
  have e:Bd.reserved [97,98,115]=true:=by decide
  rw[e]
  have b12:=lit_yes h12
  clear h0 h1 h2 h3 h4 h5 h6 h7 h8 h9 h10 h11 h12
  go_enter Tryz.func21,Tryz.ntmps21
  go_wp2
  go_ret
  exact⟨rfl,rfl⟩
 have b12:=lit_no h12
 have e:Bd.reserved s.data.toList=(decide (Bd.op s.data.toList 0≠0)||Lib.hasPrefix s.data.toList [115,116,114,46]||Lib.hasPrefix s.data.toList [114,101,46]):=by
  rw[hasPrefix_take,hasPrefix_take]
  unfold Bd.reserved
  rw[show Bd.resNames.contains s.data.toList=false by simp[Bd.resNames,h0,h1,h2,h3,h4,h5,h6,h7,h8,h9,h10,h11,h12],Bd.op_zero,Bool.false_or]
  generalize decide (Bd.op s.data.toList 2≠0)=x
  show(decide (List.take 4 s.data.toList=[115,116,114,46])||decide (List.take 3 s.data.toList=[114,101,46])||x)=(x||decide (List.take 4 s.data.toList=[115,116,114,46])||decide (List.take 3 s.data.toList=[114,101,46]))
  generalize decide (List.take 4 s.data.toList=[115,116,114,46])=y
  generalize decide (List.take 3 s.data.toList=[114,101,46])=z
  cases x <;> cases y <;> cases z <;> rfl
 rw[e]
 have HO:=Lib.hid fun w=>koperation s 0 w
 have H1:=Lib.hid fun w=>Tryz.strings_HasPrefix s ⟨#[115,116,114,46]⟩ w
 have H2:=Lib.hid fun w=>Tryz.strings_HasPrefix s ⟨#[114,101,46]⟩ w
 clear e h0 h1 h2 h3 h4 h5 h6 h7 h8 h9 h10 h11 h12
 obtain⟨o,ho⟩:∃ o,Bd.op s.data.toList 0=o:=⟨_,rfl⟩
 obtain⟨p,hp⟩:∃ p,Lib.hasPrefix s.data.toList [115,116,114,46]=p:=⟨_,rfl⟩
 obtain⟨q,hq⟩:∃ q,Lib.hasPrefix s.data.toList [114,101,46]=q:=⟨_,rfl⟩
 rw[show((⟨#[115,116,114,46]⟩:ByteArray).data.toList)=[115,116,114,46] from rfl,hp] at H1
 rw[show((⟨#[114,101,46]⟩:ByteArray).data.toList)=[114,101,46] from rfl,hq] at H2
 rw[ho] at HO
 rw[ho,hp,hq]
 clear ho hp hq
 by_cases h0:o=0
 ·subst h0
  cases p with
  |true=>
   go_enter Tryz.func21,Tryz.ntmps21
   go_wp2_with (go_at_call 53;refine(HO.out _).mono ?_;rintro e w1 ⟨rfl,rfl⟩)
   refine(H1.out _).mono ?_
   rintro e w1 ⟨rfl,rfl⟩
   go_wp2
   go_ret
   exact⟨rfl,rfl⟩
  |false=>
   go_enter Tryz.func21,Tryz.ntmps21
   go_wp2_with (go_at_call 53;refine(HO.out _).mono ?_;rintro e w1 ⟨rfl,rfl⟩)
   refine(H1.out _).mono ?_
   rintro e w1 ⟨rfl,rfl⟩
   go_wp2_with fail
   refine(H2.out _).mono ?_
   rintro e w1 ⟨rfl,rfl⟩
   go_wp2
   go_ret
   exact⟨by simp,rfl⟩
 ·have hb:(o != 0)=true:=by simp[h0]
  go_enter Tryz.func21,Tryz.ntmps21
  go_wp2_with (go_at_call 53;refine(HO.out _).mono ?_;rintro e w1 ⟨rfl,rfl⟩)
  go_ret
  exact⟨by simp[h0],rfl⟩
end Go.Proofs.YtcgaeknikfaghaaGreatDoor
namespace Go.Proofs.YtcgaeknikfaghaaGreatDoor
open Go.RowKit
theorem cut_bytes (s:ByteArray) (a b:Nat) (hb:b≤s.size) (ha:a≤b):(s.extract a b).data.toList=(s.data.toList.drop a).take (b-a)∧(s.extract a b).size=b-a:=by
 have hsz:(s.extract a b).size=b-a:=by rw[ByteArray.size_extract];omega
 refine⟨?_,hsz⟩
 rw[ByteArray.data_extract,Array.toList_extract]
theorem slice_to (s:ByteArray) (p:Nat) (hp:p≤s.size) (w:World):(Instr.slice 9 (.string s) none (some (.int .i64 (p:Int))) none).run Tryz.prog w=.ok (.string (s.extract 0 p)) w:=by
 rw[run_slice_string_to_if _ _ _ _ _ Tryz.underlying9,if_pos (by omega)]
 rfl
theorem slice_from (s:ByteArray) (p:Nat) (hp:p≤s.size) (w:World):(Instr.slice 9 (.string s) (some (.int .i64 (p:Int))) none none).run Tryz.prog w=.ok (.string (s.extract p s.size)) w:=by
 rw[run_slice_string_from_if _ _ _ _ _ Tryz.underlying9,if_pos (by omega)]
 rfl
abbrev Lx.nopt (c:UInt8):Bool:=!decide (c.toNat=46)
theorem Lx.number_eq (S:List UInt8) (p:Nat) (hp:p=(S.takeWhile Lx.nopt).length):
  p≤S.length∧Lx.number S=if !Lx.digits (S.take p)||(decide (1<p)&&decide ((S.headD 0).toNat=48)) then 0 else if p=S.length then 4 else if Lx.digits (S.drop (p+1)) then 5 else 0:=by
 have h:=Lx.take_drop Lx.nopt S
 have ht:S.take p=S.takeWhile Lx.nopt:=by
  have:S.take p=(S.takeWhile Lx.nopt++S.dropWhile Lx.nopt).take p:=by rw[h]
  rw[this,hp,List.take_left]
 have hd:S.drop p=S.dropWhile Lx.nopt:=by
  have:S.drop p=(S.takeWhile Lx.nopt++S.dropWhile Lx.nopt).drop p:=by rw[h]
  rw[this,hp,List.drop_left]
 have hl:p+(S.dropWhile Lx.nopt).length=S.length:=by
  have:=congrArg List.length h
  rw[List.length_append] at this
  omega
 refine⟨by omega,?_⟩
 unfold Lx.number
 dsimp only
 rw[ht,hp]
 split
 ·rfl
 ·cases hq:S.dropWhile Lx.nopt with
  |nil=>
   rw[hq,List.length_nil] at hl
   rw[if_pos (by omega)]
  |cons c t=>
   rw[hq,List.length_cons] at hl
   rw[if_neg (by omega)]
   have:S.drop ((S.takeWhile Lx.nopt).length+1)=t:=by
    rw[←hp,←List.drop_drop,hd,hq]
    rfl
   rw[this]
theorem rnumber (s:ByteArray) (w:World) (hs:s.size≤maxLen):
  Calls Tryz.prog 156 #[.string s] w fun e w'=>e=.returned (.int .i64 (Lx.number s.data.toList))∧w'=w:=by
 unfold maxLen at hs
 have hlen:s.data.toList.length=s.size:=by rw[Array.length_toList];rfl
 obtain⟨P,HP⟩:∃ P,P=(s.data.toList.takeWhile Lx.nopt).length:=⟨_,rfl⟩
 obtain⟨hPn,HE⟩:=Lx.number_eq s.data.toList P HP
 rw[hlen] at hPn HE
 obtain⟨c1,c2⟩:=cut_bytes s 0 P hPn (Nat.zero_le _)
 rw[List.drop_zero,Nat.sub_zero] at c1
 have HW:=Lib.hid (rdigits (s.extract 0 P) w (by rw[c2];unfold maxLen;omega))
 obtain⟨wh,hwh⟩:∃ b,Lx.digits (s.data.toList.take P)=b:=⟨_,rfl⟩
 rw[c1,hwh] at HW
 rw[hwh] at HE
 have HQ:wh=true→0<P:=fun e=>by
  rw[←hwh,Lx.digits] at e
  rcases Nat.eq_zero_or_pos P with h|h
  ·rw[h] at e
   simp at e
  ·exact h
 obtain⟨X,HX⟩:∃ X,Lx.number s.data.toList=X:=⟨_,rfl⟩
 rw[HX] at HE ⊢
 replace HE:=Lib.hid HE
 replace HP:=Lib.hid HP
 replace HQ:=Lib.hid HQ
 have HH:Hid (∀ h:0<s.size,(s.data.toList.headD 0).toNat=s[0].toNat):=fun h=>by
  have:=drop_at s h
  rw[List.drop_zero] at this
  rw[this]
  rfl
 have HLEN:=Lib.hid hlen
 clear c1 c2 hwh HX hlen hPn
 go_enter Tryz.func156,Tryz.ntmps156
 go_wp2
 go_loopw [3,4] (fun pv iv wr=>∃ (i p:Nat) (j:Int),i≤s.size∧j+1=(i:Int)∧p≤s.size∧iv=.int .i64 j∧pv=.int .i64 (p:Nat)∧wr=w∧Hid (p=i+((s.data.toList.drop i).takeWhile Lx.nopt).length)) (fun _ iv _=>(intOf iv+1).toNat)
 case atStart=>exact⟨s.size,s.size,(s.size:Int)-1,Nat.le_refl _,by omega,Nat.le_refl _,by first|rfl|go_num,rfl,rfl,(by show _=_;rw[drop_end];rfl)⟩
 case round=>
  obtain⟨i,p,j,hi,hj,hp,rfl,rfl,rfl,HI⟩:=hrel
  by_cases hlt:0≤j
  ·obtain⟨k,rfl⟩:∃ k:Nat,j=(k:Int):=⟨j.toNat,by omega⟩
   obtain rfl:i=k+1:=by omega
   have hk:k<s.size:=by omega
   clear hj
   by_cases h46:s[k].toNat=46
   ·have hb:((s[k].toNat:Int) == 46)=true:=beq_iff_eq.2 (by omega)
    have HI2:Hid (k=k+((s.data.toList.drop k).takeWhile Lx.nopt).length):=by
     show _=_
     rw[drop_at s hk,List.takeWhile_cons]
     simp[Lx.nopt,h46]
    clear HI h46 HE HW HP HQ HH
    go_wp2
    go_roundw
    case rel=>exact⟨k,k,(k:Int)-1,by omega,by omega,by omega,by go_num,rfl,by trivial,HI2⟩
    case measure=>simp[intOf]
   ·have hb:((s[k].toNat:Int) == 46)=false:=beq_eq_false_iff_ne.2 (by omega)
    have HI2:Hid (p=k+((s.data.toList.drop k).takeWhile Lx.nopt).length):=by
     show _=_
     rw[drop_at s hk,List.takeWhile_cons,HI.out]
     simp[Lx.nopt,h46]
     omega
    clear HI h46 HE HW HP HQ HH
    go_wp2
    go_roundw
    case rel=>exact⟨k,p,(k:Int)-1,by omega,by omega,by omega,by go_num,rfl,by trivial,HI2⟩
    case measure=>simp[intOf]
  ·obtain rfl:i=0:=by omega
   obtain rfl:p=P:=by
    have:=HI.out
    rw[List.drop_zero,←HP.out] at this
    omega
   clear HI HP
   have hj1:j<0:=by omega
   clear hj hlt
   have hsl:=slice_to s p hp
   cases wh with
   |false=>
    obtain rfl:X=0:=by simpa using HE.out
    clear HE HQ HH
    go_wp2_with (go_at_call 184;refine HW.out.mono ?_;rintro e w1 ⟨rfl,rfl⟩)
    go_ret
    exact⟨rfl,by trivial⟩
   |true=>
    have hp0:0<p:=HQ.out rfl
    have hn0:0<s.size:=by omega
    by_cases h48:1<p∧s[0].toNat=48
    ·have a1:(1:Int)<(p:Int):=by omega
     have a2:((s[0].toNat:Int) == 48)=true:=beq_iff_eq.2 (by omega)
     obtain rfl:X=0:=by
      have:=HE.out
      rw[HH.out hn0] at this
      simpa [h48] using this
     clear HE HQ HH h48
     go_wp2_with (go_at_call 184;refine HW.out.mono ?_;rintro e w1 ⟨rfl,rfl⟩)
     go_ret
     exact⟨rfl,by trivial⟩
    have HE2:Hid (X=if p=s.size then 4 else if Lx.digits (s.data.toList.drop (p+1)) then 5 else 0):=by
     show _=_
     rw[HE.out,HH.out hn0,if_neg]
     rw[Bool.not_true,Bool.false_or,Bool.and_eq_true,decide_eq_true_eq,decide_eq_true_eq]
     exact h48
    have a48:((s[0].toNat:Int) == 48)=false∨((s[0].toNat:Int) == 48)=true∧¬(1:Int)<(p:Int):=by
     by_cases h:s[0].toNat=48
     ·exact .inr ⟨beq_iff_eq.2 (by omega),by omega⟩
     ·exact .inl (beq_eq_false_iff_ne.2 (by omega))
    clear HE HQ HH h48
    by_cases hpn:p=s.size
    ·obtain rfl:X=4:=by rw[HE2.out,if_pos hpn]
     clear HE2
     subst hpn
     rw[show s.extract 0 s.size=s by simp] at HW hsl
     rcases a48 with a|⟨a,a'⟩
     all_goals
      go_wp2_with (go_at_call 184;refine HW.out.mono ?_;rintro e w1 ⟨rfl,rfl⟩)
     all_goals
      go_ret
      exact⟨rfl,by trivial⟩
    ·have b1:((p:Int) == (s.size:Int))=false:=beq_eq_false_iff_ne.2 (by omega)
     obtain⟨d1,d2⟩:=cut_bytes s (p+1) s.size (Nat.le_refl _) (by omega)
     rw[List.take_of_length_le (by rw[List.length_drop,HLEN.out];exact Nat.le_refl _)] at d1
     have hsm:=slice_from s (p+1) (by omega)
     have HZ:=Lib.hid (rdigits (s.extract (p+1) s.size) wr (by rw[d2];unfold maxLen;omega))
     obtain⟨z,hz⟩:∃ b,Lx.digits (s.data.toList.drop (p+1))=b:=⟨_,rfl⟩
     rw[d1,hz] at HZ
     have hX:X=if z then 5 else 0:=by rw[HE2.out,if_neg hpn,hz]
     clear HE2 d1 d2 hz
     rcases a48 with a|⟨a,a'⟩ <;> cases z <;> simp at hX <;> subst hX
     all_goals
      go_wp2_with (first|(go_at_call 184;(with_reducible refine HW.out.mono ?_);rintro e w1 ⟨rfl,rfl⟩)|(go_at_call 184;(with_reducible refine HZ.out.mono ?_);rintro e w1 ⟨rfl,rfl⟩))
     all_goals
      go_ret
      exact⟨rfl,by trivial⟩
end Go.Proofs.YtcgaeknikfaghaaGreatDoor
namespace Go.Proofs.YtcgaeknikfaghaaGreatDoor
open Go.RowKit
theorem Lx.ways (c:UInt8):
  (Lx.digit c=true∧Lx.hex c=true∧Lx.bit c=true∧((c.toNat:Int) == 48)=true)∨
  (Lx.digit c=true∧Lx.hex c=true∧Lx.bit c=true∧((c.toNat:Int) == 48)=false∧((c.toNat:Int) == 49)=true)∨
  (Lx.digit c=true∧Lx.hex c=true∧Lx.bit c=false∧((c.toNat:Int) == 48)=false∧((c.toNat:Int) == 49)=false)∨
  (Lx.digit c=false∧Lx.hex c=true∧Lx.bit c=false∧((c.toNat:Int) == 48)=false∧((c.toNat:Int) == 49)=false∧decide (97≤(c.toNat:Int))=true∧decide ((c.toNat:Int)≤102)=true)∨
  (Lx.digit c=false∧Lx.hex c=true∧Lx.bit c=false∧((c.toNat:Int) == 48)=false∧((c.toNat:Int) == 49)=false∧decide (97≤(c.toNat:Int))=false∧decide (65≤(c.toNat:Int))=true∧decide ((c.toNat:Int)≤70)=true)∨
  (Lx.digit c=false∧Lx.hex c=false∧Lx.bit c=false∧((c.toNat:Int) == 48)=false∧((c.toNat:Int) == 49)=false∧decide (97≤(c.toNat:Int))=true∧decide ((c.toNat:Int)≤102)=false∧decide (65≤(c.toNat:Int))=true∧decide ((c.toNat:Int)≤70)=false)∨
  (Lx.digit c=false∧Lx.hex c=false∧Lx.bit c=false∧((c.toNat:Int) == 48)=false∧((c.toNat:Int) == 49)=false∧decide (97≤(c.toNat:Int))=false∧decide (65≤(c.toNat:Int))=true∧decide ((c.toNat:Int)≤70)=false)∨
  (Lx.digit c=false∧Lx.hex c=false∧Lx.bit c=false∧((c.toNat:Int) == 48)=false∧((c.toNat:Int) == 49)=false∧decide (97≤(c.toNat:Int))=false∧decide (65≤(c.toNat:Int))=false):=by
 have b48:∀ n:Int,(c.toNat:Int)≠n→((c.toNat:Int) == n)=false:=fun n h=>beq_eq_false_iff_ne.2 h
 by_cases h48:c.toNat=48
 ·exact .inl ⟨by simp[Lx.digit,h48],by simp[Lx.hex,Lx.digit,h48],by simp[Lx.bit,h48],beq_iff_eq.2 (by omega)⟩
 refine .inr ?_
 have q:=b48 48 (by omega)
 by_cases h49:c.toNat=49
 ·exact .inl ⟨by simp[Lx.digit,h49],by simp[Lx.hex,Lx.digit,h49],by simp[Lx.bit,h49],q,beq_iff_eq.2 (by omega)⟩
 refine .inr ?_
 have q1:=b48 49 (by omega)
 have hbit:Lx.bit c=false:=by simp[Lx.bit,h48,h49]
 by_cases hd:Lx.digit c=true
 ·exact .inl ⟨hd,by simp[Lx.hex,hd],hbit,q,q1⟩
 refine .inr ?_
 have hd:=Bool.eq_false_iff.2 hd
 by_cases h1:97≤c.toNat∧c.toNat≤102
 ·exact .inl ⟨hd,by simp[Lx.hex,h1],hbit,q,q1,decide_eq_true (by omega),decide_eq_true (by omega)⟩
 refine .inr ?_
 by_cases h2:65≤c.toNat∧c.toNat≤70
 ·exact .inl ⟨hd,by simp[Lx.hex,h2],hbit,q,q1,decide_eq_false (by omega),decide_eq_true (by omega),decide_eq_true (by omega)⟩
 refine .inr ?_
 have hh:Lx.hex c=false:=by
  rw[Lx.hex,hd,Bool.false_or,Bool.or_eq_false_iff,Bool.and_eq_false_iff,Bool.and_eq_false_iff]
  simp only[decide_eq_false_iff_not]
  omega
 by_cases h3:97≤c.toNat
 ·exact .inl ⟨hd,hh,hbit,q,q1,decide_eq_true (by omega),decide_eq_false (by omega),decide_eq_true (by omega),decide_eq_false (by omega)⟩
 refine .inr ?_
 by_cases h4:65≤c.toNat
 ·exact .inl ⟨hd,hh,hbit,q,q1,decide_eq_false (by omega),decide_eq_true (by omega),decide_eq_false (by omega)⟩
 ·exact .inr ⟨hd,hh,hbit,q,q1,decide_eq_false (by omega),decide_eq_false (by omega)⟩
theorem Lx.other_eq (a d:UInt8) (y:List UInt8):Lx.other (a::d::y)=((decide (d.toNat=120)||decide (d.toNat=98))&&!y.isEmpty&&y.all fun c=>Lx.hex c&&(!decide (d.toNat=98)||Lx.bit c)):=rfl
theorem rother (s:ByteArray) (w:World) (hs:s.size≤maxLen):
  Calls Tryz.prog 158 #[.string s] w fun e w'=>e=.returned (.bool (Lx.other s.data.toList))∧w'=w:=by
 unfold maxLen at hs
 have hlen:s.data.toList.length=s.size:=by rw[Array.length_toList];rfl
 by_cases h3:s.size<3
 ·have e:Lx.other s.data.toList=false:=by
   generalize s.data.toList=S at hlen ⊢
   match S,hlen with
   |[],_=>rfl
   |[_],_=>rfl
   |[_,_],_=>simp[Lx.other]
   |_::_::_::_,h=>simp at h;omega
  rw[e]
  have h3':(s.size:Int)<3:=by omega
  clear hlen e
  go_enter Tryz.func158,Tryz.ntmps158
  go_wp2
  go_ret
  exact⟨rfl,rfl⟩
 have h1:1<s.size:=by omega
 have h3':¬(s.size:Int)<3:=by omega
 have e0:=drop_at s (i:=0) (by omega)
 have e1:=drop_at s (i:=1) h1
 rw[List.drop_zero] at e0
 have hne:(s.data.toList.drop 2).isEmpty=false:=by
  rw[List.isEmpty_eq_false_iff]
  intro h
  have:=congrArg List.length h
  rw[List.length_drop] at this
  simp at this
  omega
 rw[show(0:Nat)+1=1 from rfl,e1,show(1:Nat)+1=2 from rfl] at e0
 rw[e0,Lx.other_eq,hne]
 clear e0 e1 hne hlen
 by_cases hx:s[1].toNat=120∨s[1].toNat=98
 ·obtain⟨isb,hisb⟩:∃ b,decide (s[1].toNat=98)=b:=⟨_,rfl⟩
  have hd:(decide (s[1].toNat=120)||isb)=true:=by rw[←hisb];simpa using hx
  rw[hisb,hd]
  obtain⟨P,HPd⟩:∃ P,P=fun c=>Lx.hex c&&(!isb||Lx.bit c):=⟨_,rfl⟩
  have HPe:Hid (∀ c,P c=(Lx.hex c&&(!isb||Lx.bit c))):=fun c=>by rw[HPd]
  obtain⟨X,HX⟩:∃ X,Hid ((s.data.toList.drop 2).all P=X):=⟨_,rfl⟩
  rw[←HPd,HX.out]
  simp only[Bool.not_false,Bool.and_true,Bool.true_and]
  have a1:((s[1].toNat:Int) == 120)=!isb:=by
   rw[←hisb]
   by_cases h:s[1].toNat=98
   ·rw[decide_eq_true h];exact beq_eq_false_iff_ne.2 (by omega)
   ·rw[decide_eq_false h];exact beq_iff_eq.2 (by omega)
  have a2:((s[1].toNat:Int) == 98)=isb:=by
   rw[←hisb]
   by_cases h:s[1].toNat=98
   ·rw[decide_eq_true h];exact beq_iff_eq.2 (by omega)
   ·rw[decide_eq_false h];exact beq_eq_false_iff_ne.2 (by omega)
  clear hx hd hisb HPd
  cases isb
  all_goals
   simp only[Bool.not_false,Bool.not_true] at a1
   have a3:((s[1].toNat:Int) != 120)=!((s[1].toNat:Int) == 120):=rfl
   have a4:((s[1].toNat:Int) != 98)=!((s[1].toNat:Int) == 98):=rfl
   rw[a1] at a3
   rw[a2] at a4
   simp only[Bool.not_false,Bool.not_true] at a3 a4
   go_enter Tryz.func158,Tryz.ntmps158
   go_wp2
   go_loopw [3] (fun iv wr=>∃ i:Nat,2≤i∧i≤s.size∧iv=.int .i64 (i:Nat)∧wr=w∧Hid ((s.data.toList.drop i).all P=X)) (fun iv _=>s.size-(intOf iv).toNat)
   case atStart=>exact⟨2,by omega,by omega,rfl,rfl,HX⟩
   case round=>
    clear HX
    obtain⟨i,h2i,hi,rfl,rfl,HI⟩:=hrel
    by_cases hlt:i<s.size
    ·have HG:=Lib.hid (rdigit s[i] wr)
     have HK:=HI.out
     rw[drop_at s hlt,List.all_cons,HPe.out] at HK
     have hlt':(i:Int)<(s.size:Int):=by omega
     clear HI
     rcases Lx.ways s[i] with⟨w1,w2,w3,q⟩|⟨w1,w2,w3,q,q1⟩|⟨w1,w2,w3,q,q1⟩|⟨w1,w2,w3,q,q1,q2,q3⟩|⟨w1,w2,w3,q,q1,q2,q3,q4⟩|⟨w1,w2,w3,q,q1,q2,q3,q4,q5⟩|⟨w1,w2,w3,q,q1,q2,q3,q4⟩|⟨w1,w2,w3,q,q1,q2,q3⟩
     all_goals
      rw[w1] at HG
      rw[w2,w3] at HK
      clear w1 w2 w3
      simp only[Bool.not_false,Bool.not_true,Bool.or_true,Bool.or_false,Bool.and_true,Bool.and_false,Bool.true_and,Bool.false_and] at HK
      have HK:=Lib.hid HK
      rename_i HKold
      clear HKold
      go_wp2_with (go_at_call 155;refine HG.out.mono ?_;rintro e w1 ⟨rfl,rfl⟩)
      first
      |(
       go_roundw
       case rel=>exact⟨i+1,by omega,by omega,by go_num,by trivial,HK⟩
       case measure=>simp[intOf];omega)
      |(
       go_ret
       exact⟨ret_b HK.out,by trivial⟩)
    ·obtain rfl:i=s.size:=by omega
     have hX:X=true:=by have:=HI.out;rw[drop_end] at this;exact this.symm
     subst hX
     clear HI
     go_wp2
     go_ret
     exact⟨rfl,by trivial⟩
 ·have a1:((s[1].toNat:Int) == 120)=false:=beq_eq_false_iff_ne.2 (by omega)
  have a2:((s[1].toNat:Int) == 98)=false:=beq_eq_false_iff_ne.2 (by omega)
  have e:(decide (s[1].toNat=120)||decide (s[1].toNat=98))=false:=by simpa using hx
  rw[e]
  simp only[Bool.false_and]
  have a3:((s[1].toNat:Int) != 120)=true:=by rw[bne,a1];rfl
  have a4:((s[1].toNat:Int) != 98)=true:=by rw[bne,a2];rfl
  clear e hx
  go_enter Tryz.func158,Tryz.ntmps158
  go_wp2
  go_ret
  exact⟨rfl,rfl⟩
end Go.Proofs.YtcgaeknikfaghaaGreatDoor
namespace Go.Proofs.YtcgaeknikfaghaaGreatDoor
open Go.RowKit
abbrev u8s (l:List UInt8):List Value:=l.map fun c=> .int .u8 (c.toNat:Int)
theorem infoY:(Tryz.prog.info? 5).map (fun i=>(i.zero,i.size,i.bytes))=some (some (.int .u8 0),1,1):=by kernel_rfl
def OwnY (w:World) (B:Nat) (A:Option Addr) (c:Nat) (l:List UInt8):Prop:=w.ownsRow B 5 1 (.slice A l.length c) l.length (u8s l)
theorem OwnY.nil (w:World) (B:Nat):OwnY w B none 0 []:=World.ownsRow_nil _ _ _ _
theorem appendY (w:World) {ops:Array Oper} {rest:List Oper} {o:Oper} {a:Act} {Q:Exit→Act→World→Prop} (hgd:o.guard=none) (s x:Operand)
  (ho:o.op=.call { callee:=.builtin .append,args:=#[s,x],argTypes:=#[109,109] }) (B:Nat) (A:Option Addr) (c:Nat) (l:List UInt8) (n:Nat) (hn:l.length=n) (d:UInt8) (z:Int) (hz:z=(d.toNat:Int))
  (hs:a.eval s=.slice A n c) (hown:OwnY w B A c l) (hx:a.eval x=.slice (some ⟨w.heap.size,0,none⟩) 1 1) (hl:n≤1000000000) (hB:B≤w.heap.size)
  (h:∀ A' c' w',OwnY w' B A' c' (l++[d])→w.grownBy w' (Value.slice A n c).ownBlock→wpList Tryz.prog ops Q rest (a.put o.dst (.slice A' (n+1) c')) w'):
  wpList Tryz.prog ops Q (o::rest) a (w.alloc (.cells #[.int .u8 z] 5)):=by
 subst hn
 subst hz
 obtain⟨i0,hi,hz0,hz1,hz2⟩:=info_parts infoY
 refine append_row _ hgd s x 109 ho B 5 i0 (.int .u8 0) 1 Tryz.underlying109 hi hz0 hz1 hz2 rfl _ l.length (u8s l) hs (World.ownsRow.alloc hown _) ⟨w.heap.size,0,none⟩ 1 1 [.int .u8 (d.toNat:Int)] hx rfl (cell_one_new _ _ _) (fun u hu=>by simp at hu;subst hu;rfl) (by unfold maxLen;omega) (by omega) (by simp;omega) ?_
 intro A' c' w' o' g' _
 refine h A' c' w' ?_ ?_
 ·unfold OwnY
  have e:u8s l++[.int .u8 (d.toNat:Int)]=u8s (l++[d]):=by simp
  rw[e] at o'
  rw[List.length_append]
  exact o'
 ·refine⟨g'.os,g'.tape,g'.output,Nat.le_trans (by simp) g'.size,fun k hk hne=>(g'.block k (by simp;omega) hne).trans (Below.heap_alloc w _ k hk)⟩
theorem convY {w:World} {B:Nat} {A:Option Addr} {c:Nat} {l:List UInt8} (n:Nat) (hn:l.length=n) (h:OwnY w B A c l):
  (convert 109 9 (.slice A n c)).run Tryz.prog w=.ok (.string ⟨l.toArray⟩) w:=by
 subst hn
 rcases h.2 with⟨e,h0⟩|⟨g,cap,cur,e,_⟩
 ·injection e with e1 e2 e3
  subst e1
  subst e3
  obtain rfl:l=[]:=List.eq_nil_of_length_eq_zero h0
  rw[run_convert_bytes_string w 109 9 5 _ _ _ Tryz.underlying109 Tryz.underlying5 Tryz.underlying9]
  rfl
 ·injection e with e1 e2 e3
  subst e1
  exact run_convert_bytes_back w 109 9 5 ⟨g,0,none⟩ c l Tryz.underlying109 Tryz.underlying5 Tryz.underlying9 fun j hj=>by
   have:=h.cells (g:=g) rfl j (.int .u8 (l[j].toNat:Int)) (by rw[List.getElem?_map,List.getElem?_eq_getElem hj];rfl)
   exact this
theorem Lx.quo_plain {q c:UInt8} (t:List UInt8) (hg:Lx.good c=true) (hc:c≠q):Lx.quo q (c::t)=(c::(Lx.quo q t).1,(Lx.quo q t).2):=by
 cases t with
 |nil=>simp[Lx.quo,hg,hc]
 |cons d t=>rw[Lx.quo,if_pos hg,if_neg hc]
theorem Lx.quo_bad {q c:UInt8} (t:List UInt8) (hg:Lx.good c=false):Lx.quo q (c::t)=([],50,c::t):=by
 cases t <;> simp[Lx.quo,hg]
theorem Lx.quo_last {q:UInt8} (t:List UInt8) (hg:Lx.good q=true) (h:¬(q.toNat=34∧∃ u,t=q::u)):Lx.quo q (q::t)=([],0,t):=by
 cases t with
 |nil=>simp[Lx.quo,hg]
 |cons d t=>rw[Lx.quo,if_pos hg,if_pos rfl,if_neg (fun e=>h ⟨e.1,t,by rw[e.2]⟩)]
theorem Lx.quo_twice {q:UInt8} (t:List UInt8) (hg:Lx.good q=true) (h:q.toNat=34):Lx.quo q (q::q::t)=(q::(Lx.quo q t).1,(Lx.quo q t).2):=by
 rw[Lx.quo,if_pos hg,if_pos rfl,if_pos ⟨h,rfl⟩]
structure QSaid (s:ByteArray) (a:Nat) (x:List UInt8×Int×List UInt8) (w:World) (e:Ending) (w':World):Prop where
 below:Below w.heap.size w w'
 ok:x.2.1=0→∃ k:Nat,e=.returned (.tuple #[.string ⟨x.1.toArray⟩,.int .i64 (k:Nat),.int .i64 0,.int .i64 0])∧a<k∧k≤s.size∧s.data.toList.drop k=x.2.2
 bad:x.2.1=50→∃ k:Nat,e=.returned (.tuple #[.string ⟨#[]⟩,.int .i64 0,.int .i64 50,.int .i64 (k:Nat)])∧a<k∧k<s.size∧s.data.toList.drop k=x.2.2
 open_:x.2.1=51→e=.returned (.tuple #[.string ⟨#[]⟩,.int .i64 0,.int .i64 51,.int .i64 (a:Nat)])
theorem rquoted (s:ByteArray) (a:Nat) (w:World) (hs:s.size≤1000000) (ha:a<s.size) (hq:s[a].toNat=34∨s[a].toNat=124):
  Calls Tryz.prog 154 #[.string s,.int .i64 (a:Nat)] w (QSaid s a (Lx.quo s[a] (s.data.toList.drop (a+1))) w):=by
 obtain⟨q,hqd⟩:∃ q,q=s[a]:=⟨_,rfl⟩
 rw[←hqd] at hq ⊢
 have hqg:Lx.good q=true:=by
  rcases hq with h|h <;> simp[Lx.good,Lx.blank,h]
 have HQG:=Lib.hid hqg
 obtain⟨X,HX⟩:∃ X,Hid (Lx.quo q (s.data.toList.drop (a+1))=X):=⟨_,rfl⟩
 rw[HX.out]
 have haq:∀ h,s[a]'h=q:=fun _=>hqd.symm
 clear hqd hqg
 go_enter Tryz.func154,Tryz.ntmps154
 go_wp2
 go_loopw [8,9] (fun ov iv wr=>∃ (i:Nat) (A:Option Addr) (c m:Nat) (l:List UInt8),a<i∧i≤s.size∧m≤i∧iv=.int .i64 (i:Nat)∧ov=.slice A m c∧Below w.heap.size w wr∧Hid (OwnY wr w.heap.size A c l∧l.length=m∧X=(l++(Lx.quo q (s.data.toList.drop i)).1,(Lx.quo q (s.data.toList.drop i)).2))) (fun _ iv _=>s.size-(intOf iv).toNat)
 case atStart=>exact⟨a+1,none,0,0,[],by omega,by omega,by omega,by go_num,rfl,by first|exact Below.refl _ _|assumption,⟨OwnY.nil _ _,rfl,by rw[HX.out];rfl⟩⟩
 case round=>
  clear HX
  obtain⟨i,A,c,m,l,hai,hi,hmi,rfl,rfl,hb,HI⟩:=hrel
  by_cases hlt:i<s.size
  ·have HD:=drop_at s hlt
   have HG:=Lib.hid (rgood s[i] wr)
   obtain⟨g,hg'⟩:∃ g,Lx.good s[i]=g:=⟨_,rfl⟩
   rw[hg'] at HG
   have hlt':(i:Int)<(s.size:Int):=by omega
   have hal':(a:Int)<(s.size:Int):=by omega
   obtain⟨ho,hlm,hX⟩:=HI.out
   rw[HD] at hX
   cases g with
   |false=>
    rw[Lx.quo_bad _ hg'] at hX
    have HE:Hid (X.2.1=50∧s.data.toList.drop i=X.2.2):=by
     show _∧_
     rw[hX,HD]
     exact⟨rfl,rfl⟩
    clear hX HD HI ho hlm hg'
    go_wp2_with (go_at_call 127;refine HG.out.mono ?_;rintro e w1 ⟨rfl,rfl⟩)
    exact bodyPost_ret (v:=.tuple #[.string ⟨#[]⟩,.int .i64 0,.int .i64 50,.int .i64 (i:Nat)]) (by simp[results,Tryz.results154,go_sem]) rfl ⟨hb,fun h=>(by rw[HE.out.1] at h;cases h),fun _=>⟨i,rfl,hai,hlt,HE.out.2⟩,fun h=>(by rw[HE.out.1] at h;cases h)⟩
   |true=>
    have HOn:Hid (∀ k,OwnY (wr.drewN k) w.heap.size A c l):=fun k=>(Turn.drewN (Turn.refl (fun _=>False) wr) k).own ho (fun _ _=>id)
    have HBn:Hid (∀ k w2,(wr.drewN k).grownBy w2 (Value.slice A m c).ownBlock→Below w.heap.size w w2):=fun k w2 g2=>(hb.trans ((Turn.none_ ((Turn.refl (fun _=>False) wr).drewN k) (fun _=>id)).mono hb.size)).grown g2 hb.size (fun k hk=>(ho.lt k (by rw[hlm];exact hk)).1)
    have hbw:w.heap.size≤wr.heap.size:=hb.size
    by_cases hc:s[i]=q
    ·have hbn:((s[i].toNat:Int) != (q.toNat:Int))=false:=by rw[hc];simp
     have hdrop1:34=q.toNat→∀ h:i+1<s.size,s[i+1].toNat=34→s.data.toList.drop (i+1)=q::s.data.toList.drop (i+2):=fun h1 h h2=>by
      rw[drop_at s h]
      congr 1
      rw[Lx.byte_eq h2,Lx.byte_eq h1.symm]
     by_cases hd:q.toNat=34∧∃ h:i+1<s.size,s[i+1].toNat=34
     ·obtain⟨h34,h1,h2⟩:=hd
      have b1:((q.toNat:Int) == 34)=true:=beq_iff_eq.2 (by omega)
      have b2:((s[i+1].toNat:Int) == 34)=true:=beq_iff_eq.2 (by omega)
      have hi1:(i:Int)+1<(s.size:Int):=by omega
      rw[hdrop1 h34.symm h1 h2,hc,Lx.quo_twice _ HQG.out h34] at hX
      have HO:=Lib.hid ho
      have HL:=Lib.hid hlm
      have HX:=Lib.hid hX
      have hwi:IntKind.i64.wrap ((i:Int)+1)=((i+1:Nat):Int):=IntWalk.i64_in _ (by omega)
      clear hX HD HI ho hlm hg' hc hdrop1 h2
      go_wp2_with (go_at_call 127;refine HG.out.mono ?_;rintro e w1 ⟨rfl,rfl⟩)
      go_quiet (fail)
      go_wp2_with (at_builtin;refine appendY _ rfl (.tmp 55) (.tmp 56) rfl w.heap.size A c l m HL.out q _ (by omega) rfl (HOn.out _) rfl (by omega) hbw ?_;intro A2 c2 w2 o2 g2;have O2:=Lib.hid o2;have B2:=Lib.hid (HBn.out _ _ g2);clear o2 g2)
      go_roundw
      case rel=>exact⟨i+2,A2,c2,m+1,l++[q],by omega,by omega,by omega,by go_num,rfl,B2.out,⟨O2.out,by rw[List.length_append,HL.out];rfl,by rw[HX.out];simp⟩⟩
      case measure=>simp[intOf];omega
     ·rw[hc,Lx.quo_last _ HQG.out (fun⟨e1,u,e2⟩=>hd ⟨e1,by
       by_cases h:i+1<s.size
       ·refine⟨h,?_⟩
        rw[drop_at s h] at e2
        injection e2 with e3 e4
        rw[e3,e1]
       ·obtain e5:i+1=s.size:=by omega
        rw[e5,drop_end] at e2
        cases e2⟩)] at hX
      have HE:Hid (X.2.1=0∧X.1=l∧s.data.toList.drop (i+1)=X.2.2):=by
       show _∧_∧_
       rw[hX]
       exact⟨rfl,by simp,rfl⟩
      have HCV:∀ k,(convert 109 9 (.slice A m c)).run Tryz.prog (wr.drewN k)=.ok (.string ⟨l.toArray⟩) (wr.drewN k):=fun k=>convY m hlm (HOn.out k)
      have HBk:Hid (∀ k,Below w.heap.size w (wr.drewN k)):=fun k=>hb.trans ((Turn.none_ ((Turn.refl (fun _=>False) wr).drewN k) (fun _=>id)).mono hb.size)
      have hwi:IntKind.i64.wrap ((i:Int)+1)=((i+1:Nat):Int):=IntWalk.i64_in _ (by omega)
      have hw:((q.toNat:Int) == 34)=false∨((q.toNat:Int) == 34)=true∧(¬(i:Int)+1<(s.size:Int)∨∃ h:i+1<s.size,(i:Int)+1<(s.size:Int)∧((s[i+1].toNat:Int) == 34)=false):=by
       by_cases h34:q.toNat=34
       ·refine .inr ⟨beq_iff_eq.2 (by omega),?_⟩
        by_cases h:i+1<s.size
        ·exact .inr ⟨h,by omega,beq_eq_false_iff_ne.2 fun e=>hd ⟨h34,h,by omega⟩⟩
        ·exact .inl (by omega)
       ·exact .inl (beq_eq_false_iff_ne.2 (by omega))
      clear hX HD HI ho hlm hg' hc hdrop1 hd
      rcases hw with b1|⟨b1,b2|⟨h1,b2,b3⟩⟩
      all_goals
       go_wp2_with (go_at_call 127;refine HG.out.mono ?_;rintro e w1 ⟨rfl,rfl⟩)
       go_quiet (fail)
       go_wp2
       exact bodyPost_ret (v:=.tuple #[.string ⟨l.toArray⟩,.int .i64 ((i+1:Nat):Int),.int .i64 0,.int .i64 0]) (by simp[results,Tryz.results154,go_sem]) rfl ⟨HBk.out _,fun _=>⟨i+1,by rw[HE.out.2.1],by omega,by omega,HE.out.2.2⟩,fun h=>(by rw[HE.out.1] at h;cases h),fun h=>(by rw[HE.out.1] at h;cases h)⟩
    ·have hbn:((s[i].toNat:Int) != (q.toNat:Int))=true:=by
      rw[bne_iff_ne]
      intro e
      exact hc (UInt8.toNat_inj.1 (by omega))
     rw[Lx.quo_plain _ hg' hc] at hX
     have HO:=Lib.hid ho
     have HL:=Lib.hid hlm
     have HX:=Lib.hid hX
     clear hX HD HI ho hlm hg' hc
     go_wp2_with (go_at_call 127;refine HG.out.mono ?_;rintro e w1 ⟨rfl,rfl⟩)
     go_quiet (fail)
     go_wp2_with (at_builtin;refine appendY _ rfl (.tmp 31) (.tmp 35) rfl w.heap.size A c l m HL.out s[i] _ rfl rfl (HOn.out _) rfl (by omega) hbw ?_;intro A2 c2 w2 o2 g2;have O2:=Lib.hid o2;have B2:=Lib.hid (HBn.out _ _ g2);clear o2 g2)
     go_roundw
     case rel=>exact⟨i+1,A2,c2,m+1,l++[s[i]],by omega,by omega,by omega,by go_num,rfl,B2.out,⟨O2.out,by rw[List.length_append,HL.out];rfl,by rw[HX.out];simp⟩⟩
     case measure=>simp[intOf];omega
  ·obtain rfl:i=s.size:=by omega
   rw[drop_end] at HI
   have HE:Hid (X.2.1=51):=by
    show _=_
    rw[HI.out.2.2]
    rfl
   clear HI
   go_wp2
   exact bodyPost_ret (v:=.tuple #[.string ⟨#[]⟩,.int .i64 0,.int .i64 51,.int .i64 (a:Nat)]) (by simp[results,Tryz.results154,go_sem]) rfl ⟨hb,fun h=>(by rw[HE.out] at h;cases h),fun h=>(by rw[HE.out] at h;cases h),fun _=>rfl⟩
end Go.Proofs.YtcgaeknikfaghaaGreatDoor
