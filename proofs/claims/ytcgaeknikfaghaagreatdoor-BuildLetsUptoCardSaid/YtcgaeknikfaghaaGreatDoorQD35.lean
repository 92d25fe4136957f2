/- What the proofs of this claim use, text by text. -/
import Derived.Test.YtcgaeknikfaghaaGreatDoorQD29
set_option linter.unusedSimpArgs false
set_option linter.unusedVariables false
set_option maxRecDepth 100000
set_option maxHeartbeats 25600000
namespace Go.Proofs.YtcgaeknikfaghaaGreatDoor
abbrev awS1:ByteArray:=⟨#[40,108,101,116,32,40,40,121,32,40,43,32,120,32,49,41,41,41,32,40,42,32,50,32,121,41,41]⟩
abbrev awL1:List MTok:=[(1,⟨#[40]⟩,0),(3,⟨#[108,101,116]⟩,1),(1,⟨#[40]⟩,5),(1,⟨#[40]⟩,6),(3,⟨#[121]⟩,7),(1,⟨#[40]⟩,9),(3,⟨#[43]⟩,10),(3,⟨#[120]⟩,12),(4,⟨#[49]⟩,14),(2,⟨#[41]⟩,15),(2,⟨#[41]⟩,16),(2,⟨#[41]⟩,17),(1,⟨#[40]⟩,19),(3,⟨#[42]⟩,20),(4,⟨#[50]⟩,22),(3,⟨#[121]⟩,24),(2,⟨#[41]⟩,25),(2,⟨#[41]⟩,26)]
abbrev awX1:Sx:=⟨true,0,ByteArray.empty,0,0,[⟨false,3,⟨#[108,101,116]⟩,1,1,[]⟩,⟨true,0,ByteArray.empty,0,5,[⟨true,0,ByteArray.empty,0,6,[⟨false,3,⟨#[121]⟩,7,7,[]⟩,⟨true,0,ByteArray.empty,0,9,[⟨false,3,⟨#[43]⟩,10,10,[]⟩,⟨false,3,⟨#[120]⟩,12,12,[]⟩,⟨false,4,⟨#[49]⟩,14,14,[]⟩]⟩]⟩]⟩,⟨true,0,ByteArray.empty,0,19,[⟨false,3,⟨#[42]⟩,20,20,[]⟩,⟨false,4,⟨#[50]⟩,22,22,[]⟩,⟨false,3,⟨#[121]⟩,24,24,[]⟩]⟩]⟩
theorem awS1_lex:Lx.lex 4000 awS1.data.toList=([(1,[40],27),(3,[108,101,116],26),(1,[40],22),(1,[40],21),(3,[121],20),(1,[40],18),(3,[43],17),(3,[120],15),(4,[49],13),(2,[41],12),(2,[41],11),(2,[41],10),(1,[40],8),(3,[42],7),(4,[50],5),(3,[121],3),(2,[41],2),(2,[41],1)],0,[]):=by
 rw[Lx.lex_fuel 27 4000 27 _ (by decide) (by decide) (by decide)]
 decide +kernel
theorem awS1_of:LexOf awS1 awL1 0 27:=by
 refine⟨by decide,by decide,by decide,fun h=>absurd h (by decide),fun _=>?_⟩
 rw[awS1_lex]
 exact⟨rfl,rfl,rfl⟩
theorem awS1_says:Says (27:Int) (awL1.map toI) [⟨awX1,0,0⟩]:=by
 exact Says.list (1,⟨#[40]⟩,0) (2,⟨#[41]⟩,26) [(3,⟨#[108,101,116]⟩,1),(1,⟨#[40]⟩,5),(1,⟨#[40]⟩,6),(3,⟨#[121]⟩,7),(1,⟨#[40]⟩,9),(3,⟨#[43]⟩,10),(3,⟨#[120]⟩,12),(4,⟨#[49]⟩,14),(2,⟨#[41]⟩,15),(2,⟨#[41]⟩,16),(2,⟨#[41]⟩,17),(1,⟨#[40]⟩,19),(3,⟨#[42]⟩,20),(4,⟨#[50]⟩,22),(3,⟨#[121]⟩,24),(2,⟨#[41]⟩,25)] [] [⟨false,3,⟨#[108,101,116]⟩,1,1,[]⟩,⟨true,0,ByteArray.empty,0,5,[⟨true,0,ByteArray.empty,0,6,[⟨false,3,⟨#[121]⟩,7,7,[]⟩,⟨true,0,ByteArray.empty,0,9,[⟨false,3,⟨#[43]⟩,10,10,[]⟩,⟨false,3,⟨#[120]⟩,12,12,[]⟩,⟨false,4,⟨#[49]⟩,14,14,[]⟩]⟩]⟩]⟩,⟨true,0,ByteArray.empty,0,19,[⟨false,3,⟨#[42]⟩,20,20,[]⟩,⟨false,4,⟨#[50]⟩,22,22,[]⟩,⟨false,3,⟨#[121]⟩,24,24,[]⟩]⟩] [] rfl rfl (.atom (3,⟨#[108,101,116]⟩,1) _ _ (by decide) (by decide) (.list (1,⟨#[40]⟩,5) (2,⟨#[41]⟩,17) [(1,⟨#[40]⟩,6),(3,⟨#[121]⟩,7),(1,⟨#[40]⟩,9),(3,⟨#[43]⟩,10),(3,⟨#[120]⟩,12),(4,⟨#[49]⟩,14),(2,⟨#[41]⟩,15),(2,⟨#[41]⟩,16)] [(1,⟨#[40]⟩,19),(3,⟨#[42]⟩,20),(4,⟨#[50]⟩,22),(3,⟨#[121]⟩,24),(2,⟨#[41]⟩,25)] [⟨true,0,ByteArray.empty,0,6,[⟨false,3,⟨#[121]⟩,7,7,[]⟩,⟨true,0,ByteArray.empty,0,9,[⟨false,3,⟨#[43]⟩,10,10,[]⟩,⟨false,3,⟨#[120]⟩,12,12,[]⟩,⟨false,4,⟨#[49]⟩,14,14,[]⟩]⟩]⟩] _ rfl rfl (.list (1,⟨#[40]⟩,6) (2,⟨#[41]⟩,16) [(3,⟨#[121]⟩,7),(1,⟨#[40]⟩,9),(3,⟨#[43]⟩,10),(3,⟨#[120]⟩,12),(4,⟨#[49]⟩,14),(2,⟨#[41]⟩,15)] [] [⟨false,3,⟨#[121]⟩,7,7,[]⟩,⟨true,0,ByteArray.empty,0,9,[⟨false,3,⟨#[43]⟩,10,10,[]⟩,⟨false,3,⟨#[120]⟩,12,12,[]⟩,⟨false,4,⟨#[49]⟩,14,14,[]⟩]⟩] _ rfl rfl (.atom (3,⟨#[121]⟩,7) _ _ (by decide) (by decide) (.list (1,⟨#[40]⟩,9) (2,⟨#[41]⟩,15) [(3,⟨#[43]⟩,10),(3,⟨#[120]⟩,12),(4,⟨#[49]⟩,14)] [] [⟨false,3,⟨#[43]⟩,10,10,[]⟩,⟨false,3,⟨#[120]⟩,12,12,[]⟩,⟨false,4,⟨#[49]⟩,14,14,[]⟩] _ rfl rfl (.atom (3,⟨#[43]⟩,10) _ _ (by decide) (by decide) (.atom (3,⟨#[120]⟩,12) _ _ (by decide) (by decide) (.atom (4,⟨#[49]⟩,14) _ _ (by decide) (by decide) .nil))) .nil)) .nil) (.list (1,⟨#[40]⟩,19) (2,⟨#[41]⟩,25) [(3,⟨#[42]⟩,20),(4,⟨#[50]⟩,22),(3,⟨#[121]⟩,24)] [] [⟨false,3,⟨#[42]⟩,20,20,[]⟩,⟨false,4,⟨#[50]⟩,22,22,[]⟩,⟨false,3,⟨#[121]⟩,24,24,[]⟩] _ rfl rfl (.atom (3,⟨#[42]⟩,20) _ _ (by decide) (by decide) (.atom (4,⟨#[50]⟩,22) _ _ (by decide) (by decide) (.atom (3,⟨#[121]⟩,24) _ _ (by decide) (by decide) .nil))) .nil))) (by simp[Sx.deeps,Sx.deep]) .nil
theorem awS1_read:ReadOf awS1 [⟨awX1,0,0⟩]:=⟨awL1,0,27,_,awS1_of,awS1_says,rfl⟩
abbrev awS2:ByteArray:=⟨#[40,43,32,120,32,121,41]⟩
abbrev awL2:List MTok:=[(1,⟨#[40]⟩,0),(3,⟨#[43]⟩,1),(3,⟨#[120]⟩,3),(3,⟨#[121]⟩,5),(2,⟨#[41]⟩,6)]
abbrev awX2:Sx:=⟨true,0,ByteArray.empty,0,0,[⟨false,3,⟨#[43]⟩,1,1,[]⟩,⟨false,3,⟨#[120]⟩,3,3,[]⟩,⟨false,3,⟨#[121]⟩,5,5,[]⟩]⟩
theorem awS2_lex:Lx.lex 4000 awS2.data.toList=([(1,[40],7),(3,[43],6),(3,[120],4),(3,[121],2),(2,[41],1)],0,[]):=by
 rw[Lx.lex_fuel 7 4000 7 _ (by decide) (by decide) (by decide)]
 decide +kernel
theorem awS2_of:LexOf awS2 awL2 0 7:=by
 refine⟨by decide,by decide,by decide,fun h=>absurd h (by decide),fun _=>?_⟩
 rw[awS2_lex]
 exact⟨rfl,rfl,rfl⟩
theorem awS2_says:Says (7:Int) (awL2.map toI) [⟨awX2,0,0⟩]:=by
 exact Says.list (1,⟨#[40]⟩,0) (2,⟨#[41]⟩,6) [(3,⟨#[43]⟩,1),(3,⟨#[120]⟩,3),(3,⟨#[121]⟩,5)] [] [⟨false,3,⟨#[43]⟩,1,1,[]⟩,⟨false,3,⟨#[120]⟩,3,3,[]⟩,⟨false,3,⟨#[121]⟩,5,5,[]⟩] [] rfl rfl (.atom (3,⟨#[43]⟩,1) _ _ (by decide) (by decide) (.atom (3,⟨#[120]⟩,3) _ _ (by decide) (by decide) (.atom (3,⟨#[121]⟩,5) _ _ (by decide) (by decide) .nil))) (by simp[Sx.deeps,Sx.deep]) .nil
theorem awS2_read:ReadOf awS2 [⟨awX2,0,0⟩]:=⟨awL2,0,7,_,awS2_of,awS2_says,rfl⟩
abbrev awS3:ByteArray:=⟨#[40,115,116,114,46,105,110,95,114,101,32,120,32,120,41]⟩
abbrev awL3:List MTok:=[(1,⟨#[40]⟩,0),(3,⟨#[115,116,114,46,105,110,95,114,101]⟩,1),(3,⟨#[120]⟩,11),(3,⟨#[120]⟩,13),(2,⟨#[41]⟩,14)]
abbrev awX3:Sx:=⟨true,0,ByteArray.empty,0,0,[⟨false,3,⟨#[115,116,114,46,105,110,95,114,101]⟩,1,1,[]⟩,⟨false,3,⟨#[120]⟩,11,11,[]⟩,⟨false,3,⟨#[120]⟩,13,13,[]⟩]⟩
theorem awS3_lex:Lx.lex 4000 awS3.data.toList=([(1,[40],15),(3,[115,116,114,46,105,110,95,114,101],14),(3,[120],4),(3,[120],2),(2,[41],1)],0,[]):=by
 rw[Lx.lex_fuel 15 4000 15 _ (by decide) (by decide) (by decide)]
 decide +kernel
theorem awS3_of:LexOf awS3 awL3 0 15:=by
 refine⟨by decide,by decide,by decide,fun h=>absurd h (by decide),fun _=>?_⟩
 rw[awS3_lex]
 exact⟨rfl,rfl,rfl⟩
theorem awS3_says:Says (15:Int) (awL3.map toI) [⟨awX3,0,0⟩]:=by
 exact Says.list (1,⟨#[40]⟩,0) (2,⟨#[41]⟩,14) [(3,⟨#[115,116,114,46,105,110,95,114,101]⟩,1),(3,⟨#[120]⟩,11),(3,⟨#[120]⟩,13)] [] [⟨false,3,⟨#[115,116,114,46,105,110,95,114,101]⟩,1,1,[]⟩,⟨false,3,⟨#[120]⟩,11,11,[]⟩,⟨false,3,⟨#[120]⟩,13,13,[]⟩] [] rfl rfl (.atom (3,⟨#[115,116,114,46,105,110,95,114,101]⟩,1) _ _ (by decide) (by decide) (.atom (3,⟨#[120]⟩,11) _ _ (by decide) (by decide) (.atom (3,⟨#[120]⟩,13) _ _ (by decide) (by decide) .nil))) (by simp[Sx.deeps,Sx.deep]) .nil
theorem awS3_read:ReadOf awS3 [⟨awX3,0,0⟩]:=⟨awL3,0,15,_,awS3_of,awS3_says,rfl⟩
abbrev awS4:ByteArray:=⟨#[83,116,114,105,110,103]⟩
abbrev awL4:List MTok:=[(3,⟨#[83,116,114,105,110,103]⟩,0)]
abbrev awX4:Sx:=⟨false,3,⟨#[83,116,114,105,110,103]⟩,0,0,[]⟩
theorem awS4_lex:Lx.lex 4000 awS4.data.toList=([(3,[83,116,114,105,110,103],6)],0,[]):=by
 rw[Lx.lex_fuel 6 4000 6 _ (by decide) (by decide) (by decide)]
 decide +kernel
theorem awS4_of:LexOf awS4 awL4 0 6:=by
 refine⟨by decide,by decide,by decide,fun h=>absurd h (by decide),fun _=>?_⟩
 rw[awS4_lex]
 exact⟨rfl,rfl,rfl⟩
theorem awS4_says:Says (6:Int) (awL4.map toI) [⟨awX4,0,0⟩]:=by
 exact Says.atom (3,⟨#[83,116,114,105,110,103]⟩,0) _ _ (by decide) (by decide) .nil
theorem awS4_read:ReadOf awS4 [⟨awX4,0,0⟩]:=⟨awL4,0,6,_,awS4_of,awS4_says,rfl⟩
abbrev awD:List Dc:=[⟨⟨#[120]⟩,2,false,[],Sx.zero⟩]
abbrev aw_x:Nd:=⟨1,2,[],⟨#[120]⟩,0,[]⟩
abbrev aw_1:Nd:=⟨4,2,[],ByteArray.empty,1,[]⟩
abbrev aw_s:Nd:=⟨15,2,[0,1],ByteArray.empty,0,[]⟩
abbrev aw_2:Nd:=⟨4,2,[],ByteArray.empty,2,[]⟩
abbrev aw_m:Nd:=⟨17,2,[3,2],ByteArray.empty,0,[]⟩
abbrev awN:List Nd:=[aw_x,aw_1,aw_s,aw_2,aw_m]
theorem nd_op10 {x y:Nd} (h:x.op≠y.op):x≠y:=fun e=>h (by rw[e])
theorem nd_num10 {x y:Nd} (h:x.num≠y.num):x≠y:=fun e=>h (by rw[e])
theorem app_some10 {l:List Nd} {op:Int} {a:List Int} {w:List Nat} {more:Bool} {own:Nat} (h:Tm.asks op=some (w,more,own)):Tm.app l op a=if a.length<w.length∨(w.length<a.length∧more=false)∨200<a.length then(l,0,1)
  else if Tm.allIn l a=false then(l,0,1) else if Tm.oks w 0 63 (a.map (Tm.letAt l))=false then(l,0,90) else if op=17∧1<Tm.free l a then(l,0,101) else Tm.add l (Tm.node op own l a):=by
 rw[Tm.app,h]
theorem aw1:Tm.const [] ⟨#[120]⟩ 2=([aw_x],0,0):=by
 unfold Tm.const
 rw[if_neg (by decide),Tm.add_new List.not_mem_nil (by decide)]
 rfl
theorem aw2:Tm.num [aw_x] ((1:Nat):Int)=([aw_x,aw_1],1,0):=by
 unfold Tm.num
 rw[if_neg (by decide)]
 exact Tm.add_new (l:=[aw_x]) (x:=aw_1) (fun h=>nd_op10 (x:=aw_1) (y:=aw_x) (by decide) (List.mem_singleton.1 h)) (by decide)
theorem aw3:Tm.app [aw_x,aw_1] 15 [0,1]=([aw_x,aw_1,aw_s],2,0):=by
 rw[app_some10 (w:=[73,73]) (more:=true) (own:=73) (by decide),if_neg (by decide),if_neg (by decide),if_neg (by decide),if_neg (by decide)]
 refine Tm.add_new (l:=[aw_x,aw_1]) (x:=aw_s) (fun h=>?_) (by decide)
 rcases List.mem_cons.1 h with h|h
 ·exact nd_op10 (x:=aw_s) (y:=aw_x) (by decide) h
 ·exact nd_op10 (x:=aw_s) (y:=aw_1) (by decide) (List.mem_singleton.1 h)
theorem aw4:Tm.num [aw_x,aw_1,aw_s] ((2:Nat):Int)=([aw_x,aw_1,aw_s,aw_2],3,0):=by
 unfold Tm.num
 rw[if_neg (by decide)]
 refine Tm.add_new (l:=[aw_x,aw_1,aw_s]) (x:=aw_2) (fun h=>?_) (by decide)
 rcases List.mem_cons.1 h with h|h
 ·exact nd_op10 (x:=aw_2) (y:=aw_x) (by decide) h
 rcases List.mem_cons.1 h with h|h
 ·exact nd_num10 (x:=aw_2) (y:=aw_1) (by decide) h
 ·exact nd_op10 (x:=aw_2) (y:=aw_s) (by decide) (List.mem_singleton.1 h)
theorem aw5:Tm.app [aw_x,aw_1,aw_s,aw_2] 17 [3,2]=(awN,4,0):=by
 rw[app_some10 (w:=[73,73]) (more:=true) (own:=73) (by decide),if_neg (by decide),if_neg (by decide),if_neg (by decide),if_neg (by decide)]
 refine Tm.add_new (l:=[aw_x,aw_1,aw_s,aw_2]) (x:=aw_m) (fun h=>?_) (by decide)
 rcases List.mem_cons.1 h with h|h
 ·exact nd_op10 (x:=aw_m) (y:=aw_x) (by decide) h
 rcases List.mem_cons.1 h with h|h
 ·exact nd_op10 (x:=aw_m) (y:=aw_1) (by decide) h
 rcases List.mem_cons.1 h with h|h
 ·exact nd_op10 (x:=aw_m) (y:=aw_s) (by decide) h
 ·exact nd_op10 (x:=aw_m) (y:=aw_2) (by decide) (List.mem_singleton.1 h)
theorem aw6:Tm.const awN ⟨#[120]⟩ 2=(awN,0,0):=by
 unfold Tm.const
 rw[if_neg (by decide)]
 exact Tm.add_hit (l:=awN) (i:=0) rfl fun j hj=>absurd hj (Nat.not_lt_zero _)
theorem aw_num (D:List Dc) (k:Nat) (sc:Sc) (N:List Nd) (s:ByteArray) (ta a:Int) (L:List Sx) (h:isT s.data.toList=true):Bd.tm D k sc N ⟨false,4,s,ta,a,L⟩=Tm.num N (T.dv s.data.toList):=by
 rw[Bd.tm_eq]
 unfold Bd.step
 rw[if_neg (fun e:false=true=>by cases e)]
 unfold Bd.atomF
 rw[if_pos rfl,if_pos h]
theorem aw_name (D:List Dc) (k:Nat) (sc:Sc) (N:List Nd) (T:ByteArray) (ta a:Int) (L:List Sx) (h1:¬(T.data.toList=[116,114,117,101]∨T.data.toList=[102,97,108,115,101])) (h2:Bd.reserved T.data.toList=false):Bd.tm D k sc N ⟨false,3,T,ta,a,L⟩=match Bd.bound sc T with
  |some id=>(N,id,0)
  |none=>match Bd.decl D T k with
   |none=>(N,0,100)
   |some j=>match D[j]? with
    |none=>(N,0,100)
    |some d=>if d.mac=true then(if d.par=[] then Bd.fn D j [] N else(N,0,1)) else Tm.const N d.name d.sort:=by
 rw[Bd.tm_eq]
 unfold Bd.step
 rw[if_neg (fun e:false=true=>by cases e)]
 unfold Bd.atomF
 rw[if_neg (show ¬(3:Int)=4 by decide),if_neg (show ¬(3:Int)=6 by decide),if_pos rfl]
 unfold Bd.nameF
 rw[if_neg h1,if_neg (by rw[h2];decide)]
 rfl
theorem aw_op (D:List Dc) (k:Nat) (sc:Sc) (N:List Nd) (T:ByteArray) (ta a a2:Int) (L r:List Sx) (h1:¬T.data.toList=[108,101,116]) (h2:Bd.op T.data.toList r.length≠0):Bd.tm D k sc N ⟨true,0,ByteArray.empty,0,a2,⟨false,3,T,ta,a,L⟩::r⟩=match Bd.each (Bd.tm D k sc) N r with
  |(N',ids,e)=>if e=0 then Tm.app N' (Bd.op T.data.toList r.length) ids else(N',0,e):=by
 rw[Bd.tm_eq]
 unfold Bd.step
 rw[if_pos rfl]
 unfold Bd.listF
 simp only
 rw[if_neg (fun e:false=true∨(3:Int)≠3=>e.elim (fun e=>by cases e) fun e=>e rfl),if_neg h1,if_pos h2]
theorem aw_bx:Bd.tm awD 1 [] [] ⟨false,3,⟨#[120]⟩,12,12,[]⟩=([aw_x],0,0):=by
 rw[aw_name _ _ _ _ _ _ _ _ (by decide) (by decide)]
 exact aw1
theorem aw_b1:Bd.tm awD 1 [] [] ⟨true,0,ByteArray.empty,0,9,[⟨false,3,⟨#[43]⟩,10,10,[]⟩,⟨false,3,⟨#[120]⟩,12,12,[]⟩,⟨false,4,⟨#[49]⟩,14,14,[]⟩]⟩=([aw_x,aw_1,aw_s],2,0):=by
 rw[aw_op _ _ _ _ _ _ _ _ _ _ (by decide) (by decide)]
 have e:Bd.each (Bd.tm awD 1 []) [] [⟨false,3,⟨#[120]⟩,12,12,[]⟩,⟨false,4,⟨#[49]⟩,14,14,[]⟩]=([aw_x,aw_1],[0,1],0):=by
  rw[Bd.each,aw_bx]
  simp only[if_true]
  rw[Bd.each,aw_num _ _ _ _ _ _ _ _ (by decide),show T.dv [49]=1 by decide,aw2]
  rfl
 rw[e]
 exact aw3
theorem aw_b2:Bd.tm awD 1 [(⟨#[121]⟩,2)] [aw_x,aw_1,aw_s] ⟨true,0,ByteArray.empty,0,19,[⟨false,3,⟨#[42]⟩,20,20,[]⟩,⟨false,4,⟨#[50]⟩,22,22,[]⟩,⟨false,3,⟨#[121]⟩,24,24,[]⟩]⟩=(awN,4,0):=by
 rw[aw_op _ _ _ _ _ _ _ _ _ _ (by decide) (by decide)]
 have e:Bd.each (Bd.tm awD 1 [(⟨#[121]⟩,2)]) [aw_x,aw_1,aw_s] [⟨false,4,⟨#[50]⟩,22,22,[]⟩,⟨false,3,⟨#[121]⟩,24,24,[]⟩]=([aw_x,aw_1,aw_s,aw_2],[3,2],0):=by
  rw[Bd.each,aw_num _ _ _ _ _ _ _ _ (by decide),show T.dv [50]=2 by decide,aw4]
  simp only[if_true]
  rw[Bd.each,aw_name _ _ _ _ _ _ _ _ (by decide) (by decide)]
  rfl
 rw[e]
 exact aw5
theorem awX1_tm:Bd.tm awD 1 [] [] awX1=(awN,4,0):=by
 rw[Bd.tm_eq]
 unfold Bd.step
 rw[if_pos rfl]
 unfold Bd.listF
 simp only
 rw[if_neg (by decide),if_pos (by decide)]
 rw[Bd.letF_eq (m:=[(⟨#[121]⟩,⟨true,0,ByteArray.empty,0,9,[⟨false,3,⟨#[43]⟩,10,10,[]⟩,⟨false,3,⟨#[120]⟩,12,12,[]⟩,⟨false,4,⟨#[49]⟩,14,14,[]⟩]⟩)]) _ _ _ _ _ rfl rfl (by decide) (by decide)]
 refine(Bd.andThen_ok (N':=[aw_x,aw_1,aw_s]) (a:=[2]) ?_).trans ?_
 ·simp only[List.map_cons,List.map_nil]
  rw[Bd.each,aw_b1]
  rfl
 ·exact aw_b2
theorem awX2_tm:Bd.tm awD 1 [] awN awX2=(awN,0,100):=by
 rw[aw_op _ _ _ _ _ _ _ _ _ _ (by decide) (by decide)]
 have e:Bd.each (Bd.tm awD 1 []) awN [⟨false,3,⟨#[120]⟩,3,3,[]⟩,⟨false,3,⟨#[121]⟩,5,5,[]⟩]=(awN,[],100):=by
  rw[Bd.each,aw_name _ _ _ _ _ _ _ _ (by decide) (by decide)]
  have e1:(match Bd.bound [] ⟨#[120]⟩ with
  |some id=>(awN,id,0)
  |none=>match Bd.decl awD ⟨#[120]⟩ 1 with
   |none=>(awN,0,100)
   |some j=>match awD[j]? with
    |none=>(awN,0,100)
    |some d=>if d.mac=true then(if d.par=[] then Bd.fn awD j [] awN else(awN,0,1)) else Tm.const awN d.name d.sort:Bans)=(awN,0,0):=aw6
  rw[e1]
  simp only[if_true]
  rw[Bd.each,aw_name _ _ _ _ _ _ _ _ (by decide) (by decide)]
  rfl
 rw[e]
 rfl
theorem awX3_tm:Bd.tm awD 1 [] awN awX3=(awN,0,101):=by
 rw[Bd.tm_eq]
 unfold Bd.step
 rw[if_pos rfl]
 unfold Bd.listF
 simp only
 rw[if_neg (by decide),if_neg (by decide),if_neg (by decide),if_pos (by decide)]
end Go.Proofs.YtcgaeknikfaghaaGreatDoor
