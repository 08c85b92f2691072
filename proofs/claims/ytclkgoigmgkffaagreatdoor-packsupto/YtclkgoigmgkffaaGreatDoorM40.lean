/-
  Texts Ad Ki Kj Kk.
-/
import Derived.Test.YtclkgoigmgkffaaGreatDoorM35
import Derived.Test.YtclkgoigmgkffaaGreatDoorM36
import Derived.Test.YtclkgoigmgkffaaGreatDoorM38
import Derived.Test.YtclkgoigmgkffaaGreatDoorM39
import Derived.Test.YtclkgoigmgkffaaGreatDoorM26
set_option linter.unusedSimpArgs false
set_option linter.unusedVariables false
set_option maxRecDepth 100000
set_option maxHeartbeats 40000000
namespace Go.Proofs.YtclkgoigmgkffaaGreatDoor
open Go.RowKit
open Wire Flow Mach
def MsI (w0:World) (ms:Value):Prop:=(∃ ma mc,ms=.slice ma 0 mc)∨∃ mg moff mn mc L,ms=.slice (some ⟨mg,moff,none⟩) mn mc∧0<mn∧mn≤9223372036854775807∧MsQ w0 mg moff mn L
theorem MsI.ms {w0:World}{ms:Value} (h:MsI w0 ms):MsIn w0 ms:=by
 rcases h with h | ⟨mg,moff,mn,mc,L,h1,h2,h3,h4⟩
 ·exact .inl h
 ·exact .inr ⟨mg,moff,mn,mc,L,h1,h2,h3,h4.ms⟩
theorem modPack_none (W:World) (b mc:Nat) (ma:Option Addr) (a b':Int) (s t u:ByteArray) (hc:W.cell? ⟨b,0,none⟩=some (.slice ma 0 mc)) :
  Calls Tryz.prog 29 #[.pointer (some ⟨b,0,none⟩),opV 12 a b' s t u] W fun e W'=>e=.returned (.bool true)∧Fr [] W W':=by
 unfold opV
 obtain⟨W1,hW1⟩:∃ W1,W.alloc (.cells #[.int .i64 12,.int .i64 a,.int .i64 b',.string s,.string t,.string u] 61)=W1:=⟨_,rfl⟩
 have F1:Fr [] W W1:=by rw[← hW1];exact (Fr.refl [] W).alloc _
 have k1:=World.alloc_heap_new W (.cells #[.int .i64 12,.int .i64 a,.int .i64 b',.string s,.string t,.string u] 61)
 rw[hW1] at k1
 have c0:W1.cell? ⟨W.heap.size,0,none⟩=some (.int .i64 12):=by unfold World.cell?;rw[k1];rfl
 have e0:=(F1.cell (p:=⟨b,0,none⟩) (lt_of_cell hc) (by simp)).trans hc
 have HF:Hid _:=F1
 clear F1 k1 hc
 go_enter Tryz.func29,Tryz.ntmps29
 go_wp2
 go_ret
 exact⟨rfl,HF.out⟩
theorem stepP_own (w0 W:World) (b:Nat) (tag:Nat→Nat) (ms:Value) (T:Nat) (k a b':Int) (s t u:ByteArray) (hk:k<8)
  (hO:Calls Tryz.prog 27 #[.pointer (some ⟨b,0,none⟩),opV k a b' s t u] (W.alloc (.cells #[.int .i64 k,.int .i64 a,.int .i64 b',.string s,.string t,.string u] 61)) fun e W'=>e=.returned (.tuple #[])∧StpD w0 b ms T (W.alloc (.cells #[.int .i64 k,.int .i64 a,.int .i64 b',.string s,.string t,.string u] 61)) tag W') :
  Calls Tryz.prog 16 #[.pointer (some ⟨b,0,none⟩),opV k a b' s t u] W fun e W'=>e=.returned (.bool true)∧StpD w0 b ms T W tag W':=by
 have F1:Fr [] W (W.alloc (.cells #[.int .i64 k,.int .i64 a,.int .i64 b',.string s,.string t,.string u] 61)):=(Fr.refl [] W).alloc _
 unfold opV at hO ⊢
 have HO:Hid _:=fun (_:Unit)=>And.intro hO F1
 clear hO F1
 go_enter Tryz.func16,Tryz.ntmps16
 go_wp2_with fail
 refine (HO.out ()).1.mono ?_
 rintro e W2 ⟨rfl,hS⟩
 have HS:Hid _:=hS.after (HO.out ()).2
 clear hS HO
 go_wp2
 go_ret
 exact⟨rfl,HS.out⟩
theorem stepP_mod (w0 W:World) (b:Nat) (tag:Nat→Nat) (ms:Value) (T:Nat) (k a b':Int) (s t u:ByteArray) (hk:11<k) (hk':k≤14)
  (hO:Calls Tryz.prog 29 #[.pointer (some ⟨b,0,none⟩),opV k a b' s t u] (W.alloc (.cells #[.int .i64 k,.int .i64 a,.int .i64 b',.string s,.string t,.string u] 61)) fun e W'=>e=.returned (.bool true)∧StpD w0 b ms T (W.alloc (.cells #[.int .i64 k,.int .i64 a,.int .i64 b',.string s,.string t,.string u] 61)) tag W') :
  Calls Tryz.prog 16 #[.pointer (some ⟨b,0,none⟩),opV k a b' s t u] W fun e W'=>e=.returned (.bool true)∧StpD w0 b ms T W tag W':=by
 have F1:Fr [] W (W.alloc (.cells #[.int .i64 k,.int .i64 a,.int .i64 b',.string s,.string t,.string u] 61)):=(Fr.refl [] W).alloc _
 have q1:¬ (k<8):=by omega
 have q2:¬ (k≤11):=by omega
 unfold opV at hO ⊢
 have HO:Hid _:=fun (_:Unit)=>And.intro hO F1
 clear hO F1
 go_enter Tryz.func16,Tryz.ntmps16
 go_wp2_with fail
 refine (HO.out ()).1.mono ?_
 rintro e W2 ⟨rfl,hS⟩
 have HS:Hid _:=hS.after (HO.out ()).2
 clear hS HO
 go_wp2
 go_ret
 exact⟨rfl,HS.out⟩
theorem modUnpack_any (w0 W:World) (b:Nat) (tag:Nat→Nat) (c:Nat→Value) (ms:Value) (bs:ByteArray) (N:Nat→Nat) (X:Nat→List Value) (bk fk:List Bk) (a b':Int) (s t u:ByteArray) (H:Hst w0 W b tag c ms bs N X bk fk) (hT:Tab w0) (hl:(X 11).length+(X 13).length≤500000000) :
  Calls Tryz.prog 29 #[.pointer (some ⟨b,0,none⟩),opV 13 a b' s t u] W fun e W'=>e=.returned (.bool true)∧∃ tag',KpT w0 W W' b tag tag' ms bs N X bk fk 4 2:=by
 by_cases h:(unpA bs).2.2=0
 ·exact modUnpack_ok w0 W b tag c ms bs N X bk fk a b' s t u H hT h hl
 ·exact modUnpack_bad w0 W b tag c ms bs N X bk fk a b' s t u H hT h hl
theorem stepP_unpack (w0 W:World) (b:Nat) (tag:Nat→Nat) (ms:Value) (T:Nat) (a b':Int) (s t u:ByteArray) (P:PlS w0 W b tag ms T) (hT:Tab w0) (hN:T≤50000000) :
  Calls Tryz.prog 16 #[.pointer (some ⟨b,0,none⟩),opV 13 a b' s t u] W fun e W'=>e=.returned (.bool true)∧StpD w0 b ms T W tag W':=by
 refine stepP_mod w0 W b tag ms T 13 a b' s t u (by decide) (by decide) ?_
 obtain⟨c,bs,N,X,bk,fk,H,h3,h4,h5⟩:=P.fr ((Fr.refl [] W).alloc (.cells #[.int .i64 13,.int .i64 a,.int .i64 b',.string s,.string t,.string u] 61))
 refine (modUnpack_any w0 _ b tag c ms bs N X bk fk a b' s t u H hT (by omega)).mono ?_
 rintro e W' ⟨he,tag',k⟩
 obtain⟨c',N',X',H',l11,l13,l3,l4⟩:=k.st
 exact⟨he,tag',⟨c',bs,N',X',bk,fk,H',by omega,by omega,by omega⟩,k.chg.mono (by simp),k.ret⟩
theorem stepP_pack (w0 W:World) (b:Nat) (tag:Nat→Nat) (ms:Value) (T:Nat) (a b':Int) (s t u:ByteArray) (P:PlS w0 W b tag ms T) (hM:MsI w0 ms) (hT:Tab w0) (ha0:-9223372036854775808≤a) (ha1:a≤9223372036854775807) :
  Calls Tryz.prog 16 #[.pointer (some ⟨b,0,none⟩),opV 12 a b' s t u] W fun e W'=>e=.returned (.bool true)∧StpD w0 b ms T W tag W':=by
 refine stepP_mod w0 W b tag ms T 12 a b' s t u (by decide) (by decide) ?_
 have P1:=P.fr ((Fr.refl [] W).alloc (.cells #[.int .i64 12,.int .i64 a,.int .i64 b',.string s,.string t,.string u] 61))
 have hc:(W.alloc (.cells #[.int .i64 12,.int .i64 a,.int .i64 b',.string s,.string t,.string u] 61)).cell? ⟨b,0,none⟩=some ms:=by
  obtain⟨c,bs,N,X,bk,fk,H,_⟩:=P1
  rw[H.I.core.cell 0 (by decide),H.I.n0]
 have hl:=P1.low
 have fin:∀ (e:Ending) (W':World),(e=.returned (.bool true)∧Fr [] (W.alloc (.cells #[.int .i64 12,.int .i64 a,.int .i64 b',.string s,.string t,.string u] 61)) W')→e=.returned (.bool true)∧StpD w0 b ms T (W.alloc (.cells #[.int .i64 12,.int .i64 a,.int .i64 b',.string s,.string t,.string u] 61)) tag W':=fun e W' h=>⟨h.1,StpD.still P1 h.2⟩
 rcases hM with ⟨ma,mc,rfl⟩ | ⟨mg,moff,mn,mc,L,rfl,h0,h1,hQ⟩
 ·exact (modPack_none _ b mc ma a b' s t u hc).mono fin
 ·exact (modPack_any w0 _ b mg moff mn mc a b' s t u L hc hl hQ h0 h1 ha0 ha1 hT).mono fin
theorem stepP_any (w0 W:World) (b:Nat) (tag:Nat→Nat) (ms:Value) (T:Nat) (k a b':Int) (s t u:ByteArray) (P:PlS w0 W b tag ms T) (hM:MsI w0 ms) (hT:Tab w0) (hN:T≤50000000) (hk:k<8∨k=12∨k=13) (hs:s.size≤9223372036854775807) (ha0:-9223372036854775808≤a) (ha1:a≤9223372036854775807) (hb0:-9223372036854775808≤b') (hb1:b'≤9223372036854775807) :
  Calls Tryz.prog 16 #[.pointer (some ⟨b,0,none⟩),opV k a b' s t u] W fun e W'=>e=.returned (.bool true)∧StpD w0 b ms T W tag W':=by
 rcases hk with hk | rfl | rfl
 ·exact stepP_own w0 W b tag ms T k a b' s t u hk (ownP_any w0 _ b tag ms T k a b' s t u (P.fr ((Fr.refl [] W).alloc _)) hM.ms hk hs ha0 ha1 hb0 hb1 (by omega))
 ·exact stepP_pack w0 W b tag ms T a b' s t u P hM hT ha0 ha1
 ·exact stepP_unpack w0 W b tag ms T a b' s t u P hT hN
theorem stepP_bytes (w0 W:World) (b:Nat) (tag:Nat→Nat) (ms:Value) (T:Nat) (a b':Int) (s t u:ByteArray) (P:PlS w0 W b tag ms T) (hs:s.size≤9223372036854775807) :
  Calls Tryz.prog 16 #[.pointer (some ⟨b,0,none⟩),opV 1 a b' s t u] W fun e W'=>e=.returned (.bool true)∧StpD w0 b ms T W tag W':=
 stepP_own w0 W b tag ms T 1 a b' s t u (by decide) (ownP_bytes w0 _ b tag ms T a b' s t u (P.fr ((Fr.refl [] W).alloc _)) hs)
def mo5:Mo:=⟨[],[],0,0,[⟨0,0,⟨#[0,10,27,44,1,52]⟩⟩,⟨0,0,⟨#[52]⟩⟩,⟨0,0,⟨#[52]⟩⟩]⟩
def fn5:Array Value:=#[.int .i64 0,.int .i64 0,.string ⟨#[0,10,27,44,1,52]⟩,.int .i64 0,.int .i64 0,.string ⟨#[52]⟩,.int .i64 0,.int .i64 0,.string ⟨#[52]⟩]
theorem mo5_in (W:World) (g:Nat) (h:W.heap[g]?=some (.cells fn5 65)):ModIn W (.agg #[.slice none 0 0,.slice none 0 0,.int .i64 mo5.globs,.int .i64 mo5.arrs,.slice (some ⟨g,0,none⟩) 3 3]) mo5:=by
 have e:∀ j,W.cell? ⟨g,j,none⟩=fn5[j]?:=fun j=>by unfold World.cell?;rw[h];simp
 refine⟨_,_,_,rfl,⟨none,0,0,0,rfl,Nat.le_refl _,fun h=>absurd h (by decide),fun i x hx=>by cases hx⟩,⟨none,0,0,0,rfl,Nat.le_refl _,fun h=>absurd h (by decide),fun i x hx=>by cases hx⟩,⟨some ⟨g,0,none⟩,3,g,0,rfl,by decide,fun _=>⟨rfl,(Array.getElem?_eq_some_iff.1 h).1⟩,fun i x hx=>?_⟩⟩
 match i,hx with
 | 0,hx=>cases hx;exact⟨by rw[e];rfl,by rw[e];rfl,by rw[e];rfl⟩
 | 1,hx=>cases hx;exact⟨by rw[e];rfl,by rw[e];rfl,by rw[e];rfl⟩
 | 2,hx=>cases hx;exact⟨by rw[e];rfl,by rw[e];rfl,by rw[e];rfl⟩
 | i+3,hx=>simp[mo5] at hx
theorem mo5_sm:ModSm mo5:=by
 refine⟨(by decide),fun s hs=>(by cases hs),(by decide),fun s hs=>(by cases hs),(by decide),fun s hs=>?_⟩
 simp only[mo5,List.mem_cons,List.not_mem_nil,or_false] at hs
 rcases hs with rfl | rfl | rfl <;> decide
theorem fiveC_any (w:World):Calls Tryz.prog 8 #[] w fun e w'=>(∃ s:ByteArray,s.size≤9223372036854775807∧e=.returned (.string s))∧Fr [] w w':=by
 obtain⟨W1,hW1⟩:∃ W1,w.alloc (.cells #[.int .i64 0,.int .i64 0,.string ⟨#[52]⟩] 65)=W1:=⟨_,rfl⟩
 obtain⟨W2,hW2⟩:∃ W2,W1.alloc (.cells #[.int .i64 0,.int .i64 0,.string ⟨#[0,10,27,44,1,52]⟩,.int .i64 0,.int .i64 0,.string ⟨#[52]⟩,.int .i64 0,.int .i64 0,.string ⟨#[52]⟩] 65)=W2:=⟨_,rfl⟩
 obtain⟨W3,hW3⟩:∃ W3,W2.alloc (.cells #[.slice none 0 0,.slice none 0 0,.int .i64 0,.int .i64 0,.slice (some ⟨W1.heap.size,0,none⟩) 3 3] 30)=W3:=⟨_,rfl⟩
 have F1:Fr [] w W1:=by rw[← hW1];exact (Fr.refl [] w).alloc _
 have F2:Fr [] W1 W2:=by rw[← hW2];exact (Fr.refl [] W1).alloc _
 have F3:Fr [] W2 W3:=by rw[← hW3];exact (Fr.refl [] W2).alloc _
 have k1:=World.alloc_heap_new w (.cells #[.int .i64 0,.int .i64 0,.string ⟨#[52]⟩] 65)
 rw[hW1] at k1
 have k2:=World.alloc_heap_new W1 (.cells #[.int .i64 0,.int .i64 0,.string ⟨#[0,10,27,44,1,52]⟩,.int .i64 0,.int .i64 0,.string ⟨#[52]⟩,.int .i64 0,.int .i64 0,.string ⟨#[52]⟩] 65)
 rw[hW2] at k2
 have k3:=World.alloc_heap_new W2 (.cells #[.slice none 0 0,.slice none 0 0,.int .i64 0,.int .i64 0,.slice (some ⟨W1.heap.size,0,none⟩) 3 3] 30)
 rw[hW3] at k3
 have k23:=(F3.block _ (Array.getElem?_eq_some_iff.1 k2).1 (by simp)).trans k2
 have hp:=packR_any _ mo5 W3 (mo5_in W3 W1.heap.size k23) mo5_sm
 have hp':Calls Tryz.prog 11 #[.agg #[.slice none 0 0,.slice none 0 0,.int .i64 0,.int .i64 0,.slice (some ⟨W1.heap.size,0,none⟩) 3 3]] W3 fun e w'=>e=.returned (.tuple #[.string (packS mo5),.int .i64 (packE mo5)])∧Fr [] W3 w':=hp
 have hps:=packS_small mo5
 generalize packS mo5=ps at *
 generalize packE mo5=pe at *
 have HP:Hid _:=fun (_:Unit)=>hp'
 have HF:Hid _:=(F1.trans F2).trans F3
 have a0:W1.cell? ⟨w.heap.size,0,none⟩=some (.int .i64 0):=by unfold World.cell?;rw[k1];rfl
 have a1:W1.cell? ⟨w.heap.size,1,none⟩=some (.int .i64 0):=by unfold World.cell?;rw[k1];rfl
 have a2:W1.cell? ⟨w.heap.size,2,none⟩=some (.string ⟨#[52]⟩):=by unfold World.cell?;rw[k1];rfl
 have d0:W3.cell? ⟨W2.heap.size,0,none⟩=some (.slice none 0 0):=by unfold World.cell?;rw[k3];rfl
 have d1:W3.cell? ⟨W2.heap.size,1,none⟩=some (.slice none 0 0):=by unfold World.cell?;rw[k3];rfl
 have d2:W3.cell? ⟨W2.heap.size,2,none⟩=some (.int .i64 0):=by unfold World.cell?;rw[k3];rfl
 have d3:W3.cell? ⟨W2.heap.size,3,none⟩=some (.int .i64 0):=by unfold World.cell?;rw[k3];rfl
 have d4:W3.cell? ⟨W2.heap.size,4,none⟩=some (.slice (some ⟨W1.heap.size,0,none⟩) 3 3):=by unfold World.cell?;rw[k3];rfl
 have zz:∀ j,W3.frozen? ⟨W2.heap.size,j,none⟩=false:=fun j=>by unfold World.frozen?;rw[k3];simp
 have zw:∀ j,W1.frozen? ⟨w.heap.size,j,none⟩=false:=fun j=>by unfold World.frozen?;rw[k1];simp
 clear hp hp' F1 F2 F3 k1 k2 k3 k23
 go_enter Tryz.func8,Tryz.ntmps8
 go_wp2_with fail
 refine (HP.out ()).mono ?_
 rintro e w4 ⟨rfl,F4⟩
 clear a0 a1 a2 d0 d1 d2 d3 d4 zz zw
 go_wp2
 go_ret
 exact⟨⟨ps,hps,rfl⟩,HF.out.trans F4⟩
def opens (f5:ByteArray):Array Value:=#[.int .i64 9,.int .i64 0,.int .i64 0,.string ⟨#[98,43]⟩,.string ⟨#[97,98,98]⟩,.string ⟨#[]⟩,.int .i64 1,.int .i64 0,.int .i64 0,.string ⟨#[71,76]⟩,.string ⟨#[]⟩,.string ⟨#[]⟩,.int .i64 13,.int .i64 0,.int .i64 0,.string ⟨#[]⟩,.string ⟨#[]⟩,.string ⟨#[]⟩,.int .i64 14,.int .i64 0,.int .i64 0,.string ⟨#[]⟩,.string ⟨#[]⟩,.string ⟨#[]⟩,.int .i64 1,.int .i64 0,.int .i64 0,.string f5,.string ⟨#[]⟩,.string ⟨#[]⟩,.int .i64 13,.int .i64 0,.int .i64 0,.string ⟨#[]⟩,.string ⟨#[]⟩,.string ⟨#[]⟩,.int .i64 14,.int .i64 0,.int .i64 0,.string ⟨#[]⟩,.string ⟨#[]⟩,.string ⟨#[]⟩,.int .i64 15,.int .i64 0,.int .i64 0,.string ⟨#[]⟩,.string ⟨#[]⟩,.string ⟨#[]⟩,.int .i64 16,.int .i64 0,.int .i64 3,.string ⟨#[]⟩,.string ⟨#[]⟩,.string ⟨#[]⟩,.int .i64 17,.int .i64 0,.int .i64 0,.string ⟨#[]⟩,.string ⟨#[]⟩,.string ⟨#[]⟩,.int .i64 19,.int .i64 0,.int .i64 0,.string ⟨#[66,69,71,73,78,32,123,32,112,114,105,110,116,32,49,59,32,125]⟩,.string ⟨#[]⟩,.string ⟨#[]⟩]
theorem openingC_any (w:World):Calls Tryz.prog 15 #[] w fun e w'=>∃ (f5:ByteArray) (g:Nat),f5.size≤9223372036854775807∧e=.returned (.slice (some ⟨g,0,none⟩) 11 11)∧w.heap.size≤g∧w'.heap[g]?=some (.cells (opens f5) 61)∧Fr [] w w':=by
 have H5:Hid _:=fun (_:Unit)=>fiveC_any w
 go_enter Tryz.func15,Tryz.ntmps15
 go_wp2_with fail
 refine (H5.out ()).mono ?_
 rintro e w1 ⟨⟨f5,hf,rfl⟩,F1⟩
 have HF:Hid _:=F1
 clear F1 H5
 go_wp2
 go_ret
 refine⟨f5,w1.heap.size,hf,rfl,HF.out.size,?_,HF.out.trans ((Fr.refl [] w1).alloc _)⟩
 exact World.alloc_heap_new w1 _
structure OpC (W:World) (g o:Nat) (k a b':Int) (s t u:ByteArray):Prop where
 k:W.cell? ⟨g,o,none⟩=some (.int .i64 k)
 a:W.cell? ⟨g,o+1,none⟩=some (.int .i64 a)
 b:W.cell? ⟨g,o+2,none⟩=some (.int .i64 b')
 s:W.cell? ⟨g,o+3,none⟩=some (.string s)
 t:W.cell? ⟨g,o+4,none⟩=some (.string t)
 u:W.cell? ⟨g,o+5,none⟩=some (.string u)
theorem OpC.blk {W W':World}{g o:Nat}{k a b':Int}{s t u:ByteArray} (h:OpC W g o k a b' s t u) (hb:W'.heap[g]?=W.heap[g]?):OpC W' g o k a b' s t u:=by
 have hc:∀ j,W'.cell? ⟨g,j,none⟩=W.cell? ⟨g,j,none⟩:=fun j=>World.cell?_of_block (w:=W) (a:=⟨g,j,none⟩) hb
 exact⟨(hc _).trans h.k,(hc _).trans h.a,(hc _).trans h.b,(hc _).trans h.s,(hc _).trans h.t,(hc _).trans h.u⟩
theorem opens_op {W:World}{g:Nat}{f5:ByteArray} (h:W.heap[g]?=some (.cells (opens f5) 61)) (o:Nat) {k a b':Int}{s t u:ByteArray}
  (h0:(opens f5)[o]?=some (.int .i64 k)) (h1:(opens f5)[o+1]?=some (.int .i64 a)) (h2:(opens f5)[o+2]?=some (.int .i64 b')) (h3:(opens f5)[o+3]?=some (.string s)) (h4:(opens f5)[o+4]?=some (.string t)) (h5:(opens f5)[o+5]?=some (.string u)):OpC W g o k a b' s t u:=by
 have e:∀ j v,(opens f5)[j]?=some v→W.cell? ⟨g,j,none⟩=some v:=fun j v hv=>by unfold World.cell?;rw[h];exact hv
 exact⟨e _ _ h0,e _ _ h1,e _ _ h2,e _ _ h3,e _ _ h4,e _ _ h5⟩
end Go.Proofs.YtclkgoigmgkffaaGreatDoor
