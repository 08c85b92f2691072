import Derived.Deep.DeepHandedRow
import Derived.Lay
import Derived.Test.YtmolfmgchbjnbaaGreatDoorM31
import Derived.Test.YtmolfmgchbjnbaaGreatDoorM32
import Derived.Test.YtmolfmgchbjnbaaGreatDoorM33
import Derived.Test.YtmolfmgchbjnbaaGreatDoorM34
import Derived.Test.YtmolfmgchbjnbaaGreatDoorM35
import Derived.Test.YtmolfmgchbjnbaaGreatDoorM36
import Derived.Test.YtmolfmgchbjnbaaGreatDoorM37
set_option linter.unusedSimpArgs false
set_option linter.unusedVariables false
set_option maxRecDepth 100000
set_option maxHeartbeats 40000000
open _root_.Go.Proofs.Tryz
namespace Go.Proofs.YtmolfmgchbjnbaaGreatDoor
namespace Tok
open Ev
theorem could_a6:Could6 43:=by intro z1 z2 F nf gn an nt t0 t1 t2 t3 t4 t5 o1 o2 c1 c2;kernel_rfl
theorem could_a7:Could7 43 false:=by intro z1 z2 F nf gn an nt t0 t1 t2 t3 t4 t5 t6 o1 o2 c1 c2;kernel_rfl
theorem could_am:Could7 43 true:=by intro z1 z2 F nf gn an nt t0 t1 t2 t3 t4 t5 t6 o1 o2 c1 c2;kernel_rfl
theorem could_a8:Could8 43:=by intro z1 z2 F nf gn an nt t0 t1 t2 t3 t4 t5 t6 t7 o1 o2 c1 c2;kernel_rfl
theorem could_a:CouldIs 43:=couldIs could_a6 could_a7 could_am could_a8
end Tok
namespace Tok
open Ev
theorem could_b6:Could6 45:=by intro z1 z2 F nf gn an nt t0 t1 t2 t3 t4 t5 o1 o2 c1 c2;kernel_rfl
theorem could_b7:Could7 45 false:=by intro z1 z2 F nf gn an nt t0 t1 t2 t3 t4 t5 t6 o1 o2 c1 c2;kernel_rfl
theorem could_bm:Could7 45 true:=by intro z1 z2 F nf gn an nt t0 t1 t2 t3 t4 t5 t6 o1 o2 c1 c2;kernel_rfl
theorem could_b8:Could8 45:=by intro z1 z2 F nf gn an nt t0 t1 t2 t3 t4 t5 t6 t7 o1 o2 c1 c2;kernel_rfl
theorem could_b:CouldIs 45:=couldIs could_b6 could_b7 could_bm could_b8
end Tok
namespace Tok
open Ev
theorem could_c6:Could6 42:=by intro z1 z2 F nf gn an nt t0 t1 t2 t3 t4 t5 o1 o2 c1 c2;kernel_rfl
theorem could_c7:Could7 42 false:=by intro z1 z2 F nf gn an nt t0 t1 t2 t3 t4 t5 t6 o1 o2 c1 c2;kernel_rfl
theorem could_cm:Could7 42 true:=by intro z1 z2 F nf gn an nt t0 t1 t2 t3 t4 t5 t6 o1 o2 c1 c2;kernel_rfl
theorem could_c8:Could8 42:=by intro z1 z2 F nf gn an nt t0 t1 t2 t3 t4 t5 t6 t7 o1 o2 c1 c2;kernel_rfl
theorem could_c:CouldIs 42:=couldIs could_c6 could_c7 could_cm could_c8
end Tok
namespace Tok
open Ev
theorem could_d6:Could6 47:=by intro z1 z2 F nf gn an nt t0 t1 t2 t3 t4 t5 o1 o2 c1 c2;kernel_rfl
theorem could_d7:Could7 47 false:=by intro z1 z2 F nf gn an nt t0 t1 t2 t3 t4 t5 t6 o1 o2 c1 c2;kernel_rfl
theorem could_dm:Could7 47 true:=by intro z1 z2 F nf gn an nt t0 t1 t2 t3 t4 t5 t6 o1 o2 c1 c2;kernel_rfl
theorem could_d8:Could8 47:=by intro z1 z2 F nf gn an nt t0 t1 t2 t3 t4 t5 t6 t7 o1 o2 c1 c2;kernel_rfl
theorem could_d:CouldIs 47:=couldIs could_d6 could_d7 could_dm could_d8
end Tok
namespace Tok
open Ev
theorem could_e6:Could6 37:=by intro z1 z2 F nf gn an nt t0 t1 t2 t3 t4 t5 o1 o2 c1 c2;kernel_rfl
theorem could_e7:Could7 37 false:=by intro z1 z2 F nf gn an nt t0 t1 t2 t3 t4 t5 t6 o1 o2 c1 c2;kernel_rfl
theorem could_em:Could7 37 true:=by intro z1 z2 F nf gn an nt t0 t1 t2 t3 t4 t5 t6 o1 o2 c1 c2;kernel_rfl
theorem could_e8:Could8 37:=by intro z1 z2 F nf gn an nt t0 t1 t2 t3 t4 t5 t6 t7 o1 o2 c1 c2;kernel_rfl
theorem could_e:CouldIs 37:=couldIs could_e6 could_e7 could_em could_e8
end Tok
namespace Tok
open Ev
theorem could_f6:Could6 60:=by intro z1 z2 F nf gn an nt t0 t1 t2 t3 t4 t5 o1 o2 c1 c2;kernel_rfl
theorem could_f7:Could7 60 false:=by intro z1 z2 F nf gn an nt t0 t1 t2 t3 t4 t5 t6 o1 o2 c1 c2;kernel_rfl
theorem could_fm:Could7 60 true:=by intro z1 z2 F nf gn an nt t0 t1 t2 t3 t4 t5 t6 o1 o2 c1 c2;kernel_rfl
theorem could_f8:Could8 60:=by intro z1 z2 F nf gn an nt t0 t1 t2 t3 t4 t5 t6 t7 o1 o2 c1 c2;kernel_rfl
theorem could_f:CouldIs 60:=couldIs could_f6 could_f7 could_fm could_f8
end Tok
open Go.RowKit
open Wire Flow
namespace Tok
open Ev (signs TabS entered)
theorem sgn_a:SgnOk 43:=⟨by decide,could_a,sum_a,bad_a⟩
theorem sgn_b:SgnOk 45:=⟨by decide,could_b,sum_b,bad_b⟩
theorem sgn_c:SgnOk 42:=⟨by decide,could_c,sum_c,bad_c⟩
theorem sgn_d:SgnOk 47:=⟨by decide,could_d,sum_d,bad_d⟩
theorem sgn_e:SgnOk 37:=⟨by decide,could_e,sum_e,bad_e⟩
theorem sgn_f:SgnOk 60:=⟨by decide,could_f,sum_f,bad_f⟩
theorem sums_any (HB:BothOk)(h163:∃ fn,entered prog 163=some fn){a b:Int}(ha1:-9223372036854775808≤a)(ha2:a≤9223372036854775807)(hb1:-9223372036854775808≤b)(hb2:b≤9223372036854775807){W:WL}(hb:Base W)(ht:TabS signs W) :
  Calls prog 5 #[iA a,iA b] W fun e w=>e=.returned (.bool true)∧Fr [] W w:=by
 have HS:Hid (∀ (V:WL) (g:UInt8),Fr [] W V→SgnOk g→Calls prog 16 #[.string ⟨#[g]⟩,iA a,iA b] V fun e w=>e=.returned (.bool true)∧Fr [] V w):=fun V g F hg=>sum_any HB h163 hg ha1 ha2 hb1 hb2 (hb.fr F) (tabS_fr ht F);have HF:Hid (∀ (V:WL) (k:Nat),Fr [] W V→k≤29→Calls prog 17 #[iA (k:Nat)] V fun e w=>e=.returned (.bool true)∧Fr [] V w):=fun V k F hk=>factorial_any HB h163 hk (hb.fr F) (tabS_fr ht F);have F1:Fr [] W (W.alloc (.cells #[.string ⟨#[43]⟩,.string ⟨#[45]⟩,.string ⟨#[42]⟩,.string ⟨#[47]⟩,.string ⟨#[37]⟩,.string ⟨#[60]⟩] 9)):=(Fr.refl [] W).alloc _;have k1:=wan W (.cells #[.string ⟨#[43]⟩,.string ⟨#[45]⟩,.string ⟨#[42]⟩,.string ⟨#[47]⟩,.string ⟨#[37]⟩,.string ⟨#[60]⟩] 9);obtain⟨W1,hW1⟩:=eXi (W.alloc (.cells #[.string ⟨#[43]⟩,.string ⟨#[45]⟩,.string ⟨#[42]⟩,.string ⟨#[47]⟩,.string ⟨#[37]⟩,.string ⟨#[60]⟩] 9));rw[hW1] at F1 k1;have kl:=(Age.1 k1).1;have HC:Hid (∀ k,k<6→∃ g,SgnOk g∧∀ V,Fr [] W1 V→V.cell? (Ad W.heap.size k)=some (.string ⟨#[g]⟩)):=by
  intro k hk;have key:∀ j v,(#[.string ⟨#[43]⟩,.string ⟨#[45]⟩,.string ⟨#[42]⟩,.string ⟨#[47]⟩,.string ⟨#[37]⟩,.string ⟨#[60]⟩]:Array Value)[j]?=some v→∀ V,Fr [] W1 V→V.cell? (Ad W.heap.size j)=some v:=fun j v hv V F=>by
   unfold World.cell?;rw[F.block _ kl (by simp),k1];exact hv
  rcases (show k=0∨k=1∨k=2∨k=3∨k=4∨k=5 by omega) with rfl | rfl | rfl | rfl | rfl | rfl
  ·exact⟨43,sgn_a,key 0 _ rfl⟩
  ·exact⟨45,sgn_b,key 1 _ rfl⟩
  ·exact⟨42,sgn_c,key 2 _ rfl⟩
  ·exact⟨47,sgn_d,key 3 _ rfl⟩
  ·exact⟨37,sgn_e,key 4 _ rfl⟩
  exact⟨60,sgn_f,key 5 _ rfl⟩
 obtain⟨m,hm⟩:=eXi (a.tmod 30);have hm1:m.natAbs≤29:=by
  rw[← hm,Int.natAbs_tmod];have:=Nat.mod_lt a.natAbs (show 0<(30:Int).natAbs by decide);have e:(30:Int).natAbs=30:=rfl;omega
 have HF1:Hid _:=F1;clear hb ht F1 k1 kl HB h163;go_enter func5,ntmps5;go_wp2;clear hW1
 go_loopw [6] (fun i wr=>∃ k:Nat,k≤6∧i=iA (k:Nat)∧Hid (Fr [] W1 wr)) (fun i _=>6-(intOf i).toNat)
 case atStart=>exact⟨0,by omega,rfl,Fr.refl [] _⟩
 case round=>
  obtain⟨k,hk,rfl,HR⟩:=hrel;by_cases hlt:k<6
  ·have g1:(k:Int)<6:=by omega
   obtain⟨g,hg,hcell⟩:=HC.out k hlt;have c1:=hcell wr HR.out;have hc:=HS.out wr g (HF1.out.trans HR.out) hg;clear hcell hg;go_wp2_with fail;refine Calls.mono hc ?_;rintro e w2 ⟨rfl,F2⟩;have HR2:Hid (Fr [] W1 w2):=HR.out.trans F2;clear hc F2 HR c1;go_wp2;exact⟨⟨k+1,by omega,by go_num,HR2.out⟩,by simp[intOf];omega⟩
  obtain rfl:k=6:=by omega
  have g1:¬ ((6:Nat):Int)<6:=by omega
  by_cases hneg:m<0
  ·have hc:=HF.out wr m.natAbs (HF1.out.trans HR.out) hm1;have e1:((m.natAbs:Nat):Int) = -m:=by omega
   have hw:IntKind.i64.wrap (-m) = -m:=by rw[IntKind.wrap_i64];omega
   rw[e1] at hc;go_wp2_with fail;refine Calls.mono hc ?_;rintro e w2 ⟨rfl,F2⟩;have HR2:Hid (Fr [] W w2):=(HF1.out.trans HR.out).trans F2;clear hc F2 HR;go_wp2;go_ret;exact⟨rfl,HR2.out⟩
  have hc:=HF.out wr m.natAbs (HF1.out.trans HR.out) hm1;have e1:((m.natAbs:Nat):Int)=m:=by omega
  rw[e1] at hc;go_wp2_with fail;refine Calls.mono hc ?_;rintro e w2 ⟨rfl,F2⟩;have HR2:Hid (Fr [] W w2):=(HF1.out.trans HR.out).trans F2;clear hc F2 HR;go_wp2;go_ret;exact⟨rfl,HR2.out⟩
end Tok
open Go.ChangeShapes Go.WideShapes Go.ChangeAt Go.RowKit Go.ChangeMaps
open Wire Flow
theorem range_get {α:Type}(n:Nat)(f:Nat→α)(i:Nat)(x:α)(h:((List.range n).map f)[i]?=some x):i<n∧x=f i:=by
 rw[List.getElem?_map] at h;by_cases hi:i<n
 ·rw[List.getElem?_range hi] at h;exact⟨hi,by simpa using h.symm⟩
 rw[List.getElem?_eq_none (by simp;omega)] at h;cases h
theorem open_argL {H:Type}{α:Type} [Inhabited α] {enc:TypeId × Value→H}{W:WL}{n:Nat}{t e:TypeId}{v:Value}{x:DataW H × List MemPlace}{f:α→Value} (ht:prog.underlying t=some (.slice e)) (hc:prog.cellsOf e=1) (hQ:∀ (k:Nat) (y:Value) (z:DataW H × List MemPlace),DataW.trod enc prog W 0 (fun _=>true) true k e [y]=some z→∃ a,y=f a)
  (h:DataW.trod enc prog W 0 (fun _=>true) true n t [v]=some x) {B:Nat} (hb:∀ el sp,x.1=.slice el sp→el.length≤B):∃ L:List α,L.length≤B∧ArgL W v (L.map f):=by
 rcases Go.Deep.open_slice1 ht hc h with ⟨hcs,-⟩ | ⟨a,len,cap,m,k,V,D,Pl,hcs,-,hl,hm,hmm,hx,hel⟩
 ·have hv:v=.slice none 0 0:=by simpa using hcs
  subst hv;exact⟨[],by simp,none,0,rfl,Nat.le_refl _,by decide,fun h=>absurd h (by simp)⟩
 have hv:v=.slice (some a) len cap:=by simpa using hcs
 subst hv;subst hx;simp only[if_true] at hmm;subst hmm;have hlen:len≤B:=by simpa using hb _ _ rfl
 have each:∀ i,∃ s:α,i<len→W.cell? (a.add i)=some (f s):=fun i=>by
  by_cases hi:i<len
  ·obtain⟨h1,h2⟩:=hel i (by omega);obtain⟨s,hs⟩:=hQ _ _ _ h2;exact⟨s,fun _=>by rw[h1,hs]⟩
  exact⟨default,fun h=>absurd h hi⟩
 obtain⟨S,hS⟩:=Classical.skolem.1 each;obtain⟨g,off,spot⟩:=a;refine⟨(List.range len).map S,by simpa using hlen,some ⟨g,off,spot⟩,m,by simp,by simpa using hl,by unfold maxLen at hm;omega,fun h0=>?_⟩;have h0':0<len:=by simpa using h0
 have hc0:=hS 0 h0';have hspot:spot=none:=by simpa [Addr.add] using World.cell?_spot hc0
 subst hspot;refine⟨g,off,rfl,by have:=lt_of_cell hc0;simpa [Addr.add] using this,fun i x hx=>?_⟩;rw[List.getElem?_map] at hx;cases hy:((List.range len).map S)[i]? with
 | none=>rw[hy] at hx;cases hx
 | some y=>
  rw[hy] at hx;cases hx;obtain⟨hi,rfl⟩:=range_get _ _ _ _ hy;have hc:=hS i hi;rw[add_plain] at hc;exact hc
theorem fr_below {W W':WL}(h:Fr [] W W'):Below W.heap.size W W':=⟨h.os,h.tape,h.output,h.size,fun k hk=>h.block k hk (by simp)⟩
theorem laid_out:laidOutB prog=true:=by kernel_rfl
theorem ownK:ownKnob prog.godebug=none:=by kernel_rfl
theorem base_of {W:WL}(hp:PowTab W)(hs:W.ShapedOpen prog):Base W where
 six:=by
  obtain⟨cs,hc,-⟩:=hs.1 5 _ _ (of_decide_eq_true (by kernel_rfl)) (show _=some (Array.replicate 256 (Value.int .u8 0),412) by kernel_rfl);have:=(Age.1 hc).1;omega
 pow:=hp
 mxl:=Go.Proofs.cell_of_shapedOpen_int hs (of_decide_eq_true (by kernel_rfl)) (show _=some (#[iA 0],3) by kernel_rfl) rfl (by kernel_rfl) (by kernel_rfl) underlying3
 tab:=trivial
def slN {H:Type}:DataW H→Nat
 | .slice el _=>el.length
 | _=>0
end Go.Proofs.YtmolfmgchbjnbaaGreatDoor
