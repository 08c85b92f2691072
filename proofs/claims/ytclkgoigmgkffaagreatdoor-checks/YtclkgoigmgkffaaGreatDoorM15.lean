/-
  Texts Nb Nc Sh Nd Ne.
-/
import Derived.Shelf.Strings.Builder1
import Derived.Shelf.Strings.BuilderF
import Derived.Shelf.Strings.BuilderK
import Derived.Shelf.LaysM
import Derived.Shelf.Strconv.Clone
import Derived.Test.YtclkgoigmgkffaaGreatDoorProg
import Derived.Test.YtclkgoigmgkffaaGreatDoorMA
import Derived.Test.YtclkgoigmgkffaaGreatDoorM14
set_option linter.unusedSimpArgs false
set_option linter.unusedVariables false
set_option maxRecDepth 100000
set_option maxHeartbeats 40000000
namespace Go.Proofs.YtclkgoigmgkffaaGreatDoor
open Go.RowKit
open Wire
def needR (c:UInt8) (no:Nat):Rd Unit:=fun base l=>match l with
 | []=>.inl (no,base)
 | x :: t=>if x=c then .inr ((),t) else .inl (no,base-l.length)
theorem needR_tidy (c:UInt8)(no:Nat)(h0:0<no)(h1:no≤100):Tidy (needR c no):=by
 refine⟨fun {base l f} h=>?_,fun {base l x r} h=>?_⟩
 ·unfold needR at h
  split at h
  ·simp only[Sum.inl.injEq] at h;subst h;exact⟨h0,h1,Nat.le_refl _⟩
  ·split at h
   ·cases h
   ·simp only[Sum.inl.injEq] at h;subst h;exact⟨h0,h1,Nat.sub_le _ _⟩
 ·unfold needR at h
  split at h
  ·cases h
  ·split at h
   ·simp only[Sum.inr.injEq,Prod.mk.injEq] at h
    obtain⟨-,rfl⟩:=h
    rename_i x t _
    exact⟨[x],rfl⟩
   ·cases h
theorem seg_nil (l:List UInt8)(a:Nat):seg l a a=[]:=by
 unfold seg
 rw[List.drop_eq_nil_iff,List.length_take]
 omega
theorem seg_cons {b:ByteArray}{a e:Nat} (h:a<e) (he:e≤b.size):seg (bl b) a e=b[a] :: seg (bl b) (a+1) e:=by
 have hL:=bl_length b
 unfold seg
 have hlt:a<((bl b).take e).length:=by rw[List.length_take];omega
 rw[List.drop_eq_getElem_cons hlt,List.getElem_take]
 congr 1
theorem needU_any {w:World}{r:Nat}{b:ByteArray}{s:Sta}{c:UInt8}{cI nI:Int}{no:Nat} (hc:cI=(c.toNat:Int)) (hn:nI=(no:Int)) (h:RdS w r b s) (hs:b.size≤40000) (h0:0<no) (h1:no≤100) :
  Calls Tryz.prog 96 #[.pointer (some ⟨r,0,none⟩),.int .u8 cI,.int .i64 nI] w fun ee w'=>ee=.returned (.tuple #[])∧RdS w' r b (nextR (needR c no) (bl b) s)∧Fr [r] w w':=by
 have hm:Tryz.prog.follows Departure.mixedOrders=true:=by kernel_rfl
 have hL:=bl_length b
 subst hc hn
 have hfail:=fun (place:Nat) (hp:place≤b.size) (W:World) (hW:RdS W r b s)=>failU_any (place:=place) rfl hW hs h0 h1 hp
 have K:=h
 obtain⟨⟨c0,c1,c2,c3,c4,f1,f2,f3,f4⟩,hok⟩:=h
 by_cases hae:stA b.size s=stE b.size s
 ·
  have hlt:stA b.size s≤b.size:=by
   rcases s with ⟨x,y⟩ | ⟨x,y⟩
   ·exact Nat.le_refl _
   ·have:=hok.1;have:=hok.2;simp only[stA];omega
  have hnext:nextR (needR c no) (bl b) s=failS no (stA b.size s) s:=by
   rcases s with ⟨x,y⟩ | ⟨x,y⟩
   ·rfl
   ·simp only[stA,stE] at hae
    subst hae
    simp only[nextR,failS,seg_nil,needR,stA]
  rw[hnext]
  have HF:Hid _:=hfail _ hlt
  have hd:((stA b.size s:Int)==(stE b.size s:Int))=true:=by simp;omega
  rw[hae] at c1 hd HF ⊢
  generalize stE b.size s=e at *
  clear hfail hnext hae hok hlt
  go_enter Tryz.func96,Tryz.ntmps96
  go_wp2
  go_quiet (fail)
  go_wp2_with fail
  refine (HF.out _ ?hk).mono ?_
  case hk=>exact K.heap rfl
  rintro ee w1 ⟨rfl,K1,F1⟩
  go_wp2
  refine bodyPost_ret (results_none rfl _ _ _) rfl ?_
  exact⟨rfl,K1,⟨F1.os,F1.tape,F1.output,F1.size,F1.block⟩⟩
 ·rcases s with ⟨x,y⟩ | ⟨a,e⟩
  ·exact absurd rfl hae
  ·obtain⟨o1,o2⟩:=hok
   simp only[stA,stE] at hae c1 c2
   have hlt:a<e:=by omega
   have hsz:a<b.size:=by omega
   have hcons:=seg_cons hlt (by omega:e≤b.size)
   have hd:((a:Int)==(e:Int))=false:=by simp;omega
   have g1:(a:Int)<b.size:=by omega
   by_cases hb:b[a]=c
   ·have hd2:((b[a].toNat:Int)!=(c.toNat:Int))=false:=by simp[hb]
    have hnext:nextR (needR c no) (bl b) (.inr (a,e))=.inr (a+1,e):=by
     simp only[nextR,hcons,needR,if_pos hb]
     rw[seg_length (by omega)]
     congr 2
     omega
    rw[hnext]
    have K1:RdS (w.setCell ⟨r,1,none⟩ (.int .i64 ((a+1:Nat):Int))) r b (.inr (a+1,e)):=⟨K.c.set1 (a+1),by show a+1≤e∧_;omega⟩
    have ea:((a+1:Nat):Int)=(a:Int)+1:=by omega
    rw[ea] at K1
    clear hfail hnext hcons hL hb
    go_enter Tryz.func96,Tryz.ntmps96
    go_wp2
    go_quiet (fail)
    go_wp2
    go_end0
    refine⟨rfl,K1.heap rfl,?_⟩
    exact ((Fr.refl [r] w).setCell (p:=⟨r,1,none⟩) (.inl (by simp)) _).drewN _
   ·have hd2:((b[a].toNat:Int)!=(c.toNat:Int))=true:=by
     simp only[bne_iff_ne,ne_eq]
     intro e'
     exact hb (UInt8.toNat_inj.1 (by omega))
    have hnext:nextR (needR c no) (bl b) (.inr (a,e))=failS no a (.inr (a,e)):=by
     simp only[nextR,hcons,needR,if_neg hb,failS]
     rw[← hcons,seg_length (by omega)]
     congr 2
     omega
    rw[hnext]
    have HF:Hid _:=hfail a (by omega)
    clear hfail hnext hcons hL hb
    go_enter Tryz.func96,Tryz.ntmps96
    go_wp2
    go_quiet (fail)
    go_wp2_with fail
    refine (HF.out _ ?hk).mono ?_
    case hk=>exact K.heap rfl
    rintro ee w1 ⟨rfl,K1,F1⟩
    go_wp2
    refine bodyPost_ret (results_none rfl _ _ _) rfl ?_
    exact⟨rfl,K1,⟨F1.os,F1.tape,F1.output,F1.size,F1.block⟩⟩
def numU:Rd Nat:=fun base c=>match num c with
 | none=>.inl (6,base-c.length)
 | some p=>.inr p
theorem numU_tidy:Tidy numU:=by
 refine⟨fun {base l f} h=>?_,fun {base l x r} h=>?_⟩
 ·unfold numU at h
  split at h
  ·simp only[Sum.inl.injEq] at h;subst h;exact⟨by simp,by simp,Nat.sub_le _ _⟩
  ·cases h
 ·unfold numU at h
  split at h
  ·cases h
  ·rename_i p hp
   simp only[Sum.inr.injEq] at h
   subst h
   exact⟨_,(num_some hp).1⟩
theorem bl_extract (b:ByteArray)(a e:Nat):bl (b.extract a e)=seg (bl b) a e:=by
 unfold bl seg
 rw[ByteArray.data_extract,Array.toList_extract,List.drop_take]
theorem num_nil:num []=none:=rfl
theorem stA_le {b:ByteArray}{s:Sta} (h:okSta (bl b) s):stA b.size s≤stE b.size s∧stE b.size s≤b.size:=by
 have hL:=bl_length b
 rcases s with ⟨x,y⟩ | ⟨x,y⟩
 ·exact⟨Nat.le_refl _,Nat.le_refl _⟩
 ·obtain⟨h1,h2⟩:=h
  exact⟨h1,by simp only[stE];omega⟩
theorem number_any {w:World}{r:Nat}{b:ByteArray}{s:Sta} (h:RdS w r b s) (hs:b.size≤40000) :
  Calls Tryz.prog 172 #[.pointer (some ⟨r,0,none⟩)] w fun ee w'=>ee=.returned (.int .i64 (outR numU (bl b) 0 s:Nat))∧RdS w' r b (nextR numU (bl b) s)∧Fr [r] w w':=by
 have hm:Tryz.prog.follows Departure.mixedOrders=true:=by kernel_rfl
 have hL:=bl_length b
 obtain⟨l1,l2⟩:=stA_le h.ok
 have hfail:=fun (W:World) (hW:RdS W r b s)=>failU_any (place:=stA b.size s) (no:=6) rfl hW hs (by omega) (by omega) (by omega)
 have hseg:(bl (b.extract (stA b.size s) (stE b.size s))).length=stE b.size s-stA b.size s:=by rw[bl_extract,seg_length (by omega)]
 have hx:(b.extract (stA b.size s) (stE b.size s)).size=stE b.size s-stA b.size s:=by rw[← bl_length];exact hseg
 have hread:=fun (W:World)=>numRead_any (b.extract (stA b.size s) (stE b.size s)) (by omega) W
 have K:=h
 obtain⟨⟨c0,c1,c2,c3,c4,f1,f2,f3,f4⟩,hok⟩:=h
 have g1:(0:Int)≤(stA b.size s:Int):=by omega
 have g2:(stA b.size s:Int)≤(stE b.size s:Int):=by omega
 have g3:(stE b.size s:Int)≤(b.size:Int):=by omega
 cases hn:num (bl (b.extract (stA b.size s) (stE b.size s))) with
 | none=>
  have hnext:nextR numU (bl b) s=failS 6 (stA b.size s) s:=by
   rcases s with ⟨x,y⟩ | ⟨x,y⟩
   ·rfl
   ·rw[bl_extract] at hn hseg
    simp only[stA,stE] at hn hseg l1
    simp only[nextR,failS,numU,hn,stA,hseg]
    congr 2
    omega
  have hout:outR numU (bl b) 0 s=0:=by
   rcases s with ⟨x,y⟩ | ⟨x,y⟩
   ·rfl
   ·rw[bl_extract] at hn
    simp only[stA,stE] at hn
    simp only[outR,numU,hn]
  rw[hnext,hout]
  have hV:numV (bl (b.extract (stA b.size s) (stE b.size s)))=0:=by simp only[numV,hn]
  have hK:numK (bl (b.extract (stA b.size s) (stE b.size s)))=0:=by simp only[numK,hn]
  simp only[hV,hK] at hread
  have HF:Hid _:=hfail
  have HR:Hid _:=hread
  generalize stA b.size s=a at *
  generalize stE b.size s=e at *
  clear hfail hread hnext hout hV hK hn hseg hx hok
  go_enter Tryz.func172,Tryz.ntmps172
  go_wp2
  go_quiet (first | (go_at_call 178;refine Calls.quiet_of_same (HR.out _)))
  go_wp2_with fail
  refine (HF.out _ ?hk).mono ?_
  case hk=>exact K.heap rfl
  rintro ee w1 ⟨rfl,K1,F1⟩
  go_wp2
  go_ret
  exact⟨rfl,K1,⟨F1.os,F1.tape,F1.output,F1.size,F1.block⟩⟩
 | some p=>
  obtain⟨n,q⟩:=p
  obtain⟨e1,hlt⟩:=num_some hn
  rcases s with ⟨x,y⟩ | ⟨a,e⟩
  ·exfalso
   rw[bl_extract] at hn
   simp only[stA,stE,seg_nil,num_nil] at hn
   cases hn
  ·simp only[stA,stE] at *
   have hdn:0<(digs n).length:=by
    cases hd:digs n with
    | nil=>exact absurd hd (digs_ne _ (by omega))
    | cons a r=>simp
   have hlen:=congrArg List.length e1
   rw[hseg,Lla] at hlen
   have hn2:=hn
   rw[bl_extract] at hn2
   have hnext:nextR numU (bl b) (.inr (a,e))=.inr (e-q.length,e):=by simp only[nextR,numU,hn2]
   have hout:outR numU (bl b) 0 (.inr (a,e))=n:=by simp only[outR,numU,hn2]
   have hV:numV (bl (b.extract a e))=n:=by simp only[numV,hn]
   have hK:numK (bl (b.extract a e))=(digs n).length:=by simp only[numK,hn,hseg];omega
   simp only[hV,hK] at hread
   rw[hnext,hout]
   have HR:Hid _:=hread
   have ea:e-q.length=a+(digs n).length:=by omega
   rw[ea]
   have hb10:=digs_len n
   obtain⟨k,hk⟩:∃ k,(digs n).length=k:=⟨_,rfl⟩
   rw[hk] at hdn HR hlen hb10 ⊢
   have K1:RdS (w.setCell ⟨r,1,none⟩ (.int .i64 ((a+k:Nat):Int))) r b (.inr (a+k,e)):=⟨K.c.set1 (a+k),by show a+k≤e∧_;exact⟨by omega,hok.2⟩⟩
   rw[Int.natCast_add] at K1
   have g4:((k:Int)==0)=false:=by simp;omega
   clear hfail hread hnext hout hV hK hn hn2 hseg hx hok K ea hk e1 hlen
   go_enter Tryz.func172,Tryz.ntmps172
   go_wp2
   go_quiet (first | (go_at_call 178;refine Calls.quiet_of_same (HR.out _)))
   go_wp2
   go_ret
   exact⟨rfl,K1.heap rfl,((Fr.refl [r] w).setCell (p:=⟨r,1,none⟩) (.inl (by simp)) _).drewN _⟩
theorem numberR_next (lo hi:Nat)(b:ByteArray)(s:Sta)(hok:okSta (bl b) s) :
  nextR (numberR lo hi) (bl b) s=(if outR numU (bl b) 0 s<lo∨hi<outR numU (bl b) 0 s then failS 4 (stA b.size s) (nextR numU (bl b) s) else nextR numU (bl b) s) ∧
  outR (numberR lo hi) (bl b) 0 s=(if outR numU (bl b) 0 s<lo∨hi<outR numU (bl b) 0 s then 0 else outR numU (bl b) 0 s):=by
 have hL:=bl_length b
 rcases s with ⟨x,y⟩ | ⟨a,e⟩
 ·refine⟨?_,?_⟩
  ·exact (ite_self (Sum.inl (x,y))).symm
  ·exact (ite_self 0).symm
 ·obtain⟨o1,o2⟩:=hok
  cases hn:num (seg (bl b) a e) with
  | none=>
   refine⟨?_,?_⟩
   ·simp only[nextR,outR,numU,numberR,hn,failS];rw[ite_self]
   ·simp only[nextR,outR,numU,numberR,hn,failS];rw[ite_self]
  | some p=>
   obtain⟨n,q⟩:=p
   simp only[nextR,outR,numU,numberR,hn,stA]
   by_cases hc:n<lo∨hi<n
   ·simp only[if_pos hc,failS,seg_length o2]
    exact⟨by congr 2;omega,trivial⟩
   ·simp only[if_neg hc]
    exact⟨trivial,trivial⟩
theorem numU_small (b:ByteArray)(s:Sta):outR numU (bl b) 0 s<34359738368:=by
 rcases s with ⟨x,y⟩ | ⟨a,e⟩
 ·simp[outR]
 ·simp only[outR,numU]
  cases hn:num (seg (bl b) a e) with
  | none=>simp
  | some p=>exact (num_some hn).2
theorem limited_any {w:World}{r:Nat}{b:ByteArray}{s:Sta}{lo hi:Nat}{loI hiI:Int} (hlo:loI=(lo:Int)) (hhi:hiI=(hi:Int)) (h:RdS w r b s) (hs:b.size≤40000) (h1:lo≤1000) (h2:hi≤100000) :
  Calls Tryz.prog 104 #[.pointer (some ⟨r,0,none⟩),.int .i64 loI,.int .i64 hiI] w fun ee w'=>ee=.returned (.int .i64 (outR (numberR lo hi) (bl b) 0 s:Nat))∧RdS w' r b (nextR (numberR lo hi) (bl b) s)∧Fr [r] w w':=by
 subst hlo hhi
 obtain⟨e1,e2⟩:=numberR_next lo hi b s h.ok
 rw[e1,e2]
 obtain⟨l1,l2⟩:=stA_le h.ok
 have hsm:=numU_small b s
 have hnum:=number_any h hs
 have hfail:=fun (W:World) (hW:RdS W r b (nextR numU (bl b) s))=>failU_any (place:=stA b.size s) (no:=4) rfl hW hs (by omega) (by omega) (by omega)
 have c1:=h.c.c1
 obtain⟨x,hx⟩:∃ x,outR numU (bl b) 0 s=x:=⟨_,rfl⟩
 obtain⟨s',hs'⟩:∃ s',nextR numU (bl b) s=s':=⟨_,rfl⟩
 rw[hx] at hsm hnum ⊢
 rw[hs'] at hnum hfail ⊢
 have HF:Hid _:=hfail
 generalize stA b.size s=a at *
 clear hfail e1 e2 hx hs' h
 by_cases q1:x<lo
 ·rw[if_pos (.inl q1),if_pos (.inl q1)]
  have g1:(x:Int)<lo:=by omega
  go_enter Tryz.func104,Tryz.ntmps104
  go_wp2_with fail
  refine hnum.mono ?_
  rintro ee w1 ⟨rfl,K1,F1⟩
  go_wp2_with fail
  refine (HF.out _ K1).mono ?_
  rintro ee w2 ⟨rfl,K2,F2⟩
  go_wp2
  go_ret
  exact⟨rfl,K2,F1.trans F2⟩
 ·have g1:¬ (x:Int)<lo:=by omega
  by_cases q2:hi<x
  ·rw[if_pos (.inr q2),if_pos (.inr q2)]
   have g2:(hi:Int)<x:=by omega
   go_enter Tryz.func104,Tryz.ntmps104
   go_wp2_with fail
   refine hnum.mono ?_
   rintro ee w1 ⟨rfl,K1,F1⟩
   go_wp2_with fail
   refine (HF.out _ K1).mono ?_
   rintro ee w2 ⟨rfl,K2,F2⟩
   go_wp2
   go_ret
   exact⟨rfl,K2,F1.trans F2⟩
  ·have q3:¬ (x<lo∨hi<x):=by omega
   rw[if_neg q3,if_neg q3]
   have g2:¬ (hi:Int)<x:=by omega
   go_enter Tryz.func104,Tryz.ntmps104
   go_wp2_with fail
   refine hnum.mono ?_
   rintro ee w1 ⟨rfl,K1,F1⟩
   go_wp2
   go_ret
   exact⟨rfl,K1,F1⟩
end Go.Proofs.YtclkgoigmgkffaaGreatDoor
namespace Go.Proofs
open Go.Shelf
def Tryz.lays169_ren:Go.Shelf.Ren:=⟨fun | 169=>197 | n=>n,fun | 70=>295 | 9=>9 | 0=>0 | 72=>297 | 37=>129 | 127=>331 | 3=>3 | 5=>5 | n=>n,fun | n=>n⟩
theorem Tryz.lays169:Go.Proofs.Lays.n169 Tryz.prog Tryz.lays169_ren:={
 mixed:=by kernel_rfl
 f169:=Tryz.func197.trans (congrArg some (by kernel_rfl))
 t0:=Tryz.underlying0
 a0:=Tryz.isAgg0
 z0:=Tryz.sizeOf0
 v0:=Tryz.zeroValue0
 t3:=Tryz.underlying3
 a3:=Tryz.isAgg3
 z3:=Tryz.sizeOf3
 v3:=Tryz.zeroValue3
 t9:=Tryz.underlying9
 a9:=Tryz.isAgg9
 z9:=Tryz.sizeOf9
 v9:=Tryz.zeroValue9
 t37:=Tryz.underlying129
 a37:=Tryz.isAgg129
 z37:=Tryz.sizeOf129
 v37:=Tryz.zeroValue129
 t70:=Tryz.underlying295
 a70:=Tryz.isAgg295
 z70:=Tryz.sizeOf295
 v70:=Tryz.zeroValue295
 t72:=Tryz.underlying297
 a72:=Tryz.isAgg297
 z72:=Tryz.sizeOf297
 v72:=Tryz.zeroValue297
 t127:=Tryz.underlying331
 a127:=Tryz.isAgg331
 z127:=Tryz.sizeOf331
 v127:=Tryz.zeroValue331 }
theorem Tryz.Builder_Extra_169:Builder.Extra Tryz.prog Tryz.lays169_ren:={
 sizeBuilder:=by kernel_rfl
 liesBuilder:=by kernel_rfl
 t5:=Tryz.underlying5
 a5:=Tryz.isAgg5
 z5:=Tryz.sizeOf5
 v5:=Tryz.zeroValue5
 infoByte:=by kernel_rfl
 cellsByte:=by kernel_rfl
 sizeByte:=by kernel_rfl
 neB5:=by decide }
open Go.RowKit in
open Go.RowKit in
open Go.RowKit in
open Go.RowKit in
open Go.RowKit in
open Go.RowKit in
open Go.RowKit in
open Go.RowKit in
open Go.RowKit in
theorem Tryz.Builder_String_any_k (B b:Nat)(l:List UInt8)(w:World)(h:Lib.IsBuilderF 297 5 B b (Lib.byteCells l) w)(hBw:B≤w.heap.size) :
  Calls Tryz.prog 197 #[.pointer (some ⟨b,0,none⟩)] w fun e w'=>e=.returned (.string ⟨l.toArray⟩)∧(Lib.IsBuilderF 297 5 B b (Lib.byteCells l) w'∧Below B w w'∧Lib.OthersKept 5 (some b) w w'):=Any.Builder_String_any_k Tryz.lays169 Tryz.Builder_Extra_169 B b l w h hBw
def Tryz.laysM316_ren:Go.Shelf.Ren:=⟨fun | 316=>227 | n=>n,fun | 9=>9 | 3=>3 | 4=>4 | 37=>129 | 0=>0 | 127=>331 | 5=>5 | n=>n,fun | n=>n⟩
theorem Tryz.laysM316:Go.Proofs.LaysM.n316 Tryz.prog Tryz.laysM316_ren:={
 mixed:=by kernel_rfl
 f316:=Tryz.func227.trans (congrArg some (by kernel_rfl))
 t0:=Tryz.underlying0
 a0:=Tryz.isAgg0
 z0:=Tryz.sizeOf0
 v0:=Tryz.zeroValue0
 t3:=Tryz.underlying3
 a3:=Tryz.isAgg3
 z3:=Tryz.sizeOf3
 v3:=Tryz.zeroValue3
 t4:=Tryz.underlying4
 a4:=Tryz.isAgg4
 z4:=Tryz.sizeOf4
 v4:=Tryz.zeroValue4
 t9:=Tryz.underlying9
 a9:=Tryz.isAgg9
 z9:=Tryz.sizeOf9
 v9:=Tryz.zeroValue9
 t37:=Tryz.underlying129
 a37:=Tryz.isAgg129
 z37:=Tryz.sizeOf129
 v37:=Tryz.zeroValue129
 t127:=Tryz.underlying331
 a127:=Tryz.isAgg331
 z127:=Tryz.sizeOf331
 v127:=Tryz.zeroValue331
 t5:=Tryz.underlying5
 a5:=Tryz.isAgg5
 z5:=Tryz.sizeOf5
 v5:=Tryz.zeroValue5
 i0:=by kernel_rfl
 i3:=by kernel_rfl
 i4:=by kernel_rfl
 i5:=by kernel_rfl
 i9:=by kernel_rfl
 i37:=by kernel_rfl
 i127:=by kernel_rfl }
open Go.RowKit in
theorem Tryz.stringslite_Clone (s:ByteArray)(w:World)(hlim:s.size≤281474976710656) :
  Calls Tryz.prog 227 #[.string s] w fun e w'=>e=.returned (.string s)∧Below w.heap.size w w':=Any.stringslite_Clone Tryz.laysM316 s w hlim
end Go.Proofs
namespace Go.Proofs.YtclkgoigmgkffaaGreatDoor
open Go.RowKit
open Wire
theorem cloneU_any (s:ByteArray)(w:World)(hs:s.size≤100000):Calls Tryz.prog 198 #[.string s] w fun e w'=>e=.returned (.string s)∧Fr [] w w':=by
 have hc:=Tryz.stringslite_Clone s w (by omega)
 go_enter Tryz.func198,Tryz.ntmps198
 go_wp2_with fail
 refine hc.mono ?_
 rintro e w1 ⟨rfl,lo⟩
 go_wp2
 go_ret
 exact⟨rfl,Fr.of_below lo⟩
def advS (x:Nat):Sta→Sta
 | .inl f=>.inl f
 | .inr p=>.inr (p.1+x,p.2)
theorem seg_take (l:List UInt8)(a e x:Nat)(h:a+x≤e):(seg l a e).take x=seg l a (a+x):=by
 unfold seg
 rw[List.drop_take,List.drop_take,List.take_take]
 congr 1
 omega
theorem bytesR_next (lim:Nat)(b:ByteArray)(s:Sta)(hok:okSta (bl b) s)(x:Nat)(s':Sta)(hx:outR (numberR 0 lim) (bl b) 0 s=x)(hs':nextR (numberR 0 lim) (bl b) s=s') :
  nextR (bytesR lim) (bl b) s=(if stE b.size s' - stA b.size s'<x then failS 7 (stA b.size s) s' else advS x s') ∧
  outR (bytesR lim) (bl b) ⟨#[]⟩ s=(if stE b.size s' - stA b.size s'<x then ⟨#[]⟩ else b.extract (stA b.size s') (stA b.size s'+x)):=by
 have hL:=bl_length b
 rcases s with ⟨f,y⟩ | ⟨a,e⟩
 ·subst hx hs'
  have c0:¬ (stE b.size (nextR (numberR 0 lim) (bl b) (.inl (f,y)))-stA b.size (nextR (numberR 0 lim) (bl b) (.inl (f,y)))<outR (numberR 0 lim) (bl b) 0 (.inl (f,y))):=by
   show ¬ (b.size-b.size<0)
   omega
  rw[if_neg c0,if_neg c0]
  refine⟨rfl,?_⟩
  apply bl_inj
  rw[bl_extract]
  show _=seg (bl b) b.size (b.size+0)
  rw[Nat.add_zero,seg_nil]
  rfl
 ·obtain⟨o1,o2⟩:=hok
  have hsl:=seg_length (l:=bl b) (a:=a) o2
  cases hn:numberR 0 lim e (seg (bl b) a e) with
  | inl f=>
   rw[outR_inl hn] at hx
   rw[nextR_inl hn] at hs'
   subst hx hs'
   have hb:bytesR lim e (seg (bl b) a e)=.inl f:=by simp only[bytesR,hn,bnd]
   rw[nextR_inl hb,outR_inl hb]
   have c0:¬ (stE b.size (.inl f)-stA b.size (.inl f)<0):=by omega
   rw[if_neg c0,if_neg c0]
   refine⟨rfl,?_⟩
   apply bl_inj
   rw[bl_extract]
   show _=seg (bl b) b.size (b.size+0)
   rw[Nat.add_zero,seg_nil]
   rfl
  | inr p=>
   obtain⟨n,q⟩:=p
   rw[outR_inr hn] at hx
   rw[nextR_inr hn] at hs'
   subst hx hs'
   obtain⟨t1,t2,t3⟩:=(numberR_tidy 0 lim).seg o1 o2 hn
   by_cases hq:q.length<n
   ·have hb:bytesR lim e (seg (bl b) a e)=.inl (7,e-(seg (bl b) a e).length):=by simp only[bytesR,hn,bnd,if_pos hq]
    have c0:stE b.size (.inr (e-q.length,e))-stA b.size (.inr (e-q.length,e))<n:=by simp only[stA,stE];omega
    rw[nextR_inl hb,outR_inl hb,if_pos c0,if_pos c0]
    refine⟨?_,rfl⟩
    simp only[failS,stA,hsl]
    congr 2
    omega
   ·have hb:bytesR lim e (seg (bl b) a e)=.inr (⟨(q.take n).toArray⟩,q.drop n):=by simp only[bytesR,hn,bnd,if_neg hq]
    have c0:¬ stE b.size (.inr (e-q.length,e))-stA b.size (.inr (e-q.length,e))<n:=by simp only[stA,stE];omega
    rw[nextR_inr hb,outR_inr hb,if_neg c0,if_neg c0]
    refine⟨?_,?_⟩
    ·simp only[advS,List.length_drop]
     congr 2
     omega
    ·apply bl_inj
     rw[bl_extract,bl_mk]
     simp only[stA]
     rw[← seg_take (bl b) (e-q.length) e n (by omega),t1]
theorem outN_le (lim:Nat)(b:ByteArray)(s:Sta):outR (numberR 0 lim) (bl b) 0 s≤lim:=by
 rcases s with ⟨x,y⟩ | ⟨a,e⟩
 ·simp[outR]
 ·cases hn:numberR 0 lim e (seg (bl b) a e) with
  | inl f=>rw[outR_inl hn];omega
  | inr p=>rw[outR_inr (x:=p.1) (r:=p.2) hn];exact (numberR_inr (n:=p.1) (r:=p.2) hn).2.2
theorem bytesOf_any {w:World}{r:Nat}{b:ByteArray}{s:Sta}{lim:Nat}{lI:Int} (hlim:lI=(lim:Int)) (h:RdS w r b s) (hs:b.size≤40000) (h2:lim≤20000) :
  Calls Tryz.prog 173 #[.pointer (some ⟨r,0,none⟩),.int .i64 lI] w fun ee w'=>ee=.returned (.string (outR (bytesR lim) (bl b) ⟨#[]⟩ s))∧RdS w' r b (nextR (bytesR lim) (bl b) s)∧Fr [r] w w':=by
 subst hlim
 have hm:Tryz.prog.follows Departure.mixedOrders=true:=by kernel_rfl
 have hL:=bl_length b
 have hlm:=limited_any (lo:=0) (hi:=lim) rfl rfl h hs (by omega) (by omega)
 have hok':=(numberR_tidy 0 lim).next h.ok
 have hle:=outN_le lim b s
 obtain⟨x,hx⟩:∃ x,outR (numberR 0 lim) (bl b) 0 s=x:=⟨_,rfl⟩
 obtain⟨s',hs'⟩:∃ s',nextR (numberR 0 lim) (bl b) s=s':=⟨_,rfl⟩
 obtain⟨e1,e2⟩:=bytesR_next lim b s h.ok x s' hx hs'
 rw[e1,e2]
 rw[hx] at hlm hle
 rw[hs'] at hlm hok'
 obtain⟨l1,l2⟩:=stA_le h.ok
 obtain⟨m1,m2⟩:=stA_le hok'
 have hfail:=fun (W:World) (hW:RdS W r b s')=>failU_any (place:=stA b.size s) (no:=7) rfl hW hs (by omega) (by omega) (by omega)
 have c1:=h.c.c1
 have HF:Hid _:=hfail
 clear hfail e1 e2 hx hs' h
 generalize stA b.size s=a at *
 change Calls Tryz.prog 104 #[.pointer (some ⟨r,0,none⟩),.int .i64 0,.int .i64 lim] w _ at hlm
 by_cases q1:stE b.size s' - stA b.size s'<x
 ·rw[if_pos q1,if_pos q1]
  have g1:(stE b.size s':Int)-(stA b.size s':Int)<x:=by omega
  go_enter Tryz.func173,Tryz.ntmps173
  go_wp2_with fail
  refine hlm.mono ?_
  rintro ee w1 ⟨rfl,K1,F1⟩
  obtain⟨d0,d1,d2,d3,d4,f1,f2,f3,f4⟩:=K1.c
  clear hlm
  go_wp2
  go_quiet (fail)
  go_wp2_with fail
  refine (HF.out _ ?hk).mono ?_
  case hk=>exact K1.heap rfl
  rintro ee w2 ⟨rfl,K2,F2⟩
  have F2:Fr [r] w1 w2:=⟨F2.os,F2.tape,F2.output,F2.size,F2.block⟩
  go_wp2
  go_ret
  exact⟨rfl,K2,F1.trans F2⟩
 ·rw[if_neg q1,if_neg q1]
  have g1:¬ (stE b.size s':Int)-(stA b.size s':Int)<x:=by omega
  have hK:∀ W:World,RdS W r b s'→RdS (W.setCell ⟨r,1,none⟩ (.int .i64 ((stA b.size s'+x:Nat):Int))) r b (advS x s'):=fun W hW=>by
   refine⟨?_,?_⟩
   ·have:=hW.c.set1 (stA b.size s'+x)
    rcases s' with ⟨f,y⟩ | ⟨a,e⟩
    ·have hx0:x=0:=by simp only[stA,stE] at q1;omega
     subst hx0
     exact this
    ·exact this
   ·rcases s' with ⟨f,y⟩ | ⟨a,e⟩
    ·exact hok'
    ·simp only[stA,stE] at q1 m1
     exact⟨by simp only;omega,hok'.2⟩
  have HK:Hid _:=hK
  have g2:(stA b.size s':Int)+x≤b.size:=by omega
  have hcl:=fun (W:World)=>cloneU_any (b.extract (stA b.size s') (stA b.size s'+x)) W (by rw[ByteArray.size_extract];omega)
  have HC:Hid _:=hcl
  clear hK hcl
  go_enter Tryz.func173,Tryz.ntmps173
  go_wp2_with fail
  refine hlm.mono ?_
  rintro ee w1 ⟨rfl,K1,F1⟩
  obtain⟨d0,d1,d2,d3,d4,f1,f2,f3,f4⟩:=K1.c
  clear hlm
  go_wp2
  go_quiet (fail)
  go_wp2
  have K1':RdS (w1.drewN nq) r b s':=K1.heap rfl
  have K2:=HK.out _ K1'
  have C2:=K1'.c.set1 (stA b.size s'+x)
  have F2:Fr [r] w1 ((w1.drewN nq).setCell ⟨r,1,none⟩ (.int .i64 ((stA b.size s'+x:Nat):Int))):=((Fr.refl [r] w1).drewN nq).setCell (p:=⟨r,1,none⟩) (.inl (by simp)) _
  rw[Int.natCast_add] at K2 C2 F2
  generalize (w1.drewN nq).setCell ⟨r,1,none⟩ (.int .i64 ((stA b.size s':Int)+(x:Int)))=W2 at *
  obtain⟨d0,d1,d2,d3,d4,f1,f2,f3,f4⟩:=C2
  have F2:=F1.trans F2
  clear K1' K1 F1 HK HF m1 m2 l1 l2 q1 g1 hok'
  rw[Int.natCast_add] at d1
  have g3:(0:Int)≤(stA b.size s':Int)+x-x:=by omega
  have g4:(stA b.size s':Int)+x-x=stA b.size s':=by omega
  have g5:IntKind.i64.wrap (stA b.size s':Int)=stA b.size s':=by rw[IntKind.wrap_i64];omega
  have g6:(stA b.size s':Int)≤(stA b.size s':Int)+x:=by omega
  have g7:(0:Int)≤(stA b.size s':Int):=by omega
  refine wp_region_tail 15 hm (by kernel_rfl) ?_
  simp only[List.take_succ_cons,List.take_zero,List.drop_succ_cons,List.drop_zero]
  repeat still_step
  refine wpStill_nil ?_
  go_wp2_with fail
  refine (HC.out _).mono ?_
  rintro ee w3 ⟨rfl,F3⟩
  have F3:Fr [] W2 w3:=⟨F3.os,F3.tape,F3.output,F3.size,F3.block⟩
  clear HC d0 d1 d2 d3 d4 f1 f2 f3 f4 g4 g5
  go_wp2
  go_ret
  exact⟨rfl,K2.fr F3 (by simp),F2.trans (F3.mono (by simp))⟩
theorem text_any {w:World}{r:Nat}{b:ByteArray}{s:Sta} (h:RdS w r b s) (hs:b.size≤40000) :
  Calls Tryz.prog 100 #[.pointer (some ⟨r,0,none⟩)] w fun ee w'=>ee=.returned (.string (outR (bytesR 100) (bl b) ⟨#[]⟩ s))∧RdS w' r b (nextR (bytesR 100) (bl b) s)∧Fr [r] w w':=by
 have hb:=bytesOf_any (lim:=100) rfl h hs (by omega)
 change Calls Tryz.prog 173 #[.pointer (some ⟨r,0,none⟩),.int .i64 100] w _ at hb
 generalize outR (bytesR 100) (bl b) ⟨#[]⟩ s=o at *
 generalize nextR (bytesR 100) (bl b) s=s' at *
 clear h
 go_enter Tryz.func100,Tryz.ntmps100
 go_wp2_with fail
 refine hb.mono ?_
 rintro ee w1 ⟨rfl,K1,F1⟩
 clear hb
 go_wp2
 go_ret
 exact⟨rfl,K1,F1⟩
def oneR (ip:ByteArray→Bool) (most:Nat):Rd ByteArray:=fun base c=>
 bnd (bytesR most base c) fun p=>if ip p.1=true then .inr p else .inl (2,base-p.2.length-p.1.size)
theorem oneR_tidy (ip:ByteArray→Bool)(most:Nat):Tidy (oneR ip most):=by
 refine⟨fun {base c f} h=>?_,fun {base c x r} h=>?_⟩
 ·rcases bnd_inl h with h | ⟨⟨s,u⟩,h1,h2⟩
  ·exact (bytesR_tidy _).bad h
  ·simp only at h2
   split at h2
   ·cases h2
   ·simp only[Sum.inl.injEq] at h2;subst h2;exact⟨by simp,by simp,by simp only;omega⟩
 ·obtain⟨⟨s,u⟩,h1,h2⟩:=bnd_inr h
  simp only at h2
  split at h2
  ·simp only[Sum.inr.injEq,Prod.mk.injEq] at h2
   obtain⟨rfl,rfl⟩:=h2
   exact (bytesR_tidy _).good h1
  ·cases h2
theorem oneR_next (ip:ByteArray→Bool)(most:Nat)(b:ByteArray)(s:Sta)(hok:okSta (bl b) s)(h0:ip ⟨#[]⟩=true)(o:ByteArray)(s':Sta)(ho:outR (bytesR most) (bl b) ⟨#[]⟩ s=o)(hs':nextR (bytesR most) (bl b) s=s') :
  nextR (oneR ip most) (bl b) s=(if ip o=true then s' else failS 2 (stA b.size s' - o.size) s')∧(ip o=true→outR (oneR ip most) (bl b) ⟨#[]⟩ s=o):=by
 rcases s with ⟨f,y⟩ | ⟨a,e⟩
 ·subst ho hs'
  have c0:ip (outR (bytesR most) (bl b) ⟨#[]⟩ (.inl (f,y)))=true:=h0
  rw[if_pos c0]
  exact⟨rfl,fun _=>rfl⟩
 ·cases hn:bytesR most e (seg (bl b) a e) with
  | inl f=>
   rw[outR_inl hn] at ho
   rw[nextR_inl hn] at hs'
   subst ho hs'
   have hb:oneR ip most e (seg (bl b) a e)=.inl f:=by simp only[oneR,hn,bnd]
   rw[nextR_inl hb,outR_inl hb,if_pos h0]
   exact⟨rfl,fun _=>rfl⟩
  | inr p=>
   obtain⟨n,q⟩:=p
   rw[outR_inr hn] at ho
   rw[nextR_inr hn] at hs'
   subst ho hs'
   by_cases hi:ip n=true
   ·have hb:oneR ip most e (seg (bl b) a e)=.inr (n,q):=by simp only[oneR,hn,bnd,if_pos hi]
    rw[nextR_inr hb,outR_inr hb,if_pos hi]
    exact⟨rfl,fun _=>rfl⟩
   ·have hb:oneR ip most e (seg (bl b) a e)=.inl (2,e-q.length-n.size):=by simp only[oneR,hn,bnd,if_neg hi]
    rw[nextR_inl hb,if_neg hi]
    exact⟨rfl,fun h=>absurd h hi⟩
theorem bytes_place {lim:Nat}{b:ByteArray}{s s':Sta}{o:ByteArray} (ho:outR (bytesR lim) (bl b) ⟨#[]⟩ s=o) (hs':nextR (bytesR lim) (bl b) s=s') (hok:okSta (bl b) s):o.size≤stA b.size s'∧o.size≤lim:=by
 have e0:(⟨#[]⟩:ByteArray).size=0:=rfl
 rcases s with ⟨f,y⟩ | ⟨a,e⟩
 ·subst ho hs'
  exact⟨by show (⟨#[]⟩:ByteArray).size≤_;omega,by show (⟨#[]⟩:ByteArray).size≤_;omega⟩
 ·obtain⟨o1,o2⟩:=hok
  cases hn:bytesR lim e (seg (bl b) a e) with
  | inl f=>
   rw[outR_inl hn] at ho
   subst ho
   omega
  | inr p=>
   obtain⟨n,q⟩:=p
   rw[outR_inr hn] at ho
   rw[nextR_inr hn] at hs'
   subst ho hs'
   obtain⟨h1,h2⟩:=bytesR_inr hn
   have hl:=congrArg List.length h1
   rw[seg_length o2,Lla,textB,Lla,bl_length] at hl
   exact⟨by simp only[stA];omega,h2⟩
theorem ipF_empty:ipF ⟨#[]⟩=true:=by decide +kernel
theorem pattern_any {w:World}{r:Nat}{b:ByteArray}{s:Sta} (h:RdS w r b s) (hs:b.size≤40000) (hT:Tab w) (hr0:r≠6) :
  Calls Tryz.prog 102 #[.pointer (some ⟨r,0,none⟩)] w fun ee w'=>(∃ o,ee=.returned (.string o)∧((∃ p,nextR (oneR ipF 50) (bl b) s=.inr p)→o=outR (oneR ipF 50) (bl b) ⟨#[]⟩ s))∧RdS w' r b (nextR (oneR ipF 50) (bl b) s)∧Fr [r] w w':=by
 have hb:=bytesOf_any (lim:=50) rfl h hs (by omega)
 change Calls Tryz.prog 173 #[.pointer (some ⟨r,0,none⟩),.int .i64 50] w _ at hb
 obtain⟨o,ho⟩:∃ o,outR (bytesR 50) (bl b) ⟨#[]⟩ s=o:=⟨_,rfl⟩
 obtain⟨s',hs'⟩:∃ s',nextR (bytesR 50) (bl b) s=s':=⟨_,rfl⟩
 obtain⟨e1,e2⟩:=oneR_next ipF 50 b s h.ok ipF_empty o s' ho hs'
 have hok':=(bytesR_tidy 50).next h.ok
 rw[ho,hs'] at hb
 rw[hs'] at hok'
 obtain⟨m1,m2⟩:=stA_le hok'
 have hosz:o.size≤stA b.size s'∧o.size≤50:=bytes_place ho hs' h.ok
 have hfail:=fun (W:World) (hW:RdS W r b s')=>failU_any (place:=stA b.size s' - o.size) (no:=2) rfl hW hs (by omega) (by omega) (by omega)
 have hip:=fun (W:World) (hW:Tab W)=>isPattern_any o W (by unfold maxLen;omega) hW
 have hT':=fun (W:World) (f:Fr [r] w W)=>hT.fr f (by simpa using fun e=>hr0 e.symm)
 have HF:Hid _:=hfail
 have HT:Hid _:=hT'
 have hg1:(0:Int)≤(stA b.size s':Int)-(o.size:Int):=by omega
 cases hi:ipF o with
 | true=>
  simp only[hi] at hip
  rw[if_pos hi] at e1
  have e3:=e2 hi
  rw[e1]
  have HI:Hid _:=hip
  clear hfail hip hT' e2 ho hs' h hok'
  go_enter Tryz.func102,Tryz.ntmps102
  go_wp2_with fail
  refine hb.mono ?_
  rintro ee w1 ⟨rfl,K1,F1⟩
  clear hb
  go_wp2_with fail
  refine (HI.out w1 (HT.out _ F1)).mono ?_
  rintro ee w2 ⟨rfl,F2⟩
  go_wp2
  go_ret
  exact⟨⟨o,rfl,fun _=>e3.symm⟩,K1.fr F2 (by simp),F1.trans (F2.mono (by simp))⟩
 | false=>
  simp only[hi] at hip
  rw[if_neg (by rw[hi];simp)] at e1
  rw[e1]
  have HI:Hid _:=hip
  have e4:∀ p,failS 2 (stA b.size s' - o.size) s'≠.inr p:=fun p=>by
   rcases s' with ⟨f,y⟩ | ⟨a,e⟩ <;> simp[failS]
  have H4:Hid _:=e4
  have esub:((stA b.size s' - o.size:Nat):Int)=(stA b.size s':Int)-(o.size:Int):=by omega
  rw[esub] at HF
  clear hfail hip hT' e2 ho hs' h hok' e1 e4 esub
  go_enter Tryz.func102,Tryz.ntmps102
  go_wp2_with fail
  refine hb.mono ?_
  rintro ee w1 ⟨rfl,K1,F1⟩
  clear hb
  go_wp2_with fail
  refine (HI.out w1 (HT.out _ F1)).mono ?_
  rintro ee w2 ⟨rfl,F2⟩
  have K2:=K1.fr F2 (by simp)
  obtain⟨d0,d1,d2,d3,d4,f1,f2,f3,f4⟩:=K2.c
  go_wp2_with fail
  refine (HF.out w2 K2).mono ?_
  rintro ee w3 ⟨rfl,K3,F3⟩
  go_wp2
  go_ret
  exact⟨⟨o,rfl,fun ⟨p,hp⟩=>absurd hp (H4.out p)⟩,K3,(F1.trans (F2.mono (by simp))).trans F3⟩
end Go.Proofs.YtclkgoigmgkffaaGreatDoor
