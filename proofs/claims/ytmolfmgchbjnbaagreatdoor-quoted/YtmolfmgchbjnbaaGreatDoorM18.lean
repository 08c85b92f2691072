import Derived.Test.YtmolfmgchbjnbaaGreatDoorM17
set_option linter.unusedSimpArgs false
set_option linter.unusedVariables false
set_option linter.unusedSectionVars false
set_option maxRecDepth 100000
set_option maxHeartbeats 40000000
open _root_.Go.Proofs.Tryz
namespace Go.Proofs.YtmolfmgchbjnbaaGreatDoor
open Go.RowKit
open Wire Flow Mach
def inC (s:Stp):LV:=[.int .u8 (s.op:Nat),.int .i64 (s.pl:Nat),.int .i64 (min s.a 2000000000:Nat),.int .i64 (min s.b 2000000000:Nat),.int .i64 0]
theorem inC_len (s:Stp):(inC s).length=5:=rfl
theorem inC_one (f:Stp):∀ u ∈ inC f,u.oneCell'=true:=by
 intro u hu;simp only[inC,List.mem_cons,List.not_mem_nil,or_false] at hu;rcases hu with rfl | rfl | rfl | rfl | rfl <;> rfl
theorem in_new (w:WL)(a b c d:Nat):∀ j u,[Value.int .u8 a,iA b,iA c,iA d,iA 0][j]?=some u→(w.alloc (.cells #[.int .u8 a,iA b,iA c,iA d,iA 0] 150)).cell? (((Ad w.heap.size 0):Addr).add j)=some u:=by
 intro j u hj;have hm:=wan w (.cells #[.int .u8 a,iA b,iA c,iA d,iA 0] 150);rw[add_plain0];unfold World.cell?;rw[hm];simpa using hj
theorem infoIn:(prog.info? 150).map (fun i=>(i.zero,i.size,i.bytes))=some (some (.agg #[.int .u8 0,iA 0,iA 0,iA 0,iA 0]),5,40):=by kernel_rfl
theorem OwnL.ins {w0:WL}{L:List Stp}{v:Value}{W:WL} (h:OwnL 150 5 inC w0 L v W) :
  ∃ (a0:OA) (cap g:Nat),v=.slice a0 L.length cap∧L.length≤cap∧(0<L.length→a0=some (Ad g 0)∧g<W.heap.size∧w0.heap.size≤g∧InsM W g L (List.replicate L.length 0)):=by
 have hc:=h.cells inC_len;obtain⟨a0,cap,g,hv,hcap,hg,hx⟩:=hc;refine⟨a0,cap,g,hv,hcap,fun h0=>?_⟩;obtain⟨e0,e1,e2⟩:=hg h0;refine⟨e0,e1,e2,by simp,fun i s t hs ht=>?_,fun k=>?_,fun t ht=>by rw[List.eq_of_mem_replicate ht];omega⟩
 ·rw[List.getElem?_replicate] at ht;split at ht
  ·cases ht;have x0:=hx i s 0 _ hs (by omega) rfl;simp only[Nat.add_zero] at x0;exact⟨x0,hx i s 1 _ hs (by omega) rfl,hx i s 2 _ hs (by omega) rfl,hx i s 3 _ hs (by omega) rfl,hx i s 4 _ hs (by omega) rfl⟩
  cases ht
 rcases h.own.2 with ⟨hv2,h2⟩ | ⟨g',cap',cur,hv2,hb,hh,-⟩
 ·omega
 rw[hv2,e0] at hv;simp only[Value.slice.injEq,Option.some.injEq,Addr.mk.injEq] at hv;rw[hv.1.1] at hh;unfold World.frozen?;rw[hh];simp
theorem joinI_nil (a0:OA)(cap:Nat)(w:WL):Calls prog 115 #[.slice a0 0 cap] w fun e w'=>e=.returned (.tuple #[iA 0,iA 0])∧w'=w:=by
 go_enter func115,ntmps115;go_wp2
 go_loop [10] (fun j=>j=iA (0:Nat)) (fun _=>0)
 case atStart=>rfl
 case round=>
  subst hrel;go_wp2;go_ret2;exact⟨rfl,rfl⟩
def ReadP (m:Mo) (f L:Nat) (c:BA) (w:WL) (e:Ending) (w':WL):Prop:=
 Fr [] w w'∧((∃ j x:Nat,e=.returned (.tuple #[.slice none 0 0,.int .i64 j,.int .i64 x])∧x≠0∧x≤20∧j≤20000∧(Faulty m f L (bl c) j x∨∃ l,Reads m f L (bl c) l∧badJump l l=some j∧x=11)) ∨
  (∃ (a0:OA) (cap g:Nat) (l:List Stp) (T:LN),e=.returned (.tuple #[.slice a0 l.length cap,.int .i64 0,.int .i64 0])∧Reads m f L (bl c) l∧badJump l l=none∧l.length≤cap ∧
   (0<l.length→a0=some ⟨g,0,none⟩∧g<w'.heap.size∧w.heap.size≤g∧InsM w' g l T∧Joined l T l.length)))
theorem readI_any (mv:Value)(m:Mo)(w:WL)(f:Nat)(x:Wire.Fn)(hM:ModIn w mv m)(hMo:MoOk m)(hx:m.fns[f]?=some x) :
  Calls prog 60 #[mv,iA f] w (ReadP m f x.locs.toNat x.code w):=by
 obtain⟨i0,hi,hz0,hz1,hz2⟩:=info_parts infoIn;have hdec:=fun (W:WL) (hW:Fr [] w W) (j:Nat) (hj:j<x.code.size)=>readOne_any mv m W f j x (hM.fr hW) hMo hx hj;obtain⟨tv,pv,fv,rfl,h1,h2,h3⟩:=hM.is;obtain⟨a0,cap,g,off,rfl,hc,hx0,hxx⟩:=h3;have hf:=(Lgs.1 hx).1;obtain⟨c0,c1,c2⟩:=hxx f x hx;have hp:=hMo.f.p x (List.mem_of_getElem? hx);obtain⟨rfl,hgl⟩:=hx0 (by omega);have hn:=hMo.f.n;have hs:x.code.size≤20000:=hp.2.2.2.2;generalize m.fns.length=nf at *;generalize x.code=c at *;generalize x.locs.toNat=L at *;have g2:(f:Int)<(nf:Int):=by omega
 obtain⟨W1,hW1⟩:=eXi (w.alloc (.cells #[tv,pv,iA m.globs,iA m.arrs,.slice (some (Ad g off)) nf cap] 70));have FA:=frA hW1
 have k1:=kA hW1;have kl:=(Age.1 k1).1;have hst:∀ W,Fr [] W1 W→(W.cell? (Ad w.heap.size 0)=some tv∧W.cell? (Ad w.heap.size 1)=some pv∧W.cell? (Ad w.heap.size 2)=some (iA m.globs)∧W.cell? (Ad w.heap.size 3)=some (iA m.arrs)∧W.cell? (Ad w.heap.size 4)=some (.slice (some (Ad g off)) nf cap))∧W.cell? (Ad g (off+f*3+2))=some (.string c):=fun W hW=>by
  have e1:∀ j v,(#[tv,pv,iA m.globs,iA m.arrs,.slice (some (Ad g off)) nf cap]:Array Value)[j]?=some v→W.cell? (Ad w.heap.size j)=some v:=fun j v hv=>by
   unfold World.cell?;rw[hW.block _ kl (by simp),k1];exact hv
  exact⟨⟨e1 0 _ rfl,e1 1 _ rfl,e1 2 _ rfl,e1 3 _ rfl,e1 4 _ rfl⟩,((FA.trans hW).cell (p:=Ad g (off+f*3+2)) hgl (by simp)).trans c2⟩
 have hwW:w.heap.size≤W1.heap.size:=FA.size;obtain⟨⟨n0,n1,n2,n3,n4⟩,n5⟩:=hst W1 (Fr.refl [] W1);have HD:Hid _:=fun (_:Unit)=>hdec;have HS:Hid _:=hst;have HFA:Hid _:=AI FA hwW;clear hdec hst hM hMo hx h1 h2 hxx c0 c1 c2 hp hx0 k1 FA hc hf kl hwW;go_enter func60,ntmps60;go_wp2;clear hW1
 go_loopw [7,9] (fun u p wr=>∃ (acc:List Stp) (j:Nat),p=iA (j:Nat)∧j≤c.size∧OwnL 150 5 inC W1 acc u wr∧Hid (Chain m f L (bl c) 0 acc j)) (fun _ p _=>c.size-(intOf p).toNat)
 case atStart=>exact⟨[],0,rfl,by omega,OwnL.start (Fr.refl [] _),rfl⟩
 case round=>
  clear n0 n1 n2 n3 n4 n5;obtain⟨acc,j,rfl,hj,J,hC⟩:=hrel;obtain⟨⟨m0,m1,m2,m3,m4⟩,m5⟩:=HS.out wr J.fr;obtain⟨b0,bcap,rfl⟩:=J.form;have F0:=HFA.out.1.trans J.fr;by_cases hlt:j<c.size
  ·have g1:(j:Int)<(c.size:Int):=by omega
   go_wp2_with fail;refine (HD.out () wr F0 j hlt).mono ?_;rintro e w2 ⟨F2,op,pl,a,b,len,y,rfl,hy⟩;have hl:=hC.out.le (by rw[bl_length];omega);rw[bl_length] at hl;obtain⟨W3,hW3⟩:=eXi (w2.alloc (.cells #[.int .u8 op,iA pl,iA a,iA b,iA 0] 150));have F3':Fr [] w2 W3:=by rw[← hW3];exact (Fr.refl [] w2).alloc _
   have F3:=F2.trans F3';have k3:=kA hW3;have kl:=(Age.1 k3).1;have s4:W3.setCell ⟨w2.heap.size,4,none⟩ (.int .i64 0)=W3:=setCell_id k3 rfl;have fz4:W3.frozen? (Ad w2.heap.size 4)=false:=by unfold World.frozen?;rw[k3];simp
   have e4:W3.cell? (Ad w2.heap.size 4)=some (iA 0):=cof k3 rfl;clear F3' m0 m1 m2 m3 m4 m5 HD HS;rcases hy with ⟨y0,y20,hd⟩ | ⟨rfl,s,hd,rfl,rfl,rfl,rfl,hlen⟩
   ·have q1:((y:Int)==0)=false:=by simp;omega
    have q2:((y:Int)!=0)=true:=by simp;omega
    have HX:Hid _:=AI F3 (AI hd (AI y0 (AI k3 J)));clear F3 hd y0 k3 J F2;go_wp2;go_ret3;obtain⟨F3,hd,y0,k3,J⟩:=HX.out;exact⟨F0.trans F3,.inl ⟨j,y,rfl,y0,y20,by omega,.inl ⟨acc,hC.out,by rw[bl_length];exact hlt,hd⟩⟩⟩
   have hob:∀ k,(Value.slice b0 acc.length bcap).ownBlock=some k→k<wr.heap.size:=fun k hk=>(J.own.lt k hk).2;have hw2:wr.heap.size≤w2.heap.size:=F2.size;have J3:=J.kept F3;have hown:=J3.own;have hsz3:=J3.fr.size;have hnx:=decodeL_next (by rw[bl_length];exact hlt) hd;have hC2:=hC.out.snoc (by rw[bl_length];exact hlt) hd;rw[bl_length] at hnx;obtain⟨nx,hnxe⟩:=eXi (s.nx);rw[hnxe] at hlen hnx hC2;have hI:(j:Int)+(len:Int)=(nx:Int):=by omega
   have hnc:nx≤c.size:=hnx.2.2.1;have hjn:j<nx:=hnx.2.1;have hop54:=mayOp_lt hnx.2.2.2.2;obtain⟨sa,hsa⟩:=eXi (min s.a 2000000000);obtain⟨sb,hsb⟩:=eXi (min s.b 2000000000);have hone:=inC_one s;have hcs:inC s=[.int .u8 (s.op:Nat),iA (s.pl:Nat),iA (sa:Nat),iA (sb:Nat),iA 0]:=by unfold inC;rw[hsa,hsb]
   rw[hcs] at hone;rw[hsa,hsb] at hW3 k3;have e0:W3.cell? (Ad w2.heap.size 0)=some (.int .u8 (s.op:Nat)):=cof k3 rfl;have e1:W3.cell? (Ad w2.heap.size 1)=some (iA (s.pl:Nat)):=cof k3 rfl;have e2:W3.cell? (Ad w2.heap.size 2)=some (iA (sa:Nat)):=cof k3 rfl;have e3:W3.cell? (Ad w2.heap.size 3)=some (iA (sb:Nat)):=cof k3 rfl;rw[hsa,hsb];have hfn:=in_new W3 s.op s.pl sa sb;have HX:Hid _:=AI F3 (AI J3 (AI hC2 (AI hob (AI hw2 (AI hcs hnxe)))));clear F3 hd k3 J J3 hnx hC2 hC kl hob hw2 F2 hsa hsb hcs hnxe hlen;go_wp2_with (at_builtin;refine wpList_append_own _ rfl _ _ 139 rfl W1.heap.size 150 i0 (.agg #[.int .u8 0,iA 0,iA 0,iA 0,iA 0]) 5 40 underlying139 hi hz0 hz1 hz2 rfl (by decide) _ _ _ rfl (hown.alloc _) (Ad W3.heap.size 0) 1 1 [.int .u8 (s.op:Nat),iA (s.pl:Nat),iA (sa:Nat),iA (sb:Nat),iA 0] rfl rfl hfn hone (by unfold maxLen;omega) (by omega) (le_alloc _ hsz3) ?_);intro v' w5 hown' hgrow _;obtain⟨F3,J3,hC2,hob,hw2,hcs,hnxe⟩:=HX.out;rw[← hcs] at hown';have J4:=(J3.kept ((Fr.refl [] W3).alloc (.cells #[.int .u8 (s.op:Nat),iA (s.pl:Nat),iA (sa:Nat),iA (sb:Nat),iA 0] 150))).grown (s:=s) hown' hgrow;obtain⟨d0,dcap,rfl⟩:=J4.form;have HJ4:Hid _:=J4;have HC2:Hid _:=hC2;clear F3 J3 hC2 hown hown' hgrow e0 e1 e2 e3 e4 hfn J4 HX hone hob hw2 hcs hnxe;go_wp2;refine⟨⟨acc++[s],nx,rfl,by omega,HJ4.out,HC2⟩,?_⟩;simp[intOf];omega
  have g1:¬ (j:Int)<(c.size:Int):=by omega
  have hR:Reads m f L (bl c) acc:=by
   have:=hC.out;rw[show j=c.size by omega,← bl_length c] at this;exact this
  have hle:=Chain.le hR (by omega);rw[bl_length] at hle;have hok:=Chain.ok hR;have hpl:=Chain.pls hR;rw[bl_length] at hpl;have hso:=Chain.sorted hR (by omega);obtain⟨a1,cap1,gg,hv,hcap1,hgg⟩:=J.ins;have HR:Hid _:=hR;have HF0:Hid _:=F0;cases hacc:acc with
  | nil=>
   rw[hacc] at hR hv J;have HJn:Hid _:=fun (_:Unit)=>joinI_nil b0 bcap wr;have hbj:badJump ([]:List Stp) []=none:=rfl;have HR2:Hid _:=hR;simp only[List.length_nil];clear hR hle hok hpl hso hv hcap1 hgg hC J HR m0 m1 m2 m3 m4 F0 HD HS;go_wp2_with fail;refine (HJn.out ()).mono ?_;rintro e w2 ⟨rfl,hw⟩;replace hw:=hw.symm;subst hw;go_wp2;go_ret3;exact⟨HF0.out,.inr ⟨b0,bcap,0,[],[],rfl,HR2.out,rfl,by simp,fun h=>absurd h (by simp)⟩⟩
  | cons s0 l0=>
   rw[← hacc];have h0:0<acc.length:=by rw[hacc];simp
   obtain⟨e1,e2,e3,hI⟩:=hgg h0;simp only[Value.slice.injEq] at hv;obtain⟨rfl,-,rfl⟩:=hv;subst e1;have HJn:Hid _:=fun (_:Unit)=>joinI_any gg acc _ bcap h0 (by omega) wr e2 hI hso (fun s hs=>by have:=hpl s hs;omega) (fun s hs=>(hok s hs).op);have HG:Hid _:=AI e2 (AI e3 hcap1);clear hR hle hok hpl hso hcap1 hgg hC J m0 m1 m2 m3 m4 F0 HD HS hacc hI e2 e3;generalize hna:acc.length=na at *;go_wp2_with fail;refine (HJn.out ()).mono ?_;rintro e w2 ⟨F2,(⟨q,hb,hq,rfl⟩ | ⟨hb,rfl,T,hI2,hJ2⟩)⟩
   ·have HF2:Hid _:=AI F2 hb;clear F2 hb;go_wp2;go_ret3;refine⟨HF0.out.trans' HF2.out.1 (fun y hy=>.inr (by simp at hy;have:=HG.out.2.1;have:=HFA.out.2;omega)),.inl ⟨q,11,rfl,by omega,by omega,by omega,.inr ⟨acc,HR.out,HF2.out.2,rfl⟩⟩⟩
   have HF2:Hid _:=AI F2 (AI hb (AI hI2 hJ2));clear F2 hb hI2 hJ2;go_wp2;go_ret3;rw[← hna];refine⟨HF0.out.trans' HF2.out.1 (fun y hy=>.inr (by simp at hy;have:=HG.out.2.1;have:=HFA.out.2;omega)),.inr ⟨_,bcap,gg,acc,T,rfl,HR.out,HF2.out.2.1,by rw[hna];exact HG.out.2.2,fun _=>⟨rfl,?_,?_,HF2.out.2.2.1,HF2.out.2.2.2⟩⟩⟩
   ·have:=HG.out.1;have:=HF2.out.1.size;omega
   have:=HG.out.2.1;have:=HFA.out.2;omega
end Go.Proofs.YtmolfmgchbjnbaaGreatDoor
