import Derived.Test.YtmolfmgchbjnbaaGreatDoorM31
set_option linter.unusedSimpArgs false
set_option linter.unusedVariables false
set_option linter.unusedSectionVars false
set_option maxRecDepth 100000
set_option maxHeartbeats 40000000
open _root_.Go.Proofs.Tryz
namespace Go.Proofs.YtmolfmgchbjnbaaGreatDoor
open Go.RowKit
open Wire
namespace Tok
open Ev
abbrev TkL:=Tk × Option Nat
def tkV:TkL→LV
 | (t,none)=>[.string t.k,.int .i64 (t.p:Nat),.int .i64 (t.n:Nat),.string t.t]
 | (t,some i)=>[.string t.k,.int .i64 (t.p:Nat),.int .i64 (t.n:Nat),.chan (some i)]
def lnsC (L:List Ln):BA:=⟨(L.flatMap lnB).toArray⟩
def endF:Wire.Fn:=⟨0,0,lnsC [(52,[])]⟩
def rowN (h:AH):Value→Option (LV)
 | .slice (some ⟨b,0,none⟩) n c=>cond (Nat.ble n c) ((Ev.rowAt b h).bind fun p=>Ev.cut p.1 0 n) none
 | _=>none
def modTQ (h:AH):LV→Option (LV × Nat × LV)
 | [tv,.slice none 0 0,.int .i64 (.ofNat g),.int .i64 (.ofNat 0),v]=>(rowN h tv).bind fun T=>(rowL h v).bind fun F=>some (T,g,F)
 | _=>none
def modQ:Option (Value × AH)→Option (LV × Nat × LV)
 | some (.agg vs,h)=>modTQ h vs.toList
 | _=>none
def wd (l:LB) (p:Nat):TkL:=(⟨⟨l.toArray⟩,p,0,⟨#[]⟩⟩,none)
def nm (x:UInt8) (p:Nat):TkL:=(⟨nameK,p,0,⟨#[x]⟩⟩,none)
def tx (i p:Nat) (t:BA):TkL:=(⟨textK,p,0,t⟩,some i)
def prT (t:BA) (a:Nat):List TkL:=[wd [66,69,71,73,78] 0,wd [123] 6,wd [112,114,105,110,116] 8,tx 0 14 t,wd [59] a,wd [125] (a+2),(⟨endK,a+3,0,⟨#[]⟩⟩,none)]
def caT (i j k:Nat) (t1 t2 t3:BA) (a b c:Nat):List TkL:=[wd [66,69,71,73,78] 0,wd [123] 6,nm 120 8,wd [61] 10,tx i 12 t1,wd [59] a,
 nm 121 (a+2),wd [61] (a+4),nm 120 (a+6),wd [46] (a+8),tx j (a+10) t2,wd [59] b,
 wd [112,114,105,110,116] (b+2),wd [108,101,110,103,116,104] (b+8),wd [40] (b+14),nm 121 (b+15),wd [41] (b+16),wd [44] (b+17),nm 121 (b+19),wd [44] (b+20),nm 121 (b+22),wd [61,61] (b+24),tx k (b+27) t3,wd [59] c,wd [125] (c+2),(⟨endK,c+3,0,⟨#[]⟩⟩,none)]
def modOf (P:Program) (fn:Func) (l:List TkL):Option (LV × Nat × LV):=modQ (thenM P (evT P fn signs l.length (l.flatMap tkV) 2000 100))
end Tok
open Go.RowKit
open Wire
namespace Tok
open Ev
variable [Inhabited (Nat→BA)]
def symL (l:LN):LV:=l.map fun i=>.chan (some i)
def LetOk (l:List TkL):Prop:=RhoI∧∀ p ∈ l,∀ i,p.2=some i→p.1.t=rho i∧p.1.t.size≤100
theorem tkV_len (p:TkL):(tkV p).length=4:=by obtain⟨t,o⟩:=p;cases o <;> rfl
theorem tvs_let {ss:LY}{s:BA} (hs:s.size≤80000) {l:List TkL} (hR:Rds ss s 0 [] (l.map (·.1))) (hl:LetOk l):TVs (l.flatMap tkV) (l.map (·.1)):=by
 have hsm:∀ t ∈ l.map (·.1),TkSm t:=by
  obtain⟨n,hn⟩:=hR;exact rds_small hs n hn (by simp)
 clear hR;intro i v hv;have hi:i<l.length*4:=by
  have:=(Lgs.1 hv).1;rw[List.length_flatMap] at this;simpa [tkV_len,List.map_const',Nat.mul_comm] using this
 obtain⟨p,hp⟩:∃ p,l[i / 4]?=some p:=⟨_,Lge (by omega)⟩;have e1:(l.flatMap tkV)[i / 4*4+i % 4]?=(tkV p)[i % 4]?:=flat_get (f:=tkV) (z:=4) tkV_len hp (by omega);have e2:((l.map (·.1)).flatMap tkC)[i / 4*4+i % 4]?=(tkC p.1)[i % 4]?:=flat_get (f:=tkC) (z:=4) (fun _=>rfl) (by rw[List.getElem?_map,hp];rfl) (by omega);rw[show i / 4*4+i % 4=i by omega] at e1 e2;rw[e1] at hv;have hm:=List.mem_of_getElem? hp;have hpl:∀ {v:Value},((l.map (·.1)).flatMap tkC)[i]?=some v→plainV v=true:=fun h=>tk_plain hsm h;obtain⟨t,o⟩:=p;simp only at e2;cases o with
 | none=>
  refine⟨v,by rw[e2];exact hv,fun m=>plain_s1 (hpl (by rw[e2];exact hv))⟩
 | some j=>
  obtain⟨q1,q2⟩:=hl.2 _ hm j rfl;simp only at q1 q2;rcases (show i % 4=0∨i % 4=1∨i % 4=2∨i % 4=3 by omega) with q | q | q | q
  ·rw[q] at hv e2;cases hv;exact⟨_,e2,fun m=>plain_s1 (hpl e2)⟩
  ·rw[q] at hv e2;cases hv;exact⟨_,e2,fun m=>plain_s1 (hpl e2)⟩
  ·rw[q] at hv e2;cases hv;exact⟨_,e2,fun m=>plain_s1 (hpl e2)⟩
  rw[q] at hv e2;cases hv;exact⟨_,e2,fun m=>.inl ⟨q1,by unfold maxLen;omega,hl.1⟩⟩
theorem strs_of {m:Mp}{h:AH}{w:WL} (R:Rel prog 2 m h w) {v u:Value}{ks:LN} (hv:S1 m v u) (hr:rowN h v=some (symL ks)):StrsIn w u (ks.map rho):=by
 unfold rowN at hr;split at hr
 ·rename_i b n c
  cases hb:Nat.ble n c with
  | false=>rw[hb] at hr;cases hr
  | true=>
   rw[hb] at hr;simp only[cond_true] at hr;obtain⟨p,hp,e⟩:=bind_some hr;obtain⟨x,c',rfl,h4,h5,h6⟩:=sliceAt' R hv.s3 hp;obtain⟨k1,k2,k3⟩:=cut_ok e;have hl:(symL ks).length=ks.length:=by simp[symL]
   obtain rfl:n=ks.length:=by omega
   have hcap:ks.length≤c':=Nat.le_trans (Nat.le_of_ble_eq_true hb) h4;refine⟨_,c',x.b,0+x.s,by rw[List.length_map],by rw[List.length_map];exact hcap,fun _=>⟨rfl,h5⟩,fun i y hy=>?_⟩;rw[List.getElem?_map] at hy;cases hk:ks[i]? with
   | none=>rw[hk] at hy;cases hy
   | some k=>
    rw[hk] at hy;cases hy;have hi:=(Lgs.1 hk).1;have:p.1[i]?=some (.chan (some k)):=by
     rw[← Nat.zero_add i,← k3 i (by omega)];simp[symL,List.getElem?_map,hk]
    obtain⟨u,hu,su⟩:=h6 _ _ this;have s0:=su.s0 rfl;cases u with
    | string z=>
     obtain⟨rfl,-,-⟩:z=rho k∧z.size≤maxLen∧RhoI:=s0;rw[show 0+x.s+i=i+x.s by omega];exact hu
    | _=>simp[S0] at s0
 cases hr
theorem aggQ {m:Mp}{us:Array Value}{tv v v':Value}{g:Nat} (hl:us.toList=[tv,.slice none 0 0,iA (.ofNat g),iA (.ofNat 0),v]) (h:S3 m (.agg us) v'):∃ t u,v'=.agg #[t,.slice none 0 0,iA ((g:Nat):Int),iA ((0:Nat):Int),u]∧S1 m tv t∧S1 m v u:=by
 obtain⟨c',rfl,hc⟩:=h.agg;rw[hl] at hc;obtain⟨a,r1,e1,s1,hc⟩:=hc.cons_left;obtain⟨b,r2,e2,s2,hc⟩:=hc.cons_left;obtain⟨c,r3,e3,s3,hc⟩:=hc.cons_left;obtain⟨d,r4,e4,s4,hc⟩:=hc.cons_left;obtain⟨e,r5,e5,s5,hc⟩:=hc.cons_left;rw[hc.nil_left] at e5;subst e5 e4 e3 e2;obtain rfl:=S3.slN s2.s3;obtain rfl:=S3.int s3.s3;obtain rfl:=S3.int s4.s3;exact⟨a,e,by congr 1;exact Array.ext' e1,s1,s5⟩
def txMo (ts:LY) (g:Nat) (fns:List Wire.Fn):Mo:=⟨ts,[],(g:Nat),0,fns⟩
theorem compile_q {w:WL}{s:BA}{l:List TkL}{ks:LN}{g:Nat}{fns:List Wire.Fn} (h163:∃ fn,entered prog 163=some fn) (ht:TabS signs w) (hs:s.size≤1000) (hR:Rds signs s 0 [] (l.map (·.1))) (hn:0<l.length) (hl:LetOk l) (hz:ModSz (txMo (ks.map rho) g fns)) (hq:modOf prog f28 l=some (symL ks,g,fns.flatMap fnC)) :
  Calls prog 19 #[.string s] w fun e w'=>e=.returned (.tuple #[.string (packS (txMo (ks.map rho) g fns)),iA 0,iA (packE (txMo (ks.map rho) g fns))])∧Fr [] w w':=by
 obtain⟨ts,hts⟩:=eXi (ks.map rho);rw[hts] at hz ⊢;have HTs:Hid _:=hts;clear hts;unfold modOf at hq;cases he:evT prog f28 signs l.length (l.flatMap tkV) 2000 100 with
 | none=>rw[he] at hq;cases hq
 | some q=>
  have hS:=syntax_any (R:=l.map (·.1)) ht (by decide) (by omega) hR (by rw[List.length_map];exact hn) (tvs_let (by omega) hR hl) (by rw[List.length_map];exact he);rw[he] at hq;obtain⟨qv,qh⟩:=q;unfold thenM at hq;split at hq
  ·rename_i vs h0 e0
   cases e0;unfold thenT at hq;split at hq
   ·rename_i cs p' e' hvs
    cases hb:(sl4 cs && ieq p' 0 && ieq e' 0) with
    | false=>rw[hb] at hq;cases hq
    | true=>
     rw[hb] at hq;simp only[cond_true] at hq;simp only[Bool.and_eq_true,ieq_eq,decide_eq_true_eq] at hb;obtain⟨⟨hb,rfl⟩,rfl⟩:=hb;have g1:¬ (1000:Int)<s.size:=by omega
     have HQ:Hid _:=hq;have HL:Hid _:=hl;clear he hR hq hl;go_enter func19,ntmps19;go_wp2_with fail;refine hS.mono ?_;rintro e w1 ⟨v',m,rfl,L⟩;obtain⟨a,b,c,rfl,s1,s2,s3⟩:=tup3 hvs L.val;obtain rfl:=S2.int' s2;obtain rfl:=S2.int' s3;obtain⟨o1,n1,c1,o2,n2,c2,o3,n3,c3,o4,n4,c4,rfl⟩:=agg4 hb s1;have F1:Fr [] w w1:=⟨L.kept.os,L.kept.tape,L.kept.output,L.kept.size,fun k hk _=>L.kept.blk k hk⟩;have F2:Fr [] w1 (w1.alloc (.cells #[.slice o1 n1 c1,.slice o2 n2 c2,.slice o3 n3 c3,.slice o4 n4 c4] 63)):=(Fr.refl [] w1).alloc _;obtain⟨W2,hW2⟩:=eXi (w1.alloc (.cells #[.slice o1 n1 c1,.slice o2 n2 c2,.slice o3 n3 c3,.slice o4 n4 c4] 63));rw[hW2] at F2;have HM:Hid (Calls prog 30 #[.agg #[.slice o1 n1 c1,.slice o2 n2 c2,.slice o3 n3 c3,.slice o4 n4 c4]] W2 fun e w'=>∃ t u,e=.returned (.agg #[t,.slice none 0 0,iA ((g:Nat):Int),iA ((0:Nat):Int),u])∧StrsIn w' t ts∧FnsIn w' u fns∧Fr [] w w'):=by
      have hq:=HQ.out;unfold modQ at hq;split at hq
      ·rename_i us h2 hev
       unfold modTQ at hq;split at hq
       ·rename_i tv gg v hus
        obtain⟨T,hT,hq⟩:=bind_some hq;obtain⟨F,hF,hq⟩:=bind_some hq;simp only[Option.some.injEq,Prod.mk.injEq] at hq;obtain⟨rfl,rfl,rfl⟩:=hq;obtain⟨R2,-⟩:=L.rel.grow (kept_of F2);have:=(evF_ok mixed 2000 (codeX_ok h163) 100 30 [.agg cs] qh (.agg us,h2) hev).2 m W2 #[.agg #[.slice o1 n1 c1,.slice o2 n2 c2,.slice o3 n3 c3,.slice o4 n4 c4]] R2 (.cons s1.s3 .nil);refine Calls.mono this fun e w' hh=>?_;cases e with
        | returned v'=>
         obtain⟨m',R',E',S'⟩:=hh;obtain⟨t,u,rfl,st,su⟩:=aggQ hus S';refine⟨t,u,rfl,by rw[← HTs.out];exact strs_of R' st hT,fns_of R' su hF,⟨E'.os.trans (F2.os.trans F1.os),E'.tape.trans (F2.tape.trans F1.tape),E'.output.trans (F2.output.trans F1.output),Nat.le_trans F1.size (Nat.le_trans F2.size E'.size),fun k hk _=>?_⟩⟩;have hk1:k<w1.heap.size:=Nll hk F1.size;rw[E'.blk k (Nll hk1 F2.size) (fun r x hx hxb=>?_),F2.block k hk1 (by simp),F1.block k hk (by simp)];rcases Nat.lt_or_ge r 3 with c | c
         ·exact L.tab r c
         have:=(L.own r x c hx).1;omega
        | _=>exact hh.elim
       cases hq
      cases hq
     clear L s1 s2 s3 hS HQ hvs hb HL;have c0:W2.cell? (Ad w1.heap.size 0)=some (.slice o1 n1 c1):=by rw[← hW2];unfold World.cell?;rw[wan];rfl
     have d1:W2.cell? (Ad w1.heap.size 1)=some (.slice o2 n2 c2):=by rw[← hW2];unfold World.cell?;rw[wan];rfl
     have d2:W2.cell? (Ad w1.heap.size 2)=some (.slice o3 n3 c3):=by rw[← hW2];unfold World.cell?;rw[wan];rfl
     have d3:W2.cell? (Ad w1.heap.size 3)=some (.slice o4 n4 c4):=by rw[← hW2];unfold World.cell?;rw[wan];rfl
     clear F1 F2;clear HTs;go_wp2_with fail;refine Calls.mono HM.out ?_;rintro e w3 ⟨t,u,rfl,hSt,hF,F3⟩;have hP:=packM_any (.agg #[t,.slice none 0 0,iA ((g:Nat):Int),iA ((0:Nat):Int),u]) (txMo ts g fns) w3 ⟨_,_,_,rfl,hSt,⟨none,0,0,0,rfl,Nat.le_refl _,by simp[txMo],by simp[txMo]⟩,hF⟩ hz rfl trivial;have HF:Hid _:=F3;clear HM c0 d1 d2 d3 hW2 hF F3 hSt;go_wp2_with fail;refine hP.mono ?_;rintro e w4 ⟨rfl,F4⟩;clear hP;go_wp2;go_ret3;exact⟨rfl,HF.out.trans F4⟩
   cases hq
  cases hq
end Tok
end Go.Proofs.YtmolfmgchbjnbaaGreatDoor
