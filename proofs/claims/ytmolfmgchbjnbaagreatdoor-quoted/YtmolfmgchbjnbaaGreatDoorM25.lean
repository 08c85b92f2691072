import Derived.Test.YtmolfmgchbjnbaaGreatDoorM24
import Derived.Test.YtmolfmgchbjnbaaGreatDoorM19
import Derived.Test.YtmolfmgchbjnbaaGreatDoorM12
set_option linter.unusedSimpArgs false
set_option linter.unusedVariables false
set_option linter.unusedSectionVars false
set_option maxRecDepth 100000
set_option maxHeartbeats 40000000
open _root_.Go.Proofs.Tryz
namespace Go.Proofs.YtmolfmgchbjnbaaGreatDoor.Ev
open Go
variable [Inhabited (Nat→BA)]
section
variable {P:Program}{G:Nat}{E:EE}
def resS (t:Array Value):ResultVar→Sem Value
 | .tmp k=>pure (t.getD k undef)
 | .cell k ty=>do loadVar ty (← asAddr (t.getD k undef))
theorem results_eq (fn:Func)(t:Array Value):results fn t=(do
  let vs ← fn.results.mapM (resS t)
  pure (if h:vs.size=1 then vs[0] else .tuple vs)):=by
 unfold results;congr
theorem res_ok {m:Mp}{h:AH}{w:WL} (R:Rel P G m h w) {a:AA}{t:Array Value} (hs:SlO m a t):∀ (l:List ResultVar) (fs:List Rd) (vs:LV),allSome (resF P) l=some fs→allSome (resV a h) fs=some vs→∃ vs',(l.mapM (resS t)).run P w=.ok vs' w∧L2 (S3 m) vs vs'
 | [],fs,vs,h1,h2=>by
  simp only[allSome,Option.some.injEq] at h1
  subst h1
  simp only[allSome,Option.some.injEq] at h2
  subst h2
  exact⟨[],by simp,.nil⟩
 | x :: l,fs,vs,h1,h2=>by
  simp only[allSome] at h1
  obtain⟨f,k1,h3⟩:=bind_some h1
  obtain⟨fr,k2,h4⟩:=bind_some h3
  simp only[Option.some.injEq] at h4
  subst h4
  simp only[allSome] at h2
  obtain⟨v,k3,h5⟩:=bind_some h2
  obtain⟨vr,k4,h6⟩:=bind_some h5
  simp only[Option.some.injEq] at h6
  subst h6
  obtain⟨vs',r1,r2⟩:=res_ok R hs l fr vr k2 k4
  have hx:∃ v',(resS t x).run P w=.ok v' w∧S3 m v v':=by
   cases x with
   | tmp k=>
    simp only[resF] at k1
    obtain⟨g,hg,rfl⟩:=map_some k1
    have k3':g a=some v:=k3
    rw[AA.get_form hg] at k3'
    exact⟨_,rfl,hs.val k v k3'⟩
   | cell k ty=>
    simp only[resF] at k1
    obtain⟨g,hg,rfl⟩:=map_some k1
    have k3':(g a).bind (rLoad P h ty)=some v:=k3
    obtain⟨p,hp,hl⟩:=bind_some k3'
    rw[AA.get_form hg] at hp
    have hpp:=hs.val k p hp
    obtain⟨v',z1,z2⟩:=load_ok R hpp hl
    have hptr:∃ q,p=.pointer (some q):=by
     unfold rLoad at hl
     split at hl
     ·exact⟨_,rfl⟩
     ·cases hl
    obtain⟨q,rfl⟩:=hptr
    obtain⟨q',e,-⟩:=hpp.ptr
    refine⟨v',?_,z2⟩
    rw[e] at z1
    simp only[resS,e]
    simpa [asAddr,Instr.loadAt,Instr.sureAddr] using z1
  obtain⟨v',z1,z2⟩:=hx
  exact⟨v' :: vs',by simp[List.mapM_cons,z1,r1],.cons z2 r2⟩
theorem results_ok {m:Mp}{h:AH}{w:WL} (R:Rel P G m h w) {a:AA}{t:Array Value} (hs:SlO m a t) {fn:Func}{r:Value × AH} (hr:resultsA P fn a h=some r):r.2=h∧∃ v',(results fn t).run P w=.ok v' w∧S3 m r.1 v':=by
 unfold resultsA at hr
 obtain⟨fs,h1,h2⟩:=bind_some hr
 obtain⟨v,h3,h4⟩:=bind_some h2
 obtain⟨vs,h5,h6⟩:=bind_some h3
 simp only[same,Option.some.injEq] at h4
 subst h4
 obtain⟨vs',r1,r2⟩:=res_ok R hs fn.results.toList fs vs h1 h5
 have hrun:(fn.results.mapM (resS t)).run P w=.ok vs'.toArray w:=by
  rw[Array.mapM_eq_mapM_toList]
  simp[r1]
 refine⟨rfl,if hh:vs'.toArray.size=1 then vs'.toArray[0] else .tuple vs'.toArray,?_,?_⟩
 ·rw[results_eq]
  simp only[Sem.run_bind,hrun,Result.andThen]
  rfl
 ·unfold tup at h6
  split at h6
  ·rename_i v0
   cases h6
   obtain⟨y,q,e,hy,hq⟩:=r2.cons_left
   rw[hq.nil_left] at e
   subst e
   simpa using hy
  ·rename_i l0 hne
   cases hb:vs.all one2 with
   | false=>rw[hb] at h6;cases h6
   | true=>
    rw[hb] at h6
    simp only[cond_true,Option.some.injEq] at h6
    subst h6
    have hn:¬ (vs'.toArray.size=1):=by
     intro q
     have hl:vs.length=1:=by rw[r2.1];simpa using q
     match vs,hl with
     | [v0],_=>exact hne v0 rfl
    rw[dif_neg hn]
    refine .inr ⟨_,_,rfl,rfl,?_⟩
    simp only[List.toList_toArray]
    exact⟨r2.1,fun i x y hx hy=>(r2.2 i x y hx hy).s2 (List.all_eq_true.1 hb x (List.mem_of_getElem? hx))⟩
theorem evF_ok (hmix:P.follows .mixedOrders=true)(M:Nat){X:FuncId→LV→AH→Option (Option (Value × AH))}(HX:∀ f args h r,X f args h=some (some r)→(∃ fn,entered P f=some fn)∧∀ m w args',Rel P G m h w→L2 (S3 m) args args'.toList→Calls P f args' w fun
  | .returned v',w'=>Wrote P G m h w r v' w'
  | _,_=>False):∀ n,EOk P G (evF P G M X n):=by
 intro n;induction n with
 | zero=>intro f args h r hr;cases hr
 | succ n ih=>
  intro f args h r hr;change stepF P G M X (evF P G M X n) f args h=some r at hr;unfold stepF at hr;cases hx:X f args h with
  | some q=>
   rw[hx] at hr;simp only[stepX] at hr;subst hr;exact HX f args h r hx
  | none=>
   rw[hx] at hr;simp only[stepX] at hr;obtain⟨fn,hen,hr1⟩:=bind_some hr;refine⟨⟨fn,hen⟩,fun m w args' R ha=>?_⟩;obtain⟨hf,-,c,hb⟩:=entered_ok hen;unfold runF at hr1;rw[hb] at hr1;simp only[Option.bind_some] at hr1;unfold runC at hr1;obtain⟨a,hpa,hr2⟩:=bind_some hr1;obtain⟨⟨e,a',h'⟩,hc,hr3⟩:=bind_some hr2;obtain⟨p1,p2,p3⟩:=putAll_ok _ _ _ _ hpa;have hla:args.length=args'.size:=by rw[ha.1];simp
   have hs:SlO m a (args'++Array.replicate (fn.ntmps-args'.size) undef):=by
    refine⟨?_,fun i v hv=>?_⟩
    ·rw[p1];show max args.length fn.ntmps=_;simp;omega
    rw[p3 i,AA.nil_get] at hv;split at hv
    ·rename_i hi
     simp only[Nat.sub_zero] at hv;obtain⟨y,hy,s⟩:=ha.at hv;have hlt:i<args'.size:=by rw[← hla];omega
     have hy':args'[i]?=some y:=by simpa using hy
     have:(args'++Array.replicate (fn.ntmps-args'.size) undef).getD i undef=y:=by
      rw[Array.getD_eq_getD_getElem?,Array.getElem?_append_left hlt,hy'];rfl
     rw[this];exact s
    cases hv
   refine calls_of_wp hf hb ?_;refine (evC_ok ih hmix [] M none c a a' h h' e hc m w _ _ R hs ?_).1;intro m' w' t' R' E' S';have fin:resultsA P fn a' h'=some r→∃ v,(results fn t').run P w'=.ok v w'∧Wrote P G m h w r v w':=by
    intro hres;obtain⟨e1,v',z1,z2⟩:=results_ok R' S' hres;exact⟨v',z1,m',by rw[e1];exact R',by rw[e1];exact E',z2⟩
   unfold aftBody at hr3;split at hr3
   ·rename_i heq
    cases heq;obtain⟨v,q1,q2⟩:=fin hr3;exact⟨rfl,v,q1,q2⟩
   ·rename_i heq
    cases heq;obtain⟨v,q1,q2⟩:=fin hr3;exact⟨rfl,v,q1,q2⟩
   cases hr3
end
end Go.Proofs.YtmolfmgchbjnbaaGreatDoor.Ev
namespace Go.Proofs.YtmolfmgchbjnbaaGreatDoor.Ev
open Go
variable [Inhabited (Nat→BA)]
def plainV:Value→Bool
 | .bool _=>true
 | .int .i64 n=>ilt n 9223372036854775808
 | .int _ _=>true
 | .string _=>true
 | _=>false
theorem plain_s0 {m:Mp}{v:Value} (hv:plainV v=true):S0 m v v:=by
 unfold plainV at hv;split at hv
 ·rfl
 ·exact⟨rfl,rfl,fun _=>ilt_lt hv⟩
 ·rename_i k n hk;exact⟨rfl,rfl,fun e=>absurd e hk⟩
 ·rfl
 cases hv
def TabS (ss:LY) (w:WL):Prop:=∃ B o c,w.cell? ⟨1,0,none⟩=some (.slice (some ⟨B,o,none⟩) ss.length c)∧ss.length≤c∧0<ss.length∧2≤B∧B<w.heap.size∧∀ i s,ss[i]?=some s→w.cell? ⟨B,i+o,none⟩=some (.string s)
def tb (l:LV):AO:=⟨3,l,0,[]⟩
def hs0 (ss:LY):AH:=AH.set 0 (tb []) (AH.set 1 (tb [.slice (some ⟨2,0,none⟩) ss.length ss.length]) (AH.set 2 (tb (ss.map .string)) (AH.nil 3)))
def ms0 (B o N:Nat):Mp:=fun r=>if r=0 then some (some ⟨0,0,0,0⟩) else if r=1 then some (some ⟨1,0,0,0⟩) else if r=2 then some (some ⟨B,o,N,1⟩) else none
theorem nil_get (n q:Nat):(AH.nil n).get q=none:=by
 simp only[AH.nil,AH.get];unfold AH.got;split
 ·rename_i f hf
  obtain⟨f1,k1,h1,h2,rfl⟩:=sel3_form hf;show k1 (f1 _)=none;rw[sel_all h1,sel2_all h2]
 rfl
theorem hs0_get (ss:LY)(q:Nat):(hs0 ss).get q=if q=0 then some (tb []) else if q=1 then some (tb [.slice (some (Ad 2 0)) ss.length ss.length]) else if q=2 then some (tb (ss.map .string)) else none:=by
 unfold hs0;rw[AH.get_set (by decide),AH.get_set (by decide),AH.get_set (by decide),nil_get]
theorem rel0 {P:Program}{ss:LY}{w:WL}{B o c:Nat} (h1:w.cell? (Ad 1 0)=some (.slice (some (Ad B o)) ss.length c)) (h2:ss.length≤c) (h3:0<ss.length) (h4:2≤B) (h5:B<w.heap.size) (h6:∀ i s,ss[i]?=some s→w.cell? (Ad B (i+o))=some (.string s)):Rel P 2 (ms0 B o (o+c)) (hs0 ss) w:=by
 have hn:(hs0 ss).n=3:=by simp only[hs0,AH.set_n];rfl
 refine⟨by rw[hn];omega,fun r x e=>?_,fun r e=>?_,fun r r' x x' e e' eb=>?_,fun g hg=>?_,fun r hr=>?_⟩
 ·rw[hn,hs0_get];simp only[ms0] at e;split at e
  ·rename_i q
   subst q;cases e;exact⟨by omega,by show 0<_;omega,tb [],rfl,.inr (.inr ⟨rfl,fun i v hv=>by simp[tb] at hv⟩)⟩
  split at e
  ·rename_i q
   subst q;cases e;refine⟨by omega,by show 1<_;omega,_,rfl,.inr (.inr ⟨rfl,fun i v hv=>?_⟩)⟩;cases i with
   | succ i=>simp[tb] at hv
   | zero=>
    simp only[tb,List.getElem?_cons_zero,Option.some.injEq] at hv;subst hv;exact⟨_,h1,.inl ⟨rfl,h2,fun q=>by omega,rfl,rfl,.inr ⟨⟨B,o,o+c,1⟩,rfl,rfl,by simp,by simp⟩⟩⟩
  split at e
  ·rename_i q
   subst q;cases e;refine⟨by omega,h5,_,rfl,.inr (.inr ⟨rfl,fun i v hv=>?_⟩)⟩;simp only[tb,List.getElem?_map] at hv;cases hx:ss[i]? with
   | none=>rw[hx] at hv;cases hv
   | some s=>
    rw[hx] at hv;cases hv;exact⟨_,h6 i s hx,.inl rfl⟩
  cases e
 ·simp only[ms0] at e;split at e
  ·cases e
  split at e
  ·cases e
  split at e
  ·cases e
  cases e
 ·simp only[ms0] at e e';split at e
  ·cases e;split at e'
   ·omega
   split at e'
   ·cases e';cases eb
   split at e'
   ·cases e';simp at eb;omega
   cases e'
  split at e
  ·cases e;split at e'
   ·cases e';cases eb
   split at e'
   ·omega
   split at e'
   ·cases e';simp at eb;omega
   cases e'
  split at e
  ·cases e;split at e'
   ·cases e';simp at eb;omega
   split at e'
   ·cases e';simp at eb;omega
   split at e'
   ·omega
   cases e'
  cases e
 ·rcases (show g=0∨g=1 by omega) with rfl | rfl
  ·exact⟨⟨0,0,0,0⟩,rfl,rfl,rfl⟩
  exact⟨⟨1,0,0,0⟩,rfl,rfl,rfl⟩
 rw[hn] at hr;rw[hs0_get,if_neg (by omega),if_neg (by omega),if_neg (by omega)]
structure Kept (w w':WL):Prop where
 os:w'.os=w.os
 tape:w'.tape=w.tape
 output:w'.output=w.output
 size:w.heap.size≤w'.heap.size
 blk:∀ b,b<w.heap.size→w'.heap[b]?=w.heap[b]?
theorem kept0 {ss:LY}{w w':WL}{B o N:Nat}{m':Mp}{h':AH} (E:Ext (ms0 B o N) m' (hs0 ss) h' w w'):Kept w w':=by
 refine⟨E.os,E.tape,E.output,E.size,fun b hb=>E.blk b hb fun r x e _=>?_⟩;rw[hs0_get];simp only[ms0] at e;split at e
 ·rename_i q;rw[if_pos q];exact⟨_,rfl,rfl⟩
 split at e
 ·rename_i q' q;rw[if_neg q',if_pos q];exact⟨_,rfl,rfl⟩
 split at e
 ·rename_i q1 q2 q;rw[if_neg q1,if_neg q2,if_pos q];exact⟨_,rfl,rfl⟩
 cases e
theorem noX_ok {P:Program}:∀ f args h r,noX f args h=some (some r)→(∃ fn,entered P f=some fn)∧∀ m w args',Rel P 2 m h w→L2 (S3 m) args args'.toList→Calls P f args' w fun
  | .returned v',w'=>Wrote P 2 m h w r v' w'
  | _,_=>False:=fun f args h r e=>by cases e
end Go.Proofs.YtmolfmgchbjnbaaGreatDoor.Ev
namespace Go.Proofs.YtmolfmgchbjnbaaGreatDoor
open Go.RowKit
open Wire
namespace Tok
open Ev (TabS)
theorem tabS_fr {ss:LY}{w w':WL} (h:TabS ss w) (hf:Fr [] w w'):TabS ss w':=by
 obtain⟨B,o,c,h1,h2,h3,h4,h5,h6⟩:=h;refine⟨B,o,c,(hf.cell (p:=Ad 1 0) (lt_of_cell h1) (by simp)).trans h1,h2,h3,h4,by have:=hf.size;omega,fun i s hs=>(hf.cell (p:=Ad B (i+o)) h5 (by simp)).trans (h6 i s hs)⟩
structure SignAt (ss:LY) (x:LB) (g:BA):Prop where
 at_:∃ k,ss[k]?=some g∧Lib.hasPrefix x g.data.toList=true∧∀ (j:Nat) (t:BA),j<k→ss[j]?=some t→Lib.hasPrefix x t.data.toList=false
 len:g.size≤x.length
section
variable {w0 w:WL}{r:Nat}{s:BA}{a f:Nat}{L:List Tk}{ss:LY}
theorem addSign_any (ht:TabS ss w0)(hss:ss.length≤100)(h:Rdr w0 r s a f L w)(hL:L.length<100000){g:BA}(hg:SignAt ss (s.extract a s.size).data.toList g) :
  Calls prog 87 #[.pointer (some (Ad r 0))] w fun e w'=>e=.returned (.bool true)∧Rdr w0 r s (a+g.size) f (L++[⟨g,f,0,⟨#[]⟩⟩]) w':=by
 have hle:=h.le;obtain⟨k,hk,hpk,hpj⟩:=hg.at_;have hgl:a+g.size≤s.size:=by
  have:=hg.len;rw[Array.length_toList,show (s.extract a s.size).data.size=(s.extract a s.size).size from rfl,ByteArray.size_extract] at this;omega
 obtain⟨B,o,c,t1,t2,t3,t4,t5,t6⟩:=ht;have hkl:k<ss.length:=(Lgs.1 hk).1;have t1':w.cell? (Ad 1 0)=some (.slice (some (Ad B o)) ss.length c):=(h.fr.cell (p:=Ad 1 0) (lt_of_cell t1) (by simp)).trans t1;have HT:Hid (∀ (W:WL),Fr [] w0 W→∀ (i:Nat) (t:BA),ss[i]?=some t→W.cell? (Ad B (o+i))=some (.string t)):=fun W hf i t hi=>by
  rw[Nat.add_comm o i];exact (hf.cell (p:=Ad B (i+o)) t5 (by simp)).trans (t6 i t hi)
 obtain⟨X,hX⟩:=eXi (s.extract a s.size);rw[hX] at hpk hpj;have hsl:s.extract (a:Int).toNat s.size=X:=hX;have g2:(a:Int)≤s.size:=by omega
 have HR:Hid _:=h;have HJ:Hid _:=hpj;have HP:Hid (∀ (x p:BA) (W:WL),_):=fun (x p:BA) (W:WL)=>strings_HasPrefix x p W;clear h hpj t6 t1 hg;go_enter func87,ntmps87;go_wp2
 go_loopw [7] (fun i wr=>∃ j,j≤k∧i=iA (j:Nat)∧Rdr w0 r s a f L wr) (fun i _=>k-(intOf i).toNat)
 case atStart=>exact⟨0,by omega,rfl,HR.out⟩
 case round=>
  clear HR t1';obtain⟨j,hj,rfl,K⟩:=hrel;obtain⟨xv,tv,⟨c0,c1,c2,c3,c4,f1,f2,f3,f4⟩,hown⟩:=id K.c;have g3:(j:Int)<ss.length:=by omega
  have HK:Hid _:=K;by_cases hlt:j<k
  ·obtain⟨t,htj⟩:∃ t,ss[j]?=some t:=⟨_,Lge (by omega)⟩;have ct:=HT.out wr K.fr j t htj;have hf:=HJ.out j t hlt htj;have hq:=fun (W:WL)=>HP.out X t W;simp only[hf] at hq;have HQ:Hid _:=hq;clear K hown hq;go_wp2;go_quiet (first | (go_at_call 138;refine Calls.quiet_of_same (HQ.out _)))
   go_wp2;exact⟨⟨j+1,by omega,by go_num,HK.out.heap rfl rfl rfl rfl⟩,by simp[intOf];omega⟩
  obtain rfl:j=k:=by omega
  have ct:=HT.out wr K.fr j g hk;have hq:=fun (W:WL)=>HP.out X g W;simp only[hpk] at hq;have HQ:Hid _:=hq;have ha:=fun (W:WL) (K:Rdr w0 r s (a+g.size) f L W)=>add_any K hL g ⟨#[]⟩ 0 0;have HA:Hid _:=ha;clear K hown hq ha;go_wp2;go_quiet (first | (go_at_call 138;refine Calls.quiet_of_same (HQ.out _)))
  go_wp2_with fail;have K5:Rdr w0 r s (a+g.size) f L ((wr.drewN nq).setCell ⟨r,1,none⟩ (.int .i64 ((a:Int)+(g.size:Int)))):=(HK.out.heap (w':=wr.drewN nq) rfl rfl rfl rfl).at (x:=a+g.size) hgl (by omega);refine (HA.out _ K5).mono ?_;rintro e w1 ⟨rfl,K1⟩;have HK1:Hid _:=K1;clear K1 K5;go_wp2;go_ret;exact⟨rfl,HK1.out⟩
theorem mayDivide_any {p n:Nat}{t:BA} (h:Rdr w0 r s a f (L++[⟨⟨#[41]⟩,p,n,t⟩]) w) :
  Calls prog 78 #[.pointer (some (Ad r 0))] w fun e w'=>e=.returned (.bool true)∧Rdr w0 r s a f (L++[⟨⟨#[41]⟩,p,n,t⟩]) w':=by
 obtain⟨xv,tv,⟨c0,c1,c2,c3,c4,f1,f2,f3,f4⟩,hown⟩:=id h.c;have hl:=h.le.2.2.2;have HR:Hid _:=h;rw[Lla,show ([⟨⟨#[41]⟩,p,n,t⟩]:List Tk).length=1 from rfl] at hown hl;have hx:((L++[(⟨⟨#[41]⟩,p,n,t⟩:Tk)]).flatMap tkC)[L.length*4]?=some (.string ⟨#[41]⟩):=by
  rw[List.flatMap_append];have e:(L.flatMap tkC).length=L.length*4:=by
   clear hown HR hl h;induction L with
   | nil=>rfl
   | cons x l ih=>rw[List.flatMap_cons,Lla,ih];simp[tkC];omega
  rw[List.getElem?_append_right (by omega),e,Nat.sub_self];rfl
 obtain⟨g,cap,rfl⟩:∃ g cap,tv=.slice (some (Ad g 0)) (L.length+1) cap:=by
  rcases hown.2 with ⟨_,h0⟩ | ⟨g,cap,cur,hv,_⟩
  ·omega
  exact⟨g,cap,hv⟩
 have cg:=own_cell hown hx;have g1:(((L.length+1:Nat):Int)==0)=false:=by simp;omega
 have g2:((L.length+1:Nat):Int)-1=(L.length:Int):=by omega
 have g3:(L.length:Int)<((L.length+1:Nat):Int):=by omega
 clear h hown hx;generalize hM:L.length=M at *;go_enter func78,ntmps78;go_wp2;go_quiet (fail);go_wp2;go_ret;exact⟨rfl,HR.out.heap rfl rfl rfl rfl⟩
end
end Tok
open Go.RowKit
open Wire Flow
theorem makeMap88 (w:WL):(Instr.makeMap 144 none).run prog w=.ok (.map (some w.heap.size)) (w.alloc (.map #[] 0)):=by
 kernel_rfl
theorem build90 (b:Nat)(w:WL):(Instr.build 146 #[(0,.map (some b))]).run prog w=.ok (.agg #[.map (some b),.slice none 0 0]) w:=by
 kernel_rfl
theorem newArray_any (W:WL):Calls prog 61 #[] W fun e w=>∃ b,e=.returned (.agg #[.map (some b),.slice none 0 0])∧W.heap.size≤b∧MapAt w b []∧Fr [] W w:=by
 have hm:=makeMap88 (W.alloc (.cells #[.map none,.slice none 0 0] 146));have hb:=build90;go_enter func61,ntmps61;go_wp2_with fail;have k1:((W.alloc (.cells #[.map (some (W.heap.size+1)),.slice none 0 0] 146)).alloc (.map #[] 0)).heap[W.heap.size]?=some (.cells #[.map (some (W.heap.size+1)),.slice none 0 0] 146):=heap_alloc2_old W _ _;have k2:((W.alloc (.cells #[.map (some (W.heap.size+1)),.slice none 0 0] 146)).alloc (.map #[] 0)).heap[W.heap.size+1]?=some (.map #[] 0):=heap_alloc2_new W _ _;refine bodyPost_ret (results_cell_row rfl _ _ W.heap.size 146 #[.map (some (W.heap.size+1)),.slice none 0 0] (0,0) _ rfl k1 underlying146 rfl (by kernel_rfl)) rfl ?_;exact⟨W.heap.size+1,rfl,by omega,⟨#[],0,k2,rfl⟩,((Fr.refl [] W).alloc _).alloc _⟩
def ms0 (m:Mo) (recs:LY) (draws:List Int):Ms:=msOf (Mach.begin_ m recs draws) [] (Mach.enter m 0 [])
section
variable {E:Mach.Env}{X gF:Nat}{W:WL}{tag:NN}{recs:LY}{draws:List Int}
def lv0 (n:Nat) (i:Nat):Bool:=decide (i=10∨i=11∨i=12∨i=13∨i=5000∨(21≤i∧i<21+2*n∧i % 2=1))
def R0 (X:Nat) (x:Mx) (s:Ms) (i:Nat):Rw:=
 if i=10 then ⟨.slice (some ⟨X,0,none⟩) 1 1,135,16,1,xC x s⟩
 else if i=11 then ⟨x.frv,225,51,s.low.length+1,rng (s.low.length+1) fun k=>frC (x.F k) (fAt s k)⟩
 else if i=12 then ⟨x.gv,221,3,s.w.globs.length,rng s.w.globs.length fun i=>vC (s.w.globs.getD i Mach.nothing)⟩
 else if i=13 then ⟨x.av,146,2,s.w.arrs.length,rng s.w.arrs.length fun i=>[.map (some (x.A i).1),(x.A i).2]⟩
 else if i=5000 then ⟨.slice none 0 0,306,4,0,[]⟩
 else ⟨.slice none 0 0,9,1,0,[]⟩
def mp0 (n:Nat) (x:Mx) (i:Nat):Option (Nat × List (Value × Value)):=if 20≤i∧i<20+2*n∧i % 2=0 then some ((x.A ((i-20) / 2)).1,[]) else none
theorem sto0 {x:Mx}{s:Ms} (hn:s.w.arrs.length≤1000) (oX:W.ownsRow 0 135 16 (.slice (some (Ad X 0)) 1 1) 1 (xC x s)) (oF:W.ownsRow 0 225 51 x.frv (s.low.length+1) (rng (s.low.length+1) fun k=>frC (x.F k) (fAt s k))) (oG:W.ownsRow 0 221 3 x.gv s.w.globs.length (rng s.w.globs.length fun i=>vC (s.w.globs.getD i Mach.nothing))) (oA:W.ownsRow 0 146 2 x.av s.w.arrs.length (rng s.w.arrs.length fun i=>[.map (some (x.A i).1),(x.A i).2]))
  (tX:tag X=10) (tF:Tg tag x.frv 11) (tG:Tg tag x.gv 12) (tA:Tg tag x.av 13) (hA:∀ i,i<s.w.arrs.length→MapAt W (x.A i).1 []∧tag (x.A i).1=20+2*i):Sto W tag (lv0 s.w.arrs.length) (R0 X x s) (mp0 s.w.arrs.length x) where
 rows:=fun i hi=>by
  have hi':i=10∨i=11∨i=12∨i=13∨i=5000∨(21≤i∧i<21+2*s.w.arrs.length∧i % 2=1):=by simpa [lv0] using hi
  rcases hi' with rfl | rfl | rfl | rfl | rfl | ⟨h1,h2,h3⟩
  ·exact⟨oX,fun q hq=>by
    have:X=q:=by simpa [R0,Value.ownBlock] using hq
    rw[← this];exact tX⟩
  ·exact⟨oF,tF⟩
  ·exact⟨oG,tG⟩
  ·exact⟨oA,tA⟩
  ·exact⟨⟨rfl,.inl ⟨rfl,rfl⟩⟩,Tg.nil _ _⟩
  ·have e:R0 X x s i=⟨.slice none 0 0,9,1,0,[]⟩:=by
    unfold R0
    rw[if_neg (by omega),if_neg (by omega),if_neg (by omega),if_neg (by omega),if_neg (by omega)]
   rw[e]
   exact⟨⟨rfl,.inl ⟨rfl,rfl⟩⟩,Tg.nil _ _⟩
 maps:=fun i b l h=>by
  unfold mp0 at h
  split at h
  ·rename_i c
   simp only[Option.some.injEq,Prod.mk.injEq] at h
   obtain⟨h1,h2⟩:=h
   obtain⟨a,t⟩:=hA ((i-20) / 2) (by omega)
   rw[← h1,← h2]
   exact⟨a,by rw[t];omega⟩
  ·cases h
 far:=fun i hi=>by
  have hi':i=10∨i=11∨i=12∨i=13∨i=5000∨(21≤i∧i<21+2*s.w.arrs.length∧i % 2=1):=by simpa [lv0] using hi
  unfold mp0
  rw[if_neg (by omega)]
 num:=fun i h=>by
  rcases h with h | h
  ·have hi':i=10∨i=11∨i=12∨i=13∨i=5000∨(21≤i∧i<21+2*s.w.arrs.length∧i % 2=1):=by simpa [lv0] using h
   omega
  ·unfold mp0 at h
   split at h
   ·omega
   ·exact absurd rfl h
end
section
variable {E:Mach.Env}{X gF:Nat}{W:WL}{tag:NN}{recs:LY}{draws:List Int}
theorem mm_begin {x:Mx}(h6:6≤W.heap.size)(hm:3≤E.mo.fns.length)(hn:E.mo.arrs.toNat≤1000)(hpl:PlcAt E.mo 0 (x.code 0).2 0 0)
  (sta:Sta E W tag x.tv x.pv x.fv x.code) (e0:x.entry=0)
  (oX:W.ownsRow 0 135 16 (.slice (some (Ad X 0)) 1 1) 1 (xC x (ms0 E.mo recs draws)))
  (vF:x.frv=.slice (some (Ad gF 0)) 1 1) (oF:W.ownsRow 0 225 51 x.frv 1 (frC (x.F 0) (Mach.enter E.mo 0 [])))
  (fF:(x.F 0).cv=(x.code 0).1∧(x.F 0).ix=0∧(x.F 0).sv=.slice none 0 0)
  (oG:W.ownsRow 0 221 3 x.gv E.mo.globs.toNat (rng E.mo.globs.toNat fun _=>vC Mach.nothing))
  (oA:W.ownsRow 0 146 2 x.av E.mo.arrs.toNat (rng E.mo.arrs.toNat fun i=>[.map (some (x.A i).1),.slice none 0 0])) (sA:∀ i,i<E.mo.arrs.toNat→(x.A i).2=.slice none 0 0)
  (tX:tag X=10) (tF:Tg tag x.frv 11) (tG:Tg tag x.gv 12) (tA:Tg tag x.av 13) (hA:∀ i,i<E.mo.arrs.toNat→MapAt W (x.A i).1 []∧tag (x.A i).1=20+2*i)
  (rcs:RoL W tag x.rv (recs.map .string)) (drw:RoL W tag x.dv (draws.map (.int .i64))) (fl:x.flv=.slice none 0 0) :
  MM E X ⟨gF,x.gv,x.av,0,x.pv,x.code⟩ (ms0 E.mo recs draws) W tag:=by
 have la:(ms0 E.mo recs draws).w.arrs.length=E.mo.arrs.toNat:=by simp[ms0,msOf,Mach.begin_]
 have lg:(ms0 E.mo recs draws).w.globs.length=E.mo.globs.toNat:=by simp[ms0,msOf,Mach.begin_]
 have hS:=sto0 (W:=W) (tag:=tag) (X:=X) (x:=x) (s:=ms0 E.mo recs draws) (by rw[la];exact hn) oX ?_ ?_ ?_ tX tF tG tA (by rw[la];exact hA)
 ·refine⟨h6,lv0 (ms0 E.mo recs draws).w.arrs.length,R0 X x (ms0 E.mo recs draws),mp0 (ms0 E.mo recs draws).w.arrs.length x,x,⟨⟨rfl,e0,rfl,rfl⟩,rfl⟩,?_⟩
  exact {
   S:=hS
   sta:=sta
   lX:=by simp[lv0]
   rX:=rfl
   lF:=by simp[lv0]
   rF:=rfl
   vF:=⟨1,vF⟩
   nF:=Nat.zero_le _
   lG:=by simp[lv0]
   rG:=rfl
   lA:=by simp[lv0]
   rA:=rfl
   nA:=by rw[la];exact hn
   arr:=fun i hi=>by
    rw[la] at hi
    have e:(ms0 E.mo recs draws).w.arrs.getD i []=[]:=by
     simp[ms0,msOf,Mach.begin_,List.getElem?_replicate]
     split <;> rfl
    refine⟨?_,?_,?_⟩
    ·rw[e,la]
     unfold mp0
     rw[if_pos (by omega),show (20+2*i-20) / 2=i by omega]
     rfl
    ·rw[la];simp[lv0];omega
    ·rw[e,sA i hi]
     unfold R0
     rw[if_neg (by omega),if_neg (by omega),if_neg (by omega),if_neg (by omega),if_neg (by omega)]
     rfl
   stk:=fun k hk=>by
    have hk0:k=0:=Nat.le_zero.1 hk
    subst hk0
    refine⟨by simp[lv0],?_⟩
    rw[fF.2.2]
    rfl
   wlk:=fun k j c hk hj hc=>by
    have hk0:k=0:=Nat.le_zero.1 hk
    subst hk0
    have:(fAt (ms0 E.mo recs draws) 0).stk=[]:=rfl
    rw[this] at hj
    simp at hj
   fn:=fun k hk=>by
    have hk0:k=0:=Nat.le_zero.1 hk
    subst hk0
    refine⟨by show 0<_;omega,fF.1,?_⟩
    rw[fF.2.1]
    exact hpl
   rcs:=rcs
   drw:=drw
   fld:=⟨none,0,fl,Nat.le_refl _,by decide,fun h=>absurd h (by simp[ms0,msOf,Mach.begin_])⟩ }
 ·exact oF
 ·rw[lg]
  refine Eq.mp (congrArg _ (rng_congr fun j hj=>?_)) oG
  congr 1
  simp[ms0,msOf,Mach.begin_,List.getElem?_replicate,hj]
 ·rw[la]
  refine Eq.mp (congrArg _ (rng_congr fun j hj=>?_)) oA
  rw[sA j hj]
end
theorem cloneI_any {ds:List Int}{v:Value} (W:WL) (hn:ds.length≤50) (h:ArgL W v (ds.map (.int .i64))):Calls prog 57 #[v] W fun e w=>∃ v',e=.returned v'∧w.ownsRow W.heap.size 3 1 v' ds.length (ds.map (.int .i64))∧Fr [] W w:=by
 obtain⟨o,c,rfl,hc,hc2,hx⟩:=h;rw[List.length_map] at hc hx ⊢;rcases o with _ | ⟨g,off,z⟩
 ·have h0:ds.length=0:=by
   rcases Nat.eq_zero_or_pos ds.length with h | h
   ·exact h
   obtain⟨g,off,e,-⟩:=hx h;cases e
  refine (slices_Clone_int_nil ds.length c W).mono ?_;rintro e w ⟨rfl,rfl⟩;have:ds=[]:=List.eq_nil_of_length_eq_zero h0;subst this;exact⟨_,rfl,⟨rfl,.inl ⟨rfl,rfl⟩⟩,Fr.refl [] _⟩
 rcases Nat.eq_zero_or_pos ds.length with h | h
 ·have:ds=[]:=List.eq_nil_of_length_eq_zero h;subst this;refine (slices_Clone_int_zero ⟨g,off,z⟩ c W).mono ?_;rintro e w ⟨v',rfl,ow,-,hB⟩;exact⟨v',rfl,ow,Fr.of_below hB⟩
 obtain⟨g',off',e,-,hcell⟩:=hx h;cases e;refine (slices_Clone_int g off ds.length c ds W (Nat.le_refl _) (by omega) fun j hj=>?_).mono ?_
 ·refine hcell j _ ?_;rw[List.getElem?_map,Lge hj,List.getD_eq_getElem?_getD,Lge hj];rfl
 rintro e w ⟨v',rfl,ow,-,hB⟩;rw[List.take_length] at ow;exact⟨v',rfl,ow,Fr.of_below hB⟩
theorem results_row3 {P:Program}{fn:Func}{p u v x:Tmp}{ty:TypeId} (h:fn.results=#[.cell p ty,.tmp u,.tmp v,.tmp x]) (tmps:Array Value) (w:WL) (g:Nat) (t:TypeId) (cs:Array Value) (fr:Nat × Nat) (d:TypeDesc)
  (hp:tmps.getD p undef=.pointer (some (Ad g 0))) (hg:w.heap[g]?=some (.cells cs t fr))
  (hu:P.underlying ty=some d) (hd:(match d with | .struct _ | .array _ _=>true | _=>false)=true) (hi:(P.info? ty).map (·.size)=some cs.size) :
  (results fn tmps).run P w=.ok (.tuple #[.agg cs,tmps.getD u undef,tmps.getD v undef,tmps.getD x undef]) w:=by
 have hp':tmps[p]?.getD undef=.pointer (some (Ad g 0)):=by simpa using hp
 simp[results,h,hp',asAddr,run_loadVar_row w g t ty cs fr d hg hu hd hi]
section
variable {W W2:WL}{tag:NN}{lv:Nat→Bool}{R:Nat→Rw}{mp:Nat→Option (Nat × List (Value × Value))}
theorem Sto.mark (h:Sto W tag lv R mp)(F:Fr [] W W2)(t:Nat):Sto W2 (newTag tag W.heap.size t) lv R mp∧Kp tag (newTag tag W.heap.size t) W W2:=⟨h.frm F t,Kp.of_fr F fun k hk=>newTag_old hk⟩
theorem Sto.app (h:Sto W tag lv R mp){X m j n z bytes T e:Nat}{zv sv:Value}{xs ys news:LV} (hi:(prog.info? e).map (fun i=>(i.zero,i.size,i.bytes))=some (some zv,z,bytes)) (hu:prog.underlying T=some (.slice e)) (hzs:zv.cells.size=z) (hz:0<z)
  (l10:lv 10=true) (r10:R 10=⟨.slice (some (Ad X 0)) 1 1,135,16,1,xs⟩) (hm:m≠10) (lm:lv m=true) (rm:R m=⟨sv,e,z,n,ys⟩) (hx:xs[j]?=some sv) (hj:j<16) (hn:n≤1000) (hb:bytes≤1000) (hnl:news.length=z) (hone:∀ u ∈ news,u.oneCell'=true) (F:Fr [] W W2) :
  ∃ so sc vo vc W4 t4,sv=.slice so n sc∧(Builtin.append_ #[T,T] T #[.slice so n sc,.slice (some (Ad W2.heap.size 0)) 1 1]).run prog (W2.alloc (.cells news.toArray e))=.ok (.slice vo (n+1:Nat) vc) W4∧W2.cell? (Ad X j)=some (.slice so n sc)∧W4.cell? (Ad X j)=some (.slice so n sc)∧W4.frozen? (Ad X j)=false ∧
   Sto (W4.setCell ⟨X,j,none⟩ (.slice vo (n+1:Nat) vc)) t4 lv (up (up R m ⟨.slice vo (n+1:Nat) vc,e,z,n+1,ys++news⟩) 10 ⟨.slice (some (Ad X 0)) 1 1,135,16,1,xs.set j (.slice vo (n+1:Nat) vc)⟩) mp∧Kp tag t4 W (W4.setCell ⟨X,j,none⟩ (.slice vo (n+1:Nat) vc))∧Kp (newTag tag W.heap.size 9) t4 W2 (W4.setCell ⟨X,j,none⟩ (.slice vo (n+1:Nat) vc)):=by
 obtain⟨i0,hi,hz0,hz1,hz2⟩:=info_parts hi;have o10:W.ownsRow 0 135 16 (.slice (some (Ad X 0)) 1 1) 1 xs:=by have:=(h.rows 10 l10).1;rw[r10] at this;exact this
 have om:W.ownsRow 0 e z sv n ys:=by have:=(h.rows m lm).1;rw[rm] at this;exact this
 obtain⟨so,sc,rfl⟩:=own_form om;have hXl:X<W.heap.size:=(o10.lt X rfl).2;obtain⟨S2,K2⟩:=h.mark F 9;have F3:Fr [] W2 (W2.alloc (.cells news.toArray e)):=(Fr.refl [] W2).alloc _;obtain⟨S3,K3⟩:=S2.mark F3 9;have hc:=cells_new W2 news.toArray e;generalize W2.alloc (.cells news.toArray e)=W3 at *;have om3:W3.ownsRow 0 e z (.slice so n sc) n ys:=by have:=(S3.rows m lm).1;rw[rm] at this;exact this
 obtain⟨v',W4,hr4,hown',hgrow,-,hwh⟩:=run_append_own_at (P:=prog) (w:=W3) 0 T T e i0 _ z bytes hu hi hz0 hz1 hz2 hzs hz _ _ _ om3 (Ad W2.heap.size 0) 1 1 news (by rw[Nat.one_mul];exact hnl) hc hone (by unfold maxLen;omega) (Nat.le_trans (Nat.mul_le_mul (show n+1≤1001 by omega) hb) (by decide)) (Nat.zero_le _);obtain⟨vo,vc,rfl⟩:=own_form hown';obtain⟨S4,K4⟩:=S3.grow (i:=m) lm hown' (by rw[rm];exact hgrow) (by rw[rm];exact hwh);have r10':up R m ⟨.slice vo (n+1) vc,e,z,n+1,ys++news⟩ 10=⟨.slice (some (Ad X 0)) 1 1,135,16,1,xs⟩:=by rw[up_off _ _ (by omega)];exact r10
 obtain⟨S5,K5⟩:=S4.put l10 r10' (j:=j) (by omega) (.slice vo (n+1) vc);have o4:W4.ownsRow 0 135 16 (.slice (some (Ad X 0)) 1 1) 1 xs:=by have:=(S4.rows 10 l10).1;rw[r10'] at this;exact this
 exact⟨so,sc,vo,vc,W4,_,rfl,hr4,(F.cell (p:=Ad X j) hXl (by simp)).trans (own_cell o10 hx),own_cell o4 hx,own_thaw o4 j,S5,((K2.trans K3).trans K4).trans K5,(K3.trans K4).trans K5⟩
end
structure NwX where
 tv:Value
 pv:Value
 fv:Value
 rv:Value
 dv:Value
 gv:Value
 av:Value
def nwC (x:NwX):LV:=[x.tv,x.pv,x.fv,x.rv,x.dv,.int .i64 0,.string ⟨#[]⟩,.slice none 0 0,x.gv,x.av,.int .i64 0,.slice none 0 0,.int .i64 0,.int .i64 0,.string ⟨#[]⟩,.int .i64 0]
def lvN (i:Nat):Bool:=decide (i=10∨(12≤i∧i≤17))
def avN (ka:Nat) (A:NN) (i:Nat):LV:=[if i<ka then .map (some (A i)) else .map none,.slice none 0 0]
def fvN (E:Mach.Env) (code:Nat→Value × List Stp) (f:Nat):LV:=[.int .i64 (Mach.parOf E.mo f:Nat),(code f).1]
def RN (E:Mach.Env) (X:Nat) (x:NwX) (recs:LY) (draws:List Int) (kr kp kf ka:Nat) (pb A:NN) (code:Nat→Value × List Stp) (i:Nat):Rw:=
 if i=10 then ⟨.slice (some ⟨X,0,none⟩) 1 1,135,16,1,nwC x⟩
 else if i=12 then ⟨x.gv,221,3,E.mo.globs.toNat,rng E.mo.globs.toNat fun _=>vC Mach.nothing⟩
 else if i=13 then ⟨x.av,146,2,E.mo.arrs.toNat,rng E.mo.arrs.toNat (avN ka A)⟩
 else if i=14 then ⟨x.rv,9,1,kr,(recs.take kr).map .string⟩
 else if i=15 then ⟨x.pv,136,1,kp,rng kp fun i=>[ptr (pb i)]⟩
 else if i=16 then ⟨x.fv,143,2,kf,rng kf (fvN E code)⟩
 else ⟨x.dv,3,1,draws.length,draws.map (.int .i64)⟩
def mpN (ka:Nat) (A:NN) (i:Nat):Option (Nat × List (Value × Value)):=if 20≤i∧i<20+2*ka∧i % 2=0 then some (A ((i-20) / 2),[]) else none
structure Nw (E:Mach.Env) (W0:WL) (t0:NN) (X:Nat) (recs:LY) (draws:List Int) (x:NwX) (kr kp kf ka:Nat) (pb A:NN) (code:Nat→Value × List Stp) (w:WL) (tag:NN):Prop where
 S:Sto w tag lvN (RN E X x recs draws kr kp kf ka pb A code) (mpN ka A)
 K:Kp t0 tag W0 w
 pat:∀ i,i<kp→∃ t,E.mo.pats[i]?=some t∧pb i<w.heap.size∧tag (pb i)=9∧PatG E w (pb i) t
 cod:∀ f,f<kf→CodeM E.mo w tag f (code f).1 (code f).2
section
variable {E:Mach.Env}{W0 w w' W2:WL}{t0 tag tag':NN}{X:Nat}{recs:LY}{draws:List Int}{x x':NwX}{kr kr' kp kf ka ka':Nat}{pb A A':NN}{code:Nat→Value × List Stp}
theorem Nw.turn (h:Nw E W0 t0 X recs draws x kr kp kf ka pb A code w tag)(S:Sto w' tag' lvN (RN E X x' recs draws kr' kp kf ka' pb A' code) (mpN ka' A'))(K:Kp tag tag' w w'):Nw E W0 t0 X recs draws x' kr' kp kf ka' pb A' code w' tag' where
 S:=S
 K:=h.K.trans K
 pat:=fun i hi=>by
  obtain⟨t,h1,h2,h3,h4⟩:=h.pat i hi
  exact⟨t,h1,Nll h2 K.size,(K.ret _ h2).trans h3,h4.of_block (K.blk _ h2 (by omega))⟩
 cod:=fun f hf=>(h.cod f hf).kp K
theorem Nw.fr (h:Nw E W0 t0 X recs draws x kr kp kf ka pb A code w tag)(F:Fr [] w w'):Nw E W0 t0 X recs draws x kr kp kf ka pb A code w' (newTag tag w.heap.size 9):=h.turn (h.S.mark F 9).1 (h.S.mark F 9).2
theorem info80:(prog.info? 136).map (fun i=>(i.zero,i.size,i.bytes))=some (some (.pointer none),1,8):=by kernel_rfl
theorem info87:(prog.info? 143).map (fun i=>(i.zero,i.size,i.bytes))=some (some (.agg #[iA 0,.slice none 0 0]),2,32):=by kernel_rfl
def AppP (X j T e n:Nat) (news:LV) (sv:Value) (W2:WL) (N:Value→WL→Prop):Prop:=
 ∃ so sc vo vc W4,sv=.slice so n sc∧(Builtin.append_ #[T,T] T #[.slice so n sc,.slice (some ⟨W2.heap.size,0,none⟩) 1 1]).run prog (W2.alloc (.cells news.toArray e))=.ok (.slice vo (n+1:Nat) vc) W4∧W2.cell? ⟨X,j,none⟩=some (.slice so n sc)∧W4.cell? ⟨X,j,none⟩=some (.slice so n sc)∧W4.frozen? ⟨X,j,none⟩=false∧N (.slice vo (n+1:Nat) vc) (W4.setCell ⟨X,j,none⟩ (.slice vo (n+1:Nat) vc))
theorem Nw.rec_ (h:Nw E W0 t0 X recs draws x kr kp kf ka pb A code w tag)(F:Fr [] w W2){s:BA}(hs:recs[kr]?=some s)(hk:kr≤1000) :
  AppP X 3 22 9 kr [.string s] x.rv W2 (fun v W5=>∃ t5,Nw E W0 t0 X recs draws { x with rv:=v } (kr+1) kp kf ka pb A code W5 t5):=by
 obtain⟨so,sc,vo,vc,W4,t4,h1,h2,h3,h4,h5,h6,h7,h8⟩:=h.S.app (X:=X) (m:=14) (j:=3) (T:=22) infoA9 underlying22 rfl (by decide) rfl rfl (by decide) rfl rfl rfl (by decide) hk (by decide) (news:=[.string s]) rfl (by intro u hu;simp at hu;subst hu;rfl) F;refine⟨so,sc,vo,vc,W4,h1,h2,h3,h4,h5,t4,h.turn (h6.same fun i hi=>?_) h7⟩;have hi':i=10∨(12≤i∧i≤17):=by simpa [lvN] using hi
 by_cases e1:i=10
 ·subst e1;rw[up_same];rfl
 rw[up_off _ _ e1];by_cases e2:i=14
 ·subst e2;rw[up_same];show Rw.mk _ 9 1 (kr+1) ((recs.take (kr+1)).map .string)=_;rw[List.take_add_one,hs];simp
 rw[up_off _ _ e2];unfold RN;rw[if_neg e1,if_neg e1,if_neg e2,if_neg e2]
theorem Nw.cod_ (h:Nw E W0 t0 X recs draws x kr kp kf ka pb A code w tag)(F:Fr [] w W2){c:Value × List Stp}{cg cn cc:Nat} (hc:c.1=.slice (some (Ad cg 0)) cn cc) (hC:CodeM E.mo W2 (newTag tag w.heap.size 9) kf c.1 c.2) (hk:kf≤1000) :
  AppP X 2 130 143 kf [iA (Mach.parOf E.mo kf:Nat),c.1] x.fv W2 (fun v W5=>∃ t5 code',Nw E W0 t0 X recs draws { x with fv:=v } kr kp (kf+1) ka pb A code' W5 t5):=by
 obtain⟨so,sc,vo,vc,W4,t4,h1,h2,h3,h4,h5,h6,h7,h8⟩:=h.S.app (X:=X) (m:=16) (j:=2) (T:=130) info87 underlying130 rfl (by decide) rfl rfl (by decide) rfl rfl rfl (by decide) hk (by decide) (news:=[iA (Mach.parOf E.mo kf:Nat),c.1]) rfl (by intro u hu;simp at hu;rcases hu with rfl | rfl;rfl;rw[hc];rfl) F;refine⟨so,sc,vo,vc,W4,h1,h2,h3,h4,h5,t4,up code kf c,h6.same fun i hi=>?_,h.K.trans h7,fun i hi=>?_,fun f hf=>?_⟩
 ·have hi':i=10∨(12≤i∧i≤17):=by simpa [lvN] using hi
  by_cases e1:i=10
  ·subst e1;rw[up_same];rfl
  rw[up_off _ _ e1];by_cases e2:i=16
  ·subst e2;rw[up_same];show Rw.mk _ 143 2 (kf+1) (rng (kf+1) (fvN E (up code kf c)))=_;rw[rng_succ,rng_congr (g:=fvN E code) fun j hj=>by unfold fvN;rw[up_off _ _ (by omega)]];unfold fvN;rw[up_same]
  rw[up_off _ _ e2];unfold RN;rw[if_neg e1,if_neg e1,if_neg e2,if_neg e2]
 ·obtain⟨t,g1,g2,g3,g4⟩:=h.pat i hi;exact⟨t,g1,Nll g2 h7.size,(h7.ret _ g2).trans g3,g4.of_block (h7.blk _ g2 (by omega))⟩
 by_cases e:f=kf
 ·subst e;rw[up_same];exact hC.kp h8
 rw[up_off _ _ e];exact (h.cod f (by omega)).kp h7
theorem Nw.arr_ (h:Nw E W0 t0 X recs draws x kr kp kf ka pb A code w tag)(F:Fr [] w W2){b:Nat}(hb:w.heap.size≤b)(hM:MapAt W2 b []){ga cap:Nat}(hav:x.av=.slice (some (Ad ga 0)) E.mo.arrs.toNat cap)(hk:ka<E.mo.arrs.toNat) :
  ∃ t5 A',Nw E W0 t0 X recs draws x kr kp kf (ka+1) pb A' code ((W2.setCell ⟨ga,ka*2,none⟩ (.map (some b))).setCell ⟨ga,ka*2+1,none⟩ (.slice none 0 0)) t5:=by
 have h1:Sto W2 (newTag tag w.heap.size (20+2*ka)) lvN (RN E X x recs draws kr kp kf ka pb A code) (up (mpN ka A) (20+2*ka) (some (b,[]))):=
  h.S.map (i:=20+2*ka) (by simp[lvN];omega) (by omega) (Chg.of_fr F) (fun k hk=>newTag_old hk) hM (newTag_new hb)
 have K1:Kp tag (newTag tag w.heap.size (20+2*ka)) w W2:=Kp.of_fr F fun k hk=>newTag_old hk;obtain⟨h2,K2⟩:=h1.put (i:=13) (g:=ga) (n:=E.mo.arrs.toNat) (cap:=cap) (z:=2) (e:=146) (xs:=rng E.mo.arrs.toNat (avN ka A)) rfl (by rw[← hav];rfl) (j:=ka*2) (by omega) (.map (some b));obtain⟨h3,K3⟩:=h2.put (i:=13) rfl (up_same _ _ _) (j:=ka*2+1) (by omega) (.slice none 0 0);rw[up_up] at h3;have em:up (mpN ka A) (20+2*ka) (some (b,[]))=mpN (ka+1) (up A ka b):=by
  funext i;unfold mpN;by_cases e:i=20+2*ka
  ·subst e;rw[up_same,if_pos (by omega),show (20+2*ka-20) / 2=ka by omega,up_same]
  rw[up_off _ _ e];by_cases c:20≤i∧i<20+2*ka∧i % 2=0
  ·rw[if_pos c,if_pos (by omega),up_off _ _ (by omega)]
  rw[if_neg c,if_neg (by omega)]
 refine⟨_,up A ka b,h.turn ?_ ((K1.trans K2).trans K3)⟩;rw[em] at h3;refine h3.same fun i hi=>?_;have hi':i=10∨(12≤i∧i≤17):=by simpa [lvN] using hi
 by_cases e1:i=13
 ·subst e1;rw[up_same];show Rw.mk x.av 146 2 E.mo.arrs.toNat (rng E.mo.arrs.toNat (avN (ka+1) (up A ka b)))=_;rw[hav];congr 1;have e0:(rng E.mo.arrs.toNat (avN ka A)).set (ka*2) (.map (some b))=rng E.mo.arrs.toNat (up (avN ka A) ka ((avN ka A ka).set 0 (.map (some b)))):=rng_set (z:=2) (t:=0) (fun _ _=>rfl) hk (by decide) _;rw[e0,rng_set (z:=2) (t:=1) (fun j _=>by by_cases c:j=ka;subst c;rw[up_same];rfl;rw[up_off _ _ c];rfl) hk (by decide),up_same,up_up];refine rng_congr fun j hj=>?_;by_cases e:j=ka
  ·subst e;rw[up_same];unfold avN;rw[if_pos (by omega),up_same];rfl
  rw[up_off _ _ e];unfold avN;by_cases c:j<ka
  ·rw[if_pos c,if_pos (by omega),up_off _ _ e]
  rw[if_neg c,if_neg (by omega)]
 rw[up_off _ _ e1];unfold RN;split
 ·rfl
 split
 ·rfl
 rfl
end
theorem made_rng (z:Array Value)(hz:0<z.size)(n:Nat):(madeCells z (n*z.size)).toList=rng n (fun _=>z.toList):=by
 have hl:(rng n (fun _=>z.toList)).length=n*z.size:=rng_len (fun _ _=>by simp);apply List.ext_getElem?;intro k;rcases Nat.lt_or_ge k (n*z.size) with hk | hk
 ·have h1:k / z.size<n:=Nat.div_lt_of_lt_mul (by rw[Nat.mul_comm];exact hk);have h2:k % z.size<z.size:=Nat.mod_lt _ hz;have h3:(rng n (fun _=>z.toList))[k / z.size*z.size+k % z.size]?=z.toList[k % z.size]?:=rng_get (fun _ _=>by simp) h1 h2;rw[Nat.div_add_mod'] at h3;rw[h3,Array.getElem?_toList,Array.getElem?_toList];unfold madeCells;rw[Array.getElem?_map,Array.getElem?_range,if_pos hk,Array.getElem?_eq_getElem h2];simp only[Option.map_some];rw[getElem!_pos z _ h2]
 rw[List.getElem?_eq_none (by rw[Array.length_toList,size_madeCells];exact hk),List.getElem?_eq_none (by rw[hl];exact hk)]
theorem own_madeZ {w:WL}{g:Nat}{e:TypeId}{z:Array Value} (hz:0<z.size) {n:Nat} (hn:n≤100000) (h:w.heap[g]?=some (.cells (madeCells z (n*z.size)) e)):w.ownsRow 0 e z.size (.slice (some (Ad g 0)) n n) n (rng n fun _=>z.toList):=by
 refine⟨rng_len (fun _ _=>by simp),.inr ⟨g,n,_,rfl,Nat.zero_le _,h,Nat.le_refl _,by unfold maxLen;omega,size_madeCells _ _,?_⟩⟩;rw[made_rng z hz];exact List.take_of_length_le (by rw[rng_len (z:=z.size) (fun _ _=>by simp)];exact Nat.le_refl _)
theorem infoV135:(prog.info? 221).map (fun i=>(i.zero,i.size,i.bytes))=some (some (.agg #[.int .u8 0,iA 0,.string ⟨#[]⟩]),3,32):=by kernel_rfl
theorem infoA90:(prog.info? 146).map (fun i=>(i.zero,i.size,i.bytes))=some (some (.agg #[.map none,.slice none 0 0]),2,32):=by kernel_rfl
theorem mkGlobs (n:Nat)(hn:n≤100000)(W:WL):(Instr.makeSlice 127 (iA (n:Int)) (iA (n:Int))).run prog W=.ok (.slice (some (Ad W.heap.size 0)) n n) (W.alloc (.cells (madeCells #[.int .u8 0,iA 0,.string ⟨#[]⟩] (n*3)) 221)):=by
 obtain⟨i0,hi,hz0,hz1,hz2⟩:=info_parts infoV135;have:=run_make (P:=prog) W 127 221 i0 _ underlying127 hi hz0 .i64 .i64 n n (by omega) (by omega) (by rw[hz2];omega) (by omega);simp only[Int.toNat_natCast,hz1] at this;exact this
theorem mkArrs (n:Nat)(hn:n≤100000)(W:WL):(Instr.makeSlice 128 (iA (n:Int)) (iA (n:Int))).run prog W=.ok (.slice (some (Ad W.heap.size 0)) n n) (W.alloc (.cells (madeCells #[.map none,.slice none 0 0] (n*2)) 146)):=by
 obtain⟨i0,hi,hz0,hz1,hz2⟩:=info_parts infoA90;have:=run_make (P:=prog) W 128 146 i0 _ underlying128 hi hz0 .i64 .i64 n n (by omega) (by omega) (by rw[hz2];omega) (by omega);simp only[Int.toNat_natCast,hz1] at this;exact this
def tagN (t0:NN) (B X gg ga:Nat) (dv:Value) (k:Nat):Nat:=
 if k<B then t0 k else if k=X then 10 else if k=gg then 12 else if k=ga then 13 else if dv.ownBlock=some k then 17 else 9
section
variable {E:Mach.Env}{W0 w:WL}{t0:NN}{X gg ga:Nat}{recs:LY}{draws:List Int}
theorem nw_start {tv dv:Value}{G A:Nat} (eG:E.mo.globs.toNat=G) (eA:E.mo.arrs.toNat=A) (F:Fr [] W0 w) (hG:G≤1000) (hA:A≤1000)
  (kX:w.heap[X]?=some (.cells (nwC ⟨tv,.slice none 0 0,.slice none 0 0,.slice none 0 0,dv,.slice (some (Ad gg 0)) G G,.slice (some (Ad ga 0)) A A⟩).toArray 135))
  (kg:w.heap[gg]?=some (.cells (madeCells #[.int .u8 0,iA 0,.string ⟨#[]⟩] (G*3)) 221)) (ka:w.heap[ga]?=some (.cells (madeCells #[.map none,.slice none 0 0] (A*2)) 146))
  (od:w.ownsRow W0.heap.size 3 1 dv draws.length (draws.map (.int .i64))) (bX:W0.heap.size≤X) (bg:W0.heap.size≤gg) (ba:W0.heap.size≤ga) (n1:X≠gg) (n2:X≠ga) (n3:gg≠ga) (nd:∀ g,dv.ownBlock=some g→g≠X∧g≠gg∧g≠ga) :
  Nw E W0 t0 X recs draws ⟨tv,.slice none 0 0,.slice none 0 0,.slice none 0 0,dv,.slice (some (Ad gg 0)) G G,.slice (some (Ad ga 0)) A A⟩ 0 0 0 0 (fun _=>0) (fun _=>0) (fun _=>(.slice none 0 0,[])) w (tagN t0 W0.heap.size X gg ga dv):=by
 subst eG eA
 exact {
 S:={
  rows:=fun i hi=>by
   have hi':i=10∨i=12∨i=13∨i=14∨i=15∨i=16∨i=17:=by
    have:i=10∨(12≤i∧i≤17):=by simpa [lvN] using hi
    omega
   have hnil:∀ (e:TypeId) (z:Nat),w.ownsRow 0 e z (.slice none 0 0) 0 []:=fun e z=>⟨by simp,.inl ⟨rfl,rfl⟩⟩
   rcases hi' with rfl | rfl | rfl | rfl | rfl | rfl | rfl
   ·exact⟨own_one kX rfl,fun q hq=>by
     have:X=q:=by simpa [RN,Value.ownBlock] using hq
     subst this
     unfold tagN
     rw[if_neg (by omega),if_pos rfl]⟩
   ·exact⟨own_madeZ (z:=#[.int .u8 0,iA 0,.string ⟨#[]⟩]) (by decide) (by omega) kg,fun q hq=>by
     have:gg=q:=by simpa [RN,Value.ownBlock] using hq
     subst this
     unfold tagN
     rw[if_neg (by omega),if_neg (by omega),if_pos rfl]⟩
   ·refine⟨?_,fun q hq=>by
     have:ga=q:=by simpa [RN,Value.ownBlock] using hq
     subst this
     unfold tagN
     rw[if_neg (by omega),if_neg (by omega),if_neg (by omega),if_pos rfl]⟩
    exact own_madeZ (z:=#[.map none,.slice none 0 0]) (by decide) (by omega) ka
   ·exact⟨hnil _ _,Tg.nil _ _⟩
   ·exact⟨hnil _ _,Tg.nil _ _⟩
   ·exact⟨hnil _ _,Tg.nil _ _⟩
   ·refine⟨⟨od.1,od.2.imp id ?_⟩,fun q hq=>?_⟩
    ·rintro ⟨g,cap,cur,e1,e2,e3⟩
     exact⟨g,cap,cur,e1,Nat.zero_le _,e3⟩
    ·have hq:dv.ownBlock=some q:=hq
     obtain⟨a1,a2,a3⟩:=nd q hq
     have:=(od.lt q hq).1
     unfold tagN
     rw[if_neg (by omega),if_neg a1,if_neg a2,if_neg a3,if_pos hq]
  maps:=fun i b l h=>by
   unfold mpN at h
   rw[if_neg (by omega)] at h
   cases h
  far:=fun i hi=>by
   unfold mpN
   rw[if_neg (by omega)]
  num:=fun i h=>by
   rcases h with h | h
   ·have:i=10∨(12≤i∧i≤17):=by simpa [lvN] using h
    omega
   ·unfold mpN at h
    rw[if_neg (by omega)] at h
    exact absurd rfl h }
 K:=Kp.of_fr F fun k hk=>by unfold tagN;rw[if_pos hk]
 pat:=fun i hi=>absurd hi (by omega)
 cod:=fun i hi=>absurd hi (by omega) }
end
def rt (tag:NN) (k:Nat):Nat:=if 14≤tag k∧tag k≤17 then 9 else tag k
theorem rt_nine {tag:NN}{k:Nat} (h:tag k=9):rt tag k=9:=by unfold rt;rw[if_neg (by omega)];exact h
theorem rt_mid {tag:NN}{k:Nat} (h:14≤tag k) (h2:tag k≤17):rt tag k=9:=by unfold rt;rw[if_pos ⟨h,h2⟩]
theorem rt_off {tag:NN}{k i:Nat} (h:tag k=i) (h2:i<14∨17<i):rt tag k=i:=by unfold rt;rw[if_neg (by omega)];exact h
section
variable {E:Mach.Env}{W W0 w:WL}{t0 tag:NN}{X:Nat}{recs:LY}{draws:List Int}{x:NwX}{pb A:NN}{code:Nat→Value × List Stp}
theorem rol_own {e:TypeId}{v:Value}{n i:Nat}{xs:LV} (h:W.ownsRow 0 e 1 v n xs) (t:Tg tag v i) (h1:14≤i) (h2:i≤17):RoL W (rt tag) v xs:=by
 have hl:=h.1;rw[Nat.mul_one] at hl;subst hl;have h':=h;rcases h.2 with ⟨rfl,h0⟩ | ⟨g,cap,cur,rfl,hb,hg,hnc,hcm,r⟩
 ·exact⟨none,0,by rw[h0],by omega,by omega,fun h=>absurd h (by omega)⟩
 refine⟨_,cap,rfl,hnc,by unfold maxLen at hcm;omega,fun h0=>⟨g,0,rfl,(Age.1 hg).1,?_,fun j u hu=>?_⟩⟩
 ·have:=t g rfl;exact rt_mid (by omega) (by omega)
 rw[Nat.zero_add];exact own_cell h' hu
theorem CodeM.rt {m:Mo}{f:Nat}{cv:Value}{L:List Stp} (h:CodeM m W tag f cv L):CodeM m W (rt tag) f cv L:=by
 obtain⟨g,cap,T,h1,h2,h3,h4,h5⟩:=h.at_;exact⟨⟨g,cap,T,h1,h2,h3,rt_nine h4,h5⟩,h.reads,h.jump,h.len⟩
theorem Tg.rt {v:Value}{i:Nat} (h:Tg tag v i) (h2:i<14∨17<i):Tg (rt tag) v i:=fun g hg=>rt_off (h g hg) h2
structure Base (W:WL):Prop where
 six:6≤W.heap.size
 pow:PowTab W
 mxl:∃ m:Int,W.cell? ⟨4,0,none⟩=some (.int .i64 m)
 tab:Tab W
theorem Base.fr {W W':WL}(h:Base W)(F:Fr [] W W'):Base W':=by
 obtain⟨m,hm⟩:=h.mxl;have:=h.six;exact⟨Nat.le_trans h.six F.size,h.pow.fr F,⟨m,(F.cell (p:=Ad 4 0) (by show 4<_;omega) (by simp)).trans hm⟩,h.tab.fr F (by simp)⟩
theorem Nw.begin_ (h:Nw E W0 t0 X recs draws x recs.length E.mo.pats.length E.mo.fns.length E.mo.arrs.toNat pb A code w tag)(hb:Base W0)(ht0:∀ k,k<W0.heap.size→t0 k<10)(htv:RoL W0 t0 x.tv (E.mo.texts.map .string))(h3:3≤E.mo.fns.length)(hf:E.mo.fns.length≤1000)(hp:E.mo.pats.length≤1000)(hA:E.mo.arrs.toNat≤1000) :
  Calls prog 62 #[ptr X,iA (0:Nat)] w fun e w'=>e=.returned unit∧∃ g tag',MM E X g (ms0 E.mo recs draws) w' tag'∧g.en=0∧Kp t0 tag' W0 w':=by
 have S:=h.S
 obtain⟨o16,t16⟩:=S.rows 16 rfl
 have o16:w.ownsRow 0 143 2 x.fv E.mo.fns.length (rng E.mo.fns.length (fvN E code)):=o16
 have t16:Tg tag x.fv 16:=t16
 obtain⟨gf,fc,hfv,hfc,hgf⟩:=own_some o16 (by omega)
 obtain⟨o10,t10⟩:=S.rows 10 rfl
 have o10:w.ownsRow 0 135 16 (.slice (some (Ad X 0)) 1 1) 1 (nwC x):=o10
 have t10:tag X=10:=t10 X rfl
 have hgft:tag gf=16:=t16 gf (by rw[hfv];rfl)
 have hXgf:X≠gf:=by rintro rfl;omega
 have C:=h.cod 0 (by omega)
 obtain⟨gc,cc,T,v1,v2,v3,v4,v5,v6⟩:=C.at_
 have hcell:∀ f,f<E.mo.fns.length→w.cell? (Ad gf (f*2))=some (iA (Mach.parOf E.mo f:Nat))∧w.cell? (Ad gf (f*2+1))=some (code f).1:=fun f hf=>by
  rw[hfv] at o16
  have g0:=rng_get (n:=E.mo.fns.length) (z:=2) (f:=fvN E code) (fun _ _=>rfl) hf (t:=0) (by decide)
  have g1:=rng_get (n:=E.mo.fns.length) (z:=2) (f:=fvN E code) (fun _ _=>rfl) hf (t:=1) (by decide)
  exact⟨own_cell o16 (g0.trans rfl),own_cell o16 (g1.trans rfl)⟩
 refine (begin_any X gf E.mo.fns.length fc 0 (code 0).2.length cc (some (Ad gc 0)) w hXgf (by rw[← hfv];exact own_cell o10 rfl) (by omega) hf (by rw[← v1];exact (hcell 0 (by omega)).2) (u10:=iA 0) (u11:=.slice none 0 0) (own_cell o10 rfl) (own_cell o10 rfl) (own_thaw o10 _) (own_thaw o10 _)).mono ?_
 rintro e w' ⟨he,hw'⟩
 refine⟨he,?_⟩
 rw[← v1] at hw'
 obtain⟨S1,K1⟩:=S.put (i:=10) rfl rfl (j:=10) (by omega) (iA ((0:Nat):Int))
 have hsz:(w.setCell ⟨X,10,none⟩ (.int .i64 ((0:Nat):Int))).heap.size=w.heap.size:=by simp[World.setCell]
 generalize w.setCell ⟨X,10,none⟩ (.int .i64 ((0:Nat):Int))=W1 at hw' S1 K1 hsz
 have hnew:=wan W1 (.cells (frZ (code 0).1).toArray 225)
 have F2:Fr [] W1 (W1.alloc (.cells (frZ (code 0).1).toArray 225)):=(Fr.refl [] W1).alloc _
 generalize W1.alloc (.cells (frZ (code 0).1).toArray 225)=W2 at hw' hnew F2
 rw[hsz] at hnew
 obtain⟨S2,K2⟩:=S1.new (i:=11) (r:=⟨.slice (some (Ad w.heap.size 0)) 1 1,225,51,1,frZ (code 0).1⟩) (by unfold mpN;rw[if_neg (by omega)]) (by omega) F2 (own_one hnew (frZ_len _)) (fun q hq=>by
  have:w.heap.size=q:=by simpa [Value.ownBlock] using hq
  omega)
 obtain⟨S4,K4⟩:=S2.put (i:=10) (by rw[up_off _ _ (by decide)];rfl) (by rw[up_off _ _ (by decide),up_same]) (j:=11) (by omega) (.slice (some (Ad w.heap.size 0)) 1 1)
 rw[← hw'] at S4 K4
 have K:=(K1.trans K2).trans K4
 generalize newTag tag W1.heap.size 11=tg at S4 K K4
 have K0:=h.K.trans K
 have KR:Kp t0 (rt tg) W0 w':=⟨K0.os,K0.tape,K0.output,K0.size,fun k hk=>by
  have e:=K0.ret k hk
  have:=ht0 k hk
  unfold rt
  rw[if_neg (by omega)]
  exact e,K0.blk⟩
 have F0:Fr [] W0 w':=⟨K0.os,K0.tape,K0.output,K0.size,fun k hk _=>K0.blk k hk (ht0 k hk)⟩
 have B:=hb.fr F0
 obtain⟨q10,r10⟩:=S4.rows 10 (by rw[up_off _ _ (by decide)];rfl)
 obtain⟨q11,r11⟩:=S4.rows 11 (by rw[up_same])
 obtain⟨q12,r12⟩:=S4.rows 12 (by rw[up_off _ _ (by decide)];rfl)
 obtain⟨q13,r13⟩:=S4.rows 13 (by rw[up_off _ _ (by decide)];rfl)
 obtain⟨q14,r14⟩:=S4.rows 14 (by rw[up_off _ _ (by decide)];rfl)
 obtain⟨q15,r15⟩:=S4.rows 15 (by rw[up_off _ _ (by decide)];rfl)
 obtain⟨q16,r16⟩:=S4.rows 16 (by rw[up_off _ _ (by decide)];rfl)
 obtain⟨q17,r17⟩:=S4.rows 17 (by rw[up_off _ _ (by decide)];rfl)
 rw[up_same] at q10 r10
 rw[up_off _ _ (by decide),up_same] at q11 r11
 rw[up_off _ _ (by decide),up_off _ _ (by decide),up_off _ _ (by decide)] at q12 r12 q13 r13 q14 r14 q15 r15 q16 r16 q17 r17
 have q16:w'.ownsRow 0 143 2 x.fv E.mo.fns.length (rng E.mo.fns.length (fvN E code)):=q16
 have r16:Tg tg x.fv 16:=r16
 have q15:w'.ownsRow 0 136 1 x.pv E.mo.pats.length (rng E.mo.pats.length fun i=>[ptr (pb i)]):=q15
 have r15:Tg tg x.pv 15:=r15
 have hmaps:∀ i,i<E.mo.arrs.toNat→MapAt w' (A i) []∧rt tg (A i)=20+2*i:=fun i hi=>by
  obtain⟨m1,m2⟩:=S4.maps (20+2*i) (A i) [] (by unfold mpN;rw[if_pos (by omega),show (20+2*i-20) / 2=i by omega])
  exact⟨m1,rt_off m2 (by omega)⟩
 have hgf':gf<w'.heap.size:=Nll hgf K.size
 have htgf:tg gf=16:=r16 gf (by rw[hfv];rfl)
 let mx:Mx:={ tv:=x.tv,pv:=x.pv,fv:=x.fv,rv:=x.rv,dv:=x.dv,flv:=.slice none 0 0,gv:=x.gv,av:=x.av,frv:=.slice (some (Ad w.heap.size 0)) 1 1,entry:=0,F:=fun _=>⟨(code 0).1,0,.slice none 0 0,fun _=>0⟩,A:=fun i=>(A i,.slice none 0 0),code:=code }
 have sta:Sta E w' (rt tg) x.tv x.pv x.fv code:={
  pow:=B.pow
  low:=fun k hk=>by
   have h6:=hb.six
   have hk':k<W0.heap.size:=by omega
   rw[KR.ret k hk']
   exact ht0 k hk'
  mxl:=B.mxl
  tab:=B.tab
  txt:=htv.kp KR
  fns:=⟨gf,fc,hfv,hgf',rt_mid (by omega) (by omega),hf,fun f hf=>by
   rw[hfv] at q16
   have g0:=rng_get (n:=E.mo.fns.length) (z:=2) (f:=fvN E code) (fun _ _=>rfl) hf (t:=0) (by decide)
   have g1:=rng_get (n:=E.mo.fns.length) (z:=2) (f:=fvN E code) (fun _ _=>rfl) hf (t:=1) (by decide)
   exact⟨own_cell q16 (g0.trans rfl),own_cell q16 (g1.trans rfl)⟩⟩
  code:=fun f hf=>((h.cod f hf).kp K).rt
  pat:=by
   obtain⟨o,c,hpv⟩:=own_form q15
   refine⟨o,c,hpv,hp,fun i t hi=>?_⟩
   have hin:=(Lgs.1 hi).1
   obtain⟨t',p1,p2,p3,p4⟩:=h.pat i hin
   rw[hi] at p1
   cases p1
   obtain⟨gp,cap,e1,-,e3⟩:=own_some q15 (by omega)
   rw[e1] at hpv q15
   cases hpv
   have g0:=rng_get (n:=E.mo.pats.length) (z:=1) (f:=fun i=>[ptr (pb i)]) (fun _ _=>rfl) hin (t:=0) (by decide)
   rw[Nat.mul_one,Nat.add_zero] at g0
   have:=r15 gp (by rw[e1];rfl)
   exact⟨gp,pb i,rfl,e3,rt_mid (by omega) (by omega),own_cell q15 (g0.trans rfl),Nll p2 K.size,rt_nine ((K.ret _ p2).trans p3),p4.of_block (K.blk _ p2 (by omega))⟩ }
 refine⟨⟨w.heap.size,x.gv,x.av,0,x.pv,code⟩,rt tg,?_,rfl,KR⟩
 refine mm_begin (x:=mx) (gF:=w.heap.size) B.six h3 hA (plc_zero C.reads) sta rfl q10 rfl ?_ ⟨rfl,rfl,rfl⟩ q12 ?_ (fun _ _=>rfl) (rt_off (r10 X rfl) (by omega)) (r11.rt (by omega)) (r12.rt (by omega)) (r13.rt (by omega)) hmaps ?_ (rol_own q17 r17 (by omega) (by omega)) rfl
 ·have e:frC (mx.F 0) (Mach.enter E.mo 0 [])=frZ (code 0).1:=by
   unfold frZ frC Mach.enter
   simp only[List.nil_append,List.length_nil,Nat.sub_zero,locC_nothing]
   rfl
  rw[e]
  exact q11
 ·refine Eq.mp (congrArg _ (rng_congr fun j hj=>?_)) q13
  show avN _ A j=_
  unfold avN
  rw[if_pos hj]
 ·have:RoL w' (rt tg) x.rv ((recs.take recs.length).map .string):=rol_own q14 r14 (by omega) (by omega)
  rw[List.take_length] at this
  exact this
end
def NwP (E:Mach.Env) (W0:WL) (t0:NN) (X:Nat) (recs:LY) (draws:List Int) (tv av:Value) (kr kp kf ka:Nat) (w:WL):Prop:=
 ∃ x pb A code tag,x.tv=tv∧x.av=av∧Nw E W0 t0 X recs draws x kr kp kf ka pb A code w tag
def AppQ (X j T e n:Nat) (news:LV) (so:OA) (sc:Nat) (W2:WL) (N:WL→Prop):Prop:=
 ∃ vo vc W4,(Builtin.append_ #[T,T] T #[.slice so n sc,.slice (some ⟨W2.heap.size,0,none⟩) 1 1]).run prog (W2.alloc (.cells news.toArray e))=.ok (.slice vo (n+1:Nat) vc) W4∧W4.cell? ⟨X,j,none⟩=some (.slice so n sc)∧W4.frozen? ⟨X,j,none⟩=false∧N (W4.setCell ⟨X,j,none⟩ (.slice vo (n+1:Nat) vc))
section
variable {E:Mach.Env}{W0 w w' W2:WL}{t0 tag tag':NN}{X:Nat}{recs:LY}{draws:List Int}{x:NwX}{tv av:Value}{kr kp kf ka:Nat}{pb A:NN}{code:Nat→Value × List Stp}
theorem AppP.q {j T e n:Nat}{news:LV}{so:OA}{sc:Nat}{N:Value→WL→Prop}{M:WL→Prop} (h:AppP X j T e n news (.slice so n sc) W2 N) (hN:∀ v W5,N v W5→M W5):AppQ X j T e n news so sc W2 M:=by
 obtain⟨so',sc',vo,vc,W4,h1,h2,h3,h4,h5,h6⟩:=h;cases h1;exact⟨vo,vc,W4,h2,h4,h5,hN _ _ h6⟩
theorem Nw.row (h:Nw E W0 t0 X recs draws x kr kp kf ka pb A code w tag):w.ownsRow 0 135 16 (.slice (some (Ad X 0)) 1 1) 1 (nwC x):=(h.S.rows 10 rfl).1
theorem NwP.old (h:NwP E W0 t0 X recs draws tv av kr kp kf ka w)(ht:∀ k,k<W0.heap.size→t0 k<10):Fr [] W0 w:=by
 obtain⟨x,pb,A,code,tag,-,-,h⟩:=h;exact⟨h.K.os,h.K.tape,h.K.output,h.K.size,fun k hk _=>h.K.blk k hk (ht k hk)⟩
theorem NwP.rec_ (h:NwP E W0 t0 X recs draws tv av kr kp kf ka w){s:BA}(hs:recs[kr]?=some s)(hk:kr≤1000) :
  ∃ so sc,w.cell? (Ad X 3)=some (.slice so kr sc)∧X<w.heap.size∧∀ W2,Fr [] w W2→AppQ X 3 22 9 kr [.string s] so sc W2 (NwP E W0 t0 X recs draws tv av (kr+1) kp kf ka):=by
 obtain⟨x,pb,A,code,tag,e1,e2,h⟩:=h;have o:=h.row;obtain⟨so,sc,hv⟩:=own_form (show w.ownsRow 0 9 1 x.rv kr _ from (h.S.rows 14 rfl).1);refine⟨so,sc,by rw[← hv];exact own_cell o rfl,(o.lt X rfl).2,fun W2 F=>?_⟩;have:=h.rec_ F hs hk;rw[hv] at this;exact this.q fun v W5 ⟨t5,h5⟩=>⟨{ x with rv:=v },_,_,_,t5,e1,e2,h5⟩
theorem NwP.cod_ (h:NwP E W0 t0 X recs draws tv av kr kp kf ka w)(hk:kf≤1000) :
  ∃ so sc,w.cell? (Ad X 2)=some (.slice so kf sc)∧X<w.heap.size∧∀ W2 (l:List Stp) (g cap:Nat),Fr [] w W2→w.heap.size≤g→(∀ tag:NN,tag g=9→CodeM E.mo W2 tag kf (.slice (some (Ad g 0)) l.length cap) l)→AppQ X 2 130 143 kf [iA (Mach.parOf E.mo kf:Nat),.slice (some (Ad g 0)) l.length cap] so sc W2 (NwP E W0 t0 X recs draws tv av kr kp (kf+1) ka):=by
 obtain⟨x,pb,A,code,tag,e1,e2,h⟩:=h;have o:=h.row;obtain⟨so,sc,hv⟩:=own_form (show w.ownsRow 0 143 2 x.fv kf _ from (h.S.rows 16 rfl).1);refine⟨so,sc,by rw[← hv];exact own_cell o rfl,(o.lt X rfl).2,fun W2 l g cap F h1 h2=>?_⟩;have:=h.cod_ F (c:=(.slice (some (Ad g 0)) l.length cap,l)) rfl (h2 _ (newTag_new h1)) hk;rw[hv] at this;exact this.q fun v W5 ⟨t5,c',h5⟩=>⟨{ x with fv:=v },_,_,_,t5,e1,e2,h5⟩
theorem NwP.av9 (h:NwP E W0 t0 X recs draws tv av kr kp kf ka w):∃ o cap,av=.slice o E.mo.arrs.toNat cap∧w.cell? (Ad X 9)=some av∧X<w.heap.size∧(0<E.mo.arrs.toNat→∃ ga,o=some (Ad ga 0)∧X≠ga∧ga<w.heap.size∧∀ i,i<E.mo.arrs.toNat*2→(∃ u,w.cell? (Ad ga i)=some u)∧w.frozen? (Ad ga i)=false):=by
 obtain⟨x,pb,A,code,tag,e1,rfl,h⟩:=h;have o:=h.row;obtain⟨o13,t13⟩:=h.S.rows 13 rfl;have o13:w.ownsRow 0 146 2 x.av E.mo.arrs.toNat (rng E.mo.arrs.toNat (avN ka A)):=o13;have t13:Tg tag x.av 13:=t13;obtain⟨so,sc,hv⟩:=own_form o13;refine⟨so,sc,hv,own_cell o rfl,(o.lt X rfl).2,fun h0=>?_⟩;obtain⟨ga,cap,e,-,hg⟩:=own_some o13 h0;rw[e] at hv o13;cases hv;refine⟨ga,rfl,?_,hg,fun i hi=>⟨?_,own_thaw o13 i⟩⟩
 ·rintro rfl;have h1:=t13 X (by rw[e];rfl);have h2:tag X=10:=(h.S.rows 10 rfl).2 X rfl;omega
 have hl:=o13.1;exact⟨_,own_cell o13 (Lge (show i<_ by rw[hl];exact hi))⟩
theorem NwP.arr_ (h:NwP E W0 t0 X recs draws tv av kr kp kf ka w){ga cap b:Nat}(F:Fr [] w W2)(hb:w.heap.size≤b)(hM:MapAt W2 b [])(hav:av=.slice (some (Ad ga 0)) E.mo.arrs.toNat cap)(hk:ka<E.mo.arrs.toNat) :
  NwP E W0 t0 X recs draws tv av kr kp kf (ka+1) ((W2.setCell ⟨ga,ka*2,none⟩ (.map (some b))).setCell ⟨ga,ka*2+1,none⟩ (.slice none 0 0)):=by
 obtain⟨x,pb,A,code,tag,e1,rfl,h⟩:=h;obtain⟨t5,A',h5⟩:=h.arr_ F hb hM hav hk;exact⟨_,_,_,_,t5,e1,rfl,h5⟩
end
end Go.Proofs.YtmolfmgchbjnbaaGreatDoor
