import Derived.Test.YtmolfmgchbjnbaaGreatDoorM23
import Derived.Test.YtmolfmgchbjnbaaGreatDoorM18
import Derived.Test.YtmolfmgchbjnbaaGreatDoorM12
set_option linter.unusedSimpArgs false
set_option linter.unusedVariables false
set_option maxRecDepth 100000
set_option maxHeartbeats 40000000
open _root_.Go.Proofs.Tryz
namespace Go.Proofs.YtmolfmgchbjnbaaGreatDoor.Ev
open Go
section
variable {P:Program}{G:Nat}{E:EE}
def resS (t:Array Value):ResultVar→Sem Value
 | .tmp k=>pure (t.getD k undef)
 | .cell k ty=>do loadVar ty (← asAddr (t.getD k undef))
theorem results_eq (fn:Func)(t:Array Value):results fn t=(do
  let vs ← fn.results.mapM (resS t)
  pure (if h:vs.size=1 then vs[0] else .tuple vs)):=by
 unfold results;congr
theorem res_ok {m:Mp}{h:AH}{w:WL} (R:Rel P G m h w) {a:AA}{t:Array Value} (hs:SlO m a t):∀ (l:List ResultVar) (fs:List Rd) (vs:LV),allSome (resF P) l=some fs→allSome (resV a h) fs=some vs→∃ vs',(l.mapM (resS t)).run P w=.ok vs' w∧L2 (S3 m) vs vs'
 | [],fs,vs,h1,h2=>by
  simp only[allSome,Option.some.injEq] at h1
  subst h1
  simp only[allSome,Option.some.injEq] at h2
  subst h2
  exact⟨[],by simp,.nil⟩
 | x :: l,fs,vs,h1,h2=>by
  simp only[allSome] at h1
  obtain⟨f,k1,h3⟩:=bind_some h1
  obtain⟨fr,k2,h4⟩:=bind_some h3
  simp only[Option.some.injEq] at h4
  subst h4
  simp only[allSome] at h2
  obtain⟨v,k3,h5⟩:=bind_some h2
  obtain⟨vr,k4,h6⟩:=bind_some h5
  simp only[Option.some.injEq] at h6
  subst h6
  obtain⟨vs',r1,r2⟩:=res_ok R hs l fr vr k2 k4
  have hx:∃ v',(resS t x).run P w=.ok v' w∧S3 m v v':=by
   cases x with
   | tmp k=>
    simp only[resF] at k1
    obtain⟨g,hg,rfl⟩:=map_some k1
    have k3':g a=some v:=k3
    rw[AA.get_form hg] at k3'
    exact⟨_,rfl,hs.val k v k3'⟩
   | cell k ty=>
    simp only[resF] at k1
    obtain⟨g,hg,rfl⟩:=map_some k1
    have k3':(g a).bind (rLoad P h ty)=some v:=k3
    obtain⟨p,hp,hl⟩:=bind_some k3'
    rw[AA.get_form hg] at hp
    have hpp:=hs.val k p hp
    obtain⟨v',z1,z2⟩:=load_ok R hpp hl
    have hptr:∃ q,p=.pointer (some q):=by
     unfold rLoad at hl
     split at hl
     ·exact⟨_,rfl⟩
     ·cases hl
    obtain⟨q,rfl⟩:=hptr
    obtain⟨q',e,-⟩:=hpp.ptr
    refine⟨v',?_,z2⟩
    rw[e] at z1
    simp only[resS,e]
    simpa [asAddr,Instr.loadAt,Instr.sureAddr] using z1
  obtain⟨v',z1,z2⟩:=hx
  exact⟨v' :: vs',by simp[List.mapM_cons,z1,r1],.cons z2 r2⟩
theorem results_ok {m:Mp}{h:AH}{w:WL} (R:Rel P G m h w) {a:AA}{t:Array Value} (hs:SlO m a t) {fn:Func}{r:Value × AH} (hr:resultsA P fn a h=some r):r.2=h∧∃ v',(results fn t).run P w=.ok v' w∧S3 m r.1 v':=by
 unfold resultsA at hr
 obtain⟨fs,h1,h2⟩:=bind_some hr
 obtain⟨v,h3,h4⟩:=bind_some h2
 obtain⟨vs,h5,h6⟩:=bind_some h3
 simp only[same,Option.some.injEq] at h4
 subst h4
 obtain⟨vs',r1,r2⟩:=res_ok R hs fn.results.toList fs vs h1 h5
 have hrun:(fn.results.mapM (resS t)).run P w=.ok vs'.toArray w:=by
  rw[Array.mapM_eq_mapM_toList]
  simp[r1]
 refine⟨rfl,if hh:vs'.toArray.size=1 then vs'.toArray[0] else .tuple vs'.toArray,?_,?_⟩
 ·rw[results_eq]
  simp only[Sem.run_bind,hrun,Result.andThen]
  rfl
 ·unfold tup at h6
  split at h6
  ·rename_i v0
   cases h6
   obtain⟨y,q,e,hy,hq⟩:=r2.cons_left
   rw[hq.nil_left] at e
   subst e
   simpa using hy
  ·rename_i l0 hne
   cases hb:vs.all one2 with
   | false=>rw[hb] at h6;cases h6
   | true=>
    rw[hb] at h6
    simp only[cond_true,Option.some.injEq] at h6
    subst h6
    have hn:¬ (vs'.toArray.size=1):=by
     intro q
     have hl:vs.length=1:=by rw[r2.1];simpa using q
     match vs,hl with
     | [v0],_=>exact hne v0 rfl
    rw[dif_neg hn]
    refine .inr ⟨_,_,rfl,rfl,?_⟩
    simp only[List.toList_toArray]
    exact⟨r2.1,fun i x y hx hy=>(r2.2 i x y hx hy).s2 (List.all_eq_true.1 hb x (List.mem_of_getElem? hx))⟩
theorem evF_ok (hmix:P.follows .mixedOrders=true)(M:Nat){X:FuncId→LV→AH→Option (Option (Value × AH))}(HX:∀ f args h r,X f args h=some (some r)→(∃ fn,entered P f=some fn)∧∀ m w args',Rel P G m h w→L2 (S3 m) args args'.toList→Calls P f args' w fun
  | .returned v',w'=>Wrote P G m h w r v' w'
  | _,_=>False):∀ n,EOk P G (evF P G M X n):=by
 intro n;induction n with
 | zero=>intro f args h r hr;cases hr
 | succ n ih=>
  intro f args h r hr;change stepF P G M X (evF P G M X n) f args h=some r at hr;unfold stepF at hr;cases hx:X f args h with
  | some q=>
   rw[hx] at hr;simp only[stepX] at hr;subst hr;exact HX f args h r hx
  | none=>
   rw[hx] at hr;simp only[stepX] at hr;obtain⟨fn,hen,hr1⟩:=bind_some hr;refine⟨⟨fn,hen⟩,fun m w args' R ha=>?_⟩;obtain⟨hf,-,c,hb⟩:=entered_ok hen;unfold runF at hr1;rw[hb] at hr1;simp only[Option.bind_some] at hr1;unfold runC at hr1;obtain⟨a,hpa,hr2⟩:=bind_some hr1;obtain⟨⟨e,a',h'⟩,hc,hr3⟩:=bind_some hr2;obtain⟨p1,p2,p3⟩:=putAll_ok _ _ _ _ hpa;have hla:args.length=args'.size:=by rw[ha.1];simp
   have hs:SlO m a (args'++Array.replicate (fn.ntmps-args'.size) undef):=by
    refine⟨?_,fun i v hv=>?_⟩
    ·rw[p1];show max args.length fn.ntmps=_;simp;omega
    rw[p3 i,AA.nil_get] at hv;split at hv
    ·rename_i hi
     simp only[Nat.sub_zero] at hv;obtain⟨y,hy,s⟩:=ha.at hv;have hlt:i<args'.size:=by rw[← hla];omega
     have hy':args'[i]?=some y:=by simpa using hy
     have:(args'++Array.replicate (fn.ntmps-args'.size) undef).getD i undef=y:=by
      rw[Array.getD_eq_getD_getElem?,Array.getElem?_append_left hlt,hy'];rfl
     rw[this];exact s
    cases hv
   refine calls_of_wp hf hb ?_;refine (evC_ok ih hmix [] M none c a a' h h' e hc m w _ _ R hs ?_).1;intro m' w' t' R' E' S';have fin:resultsA P fn a' h'=some r→∃ v,(results fn t').run P w'=.ok v w'∧Wrote P G m h w r v w':=by
    intro hres;obtain⟨e1,v',z1,z2⟩:=results_ok R' S' hres;exact⟨v',z1,m',by rw[e1];exact R',by rw[e1];exact E',z2⟩
   unfold aftBody at hr3;split at hr3
   ·rename_i heq
    cases heq;obtain⟨v,q1,q2⟩:=fin hr3;exact⟨rfl,v,q1,q2⟩
   ·rename_i heq
    cases heq;obtain⟨v,q1,q2⟩:=fin hr3;exact⟨rfl,v,q1,q2⟩
   cases hr3
end
end Go.Proofs.YtmolfmgchbjnbaaGreatDoor.Ev
namespace Go.Proofs.YtmolfmgchbjnbaaGreatDoor.Ev
open Go
def plainV:Value→Bool
 | .bool _=>true
 | .int .i64 n=>ilt n 9223372036854775808
 | .int _ _=>true
 | .string _=>true
 | _=>false
theorem plain_s0 {m:Mp}{v:Value} (hv:plainV v=true):S0 m v v:=by
 unfold plainV at hv;split at hv
 ·rfl
 ·exact⟨rfl,rfl,fun _=>ilt_lt hv⟩
 ·rename_i k n hk;exact⟨rfl,rfl,fun e=>absurd e hk⟩
 ·rfl
 cases hv
def TabS (ss:LY) (w:WL):Prop:=∃ B o c,w.cell? ⟨1,0,none⟩=some (.slice (some ⟨B,o,none⟩) ss.length c)∧ss.length≤c∧0<ss.length∧2≤B∧B<w.heap.size∧∀ i s,ss[i]?=some s→w.cell? ⟨B,i+o,none⟩=some (.string s)
def tb (l:LV):AO:=⟨3,l,0,[]⟩
def hs0 (ss:LY):AH:=AH.set 0 (tb []) (AH.set 1 (tb [.slice (some ⟨2,0,none⟩) ss.length ss.length]) (AH.set 2 (tb (ss.map .string)) (AH.nil 3)))
def ms0 (B o N:Nat):Mp:=fun r=>if r=0 then some (some ⟨0,0,0,0⟩) else if r=1 then some (some ⟨1,0,0,0⟩) else if r=2 then some (some ⟨B,o,N,1⟩) else none
theorem nil_get (n q:Nat):(AH.nil n).get q=none:=by
 simp only[AH.nil,AH.get];unfold AH.got;split
 ·rename_i f hf
  obtain⟨f1,k1,h1,h2,rfl⟩:=sel3_form hf;show k1 (f1 _)=none;rw[sel_all h1,sel2_all h2]
 rfl
theorem hs0_get (ss:LY)(q:Nat):(hs0 ss).get q=if q=0 then some (tb []) else if q=1 then some (tb [.slice (some (Ad 2 0)) ss.length ss.length]) else if q=2 then some (tb (ss.map .string)) else none:=by
 unfold hs0;rw[AH.get_set (by decide),AH.get_set (by decide),AH.get_set (by decide),nil_get]
theorem rel0 {P:Program}{ss:LY}{w:WL}{B o c:Nat} (h1:w.cell? (Ad 1 0)=some (.slice (some (Ad B o)) ss.length c)) (h2:ss.length≤c) (h3:0<ss.length) (h4:2≤B) (h5:B<w.heap.size) (h6:∀ i s,ss[i]?=some s→w.cell? (Ad B (i+o))=some (.string s)):Rel P 2 (ms0 B o (o+c)) (hs0 ss) w:=by
 have hn:(hs0 ss).n=3:=by simp only[hs0,AH.set_n];rfl
 refine⟨by rw[hn];omega,fun r x e=>?_,fun r e=>?_,fun r r' x x' e e' eb=>?_,fun g hg=>?_,fun r hr=>?_⟩
 ·rw[hn,hs0_get];simp only[ms0] at e;split at e
  ·rename_i q
   subst q;cases e;exact⟨by omega,by show 0<_;omega,tb [],rfl,.inr (.inr ⟨rfl,fun i v hv=>by simp[tb] at hv⟩)⟩
  split at e
  ·rename_i q
   subst q;cases e;refine⟨by omega,by show 1<_;omega,_,rfl,.inr (.inr ⟨rfl,fun i v hv=>?_⟩)⟩;cases i with
   | succ i=>simp[tb] at hv
   | zero=>
    simp only[tb,List.getElem?_cons_zero,Option.some.injEq] at hv;subst hv;exact⟨_,h1,.inl ⟨rfl,h2,fun q=>by omega,rfl,rfl,.inr ⟨⟨B,o,o+c,1⟩,rfl,rfl,by simp,by simp⟩⟩⟩
  split at e
  ·rename_i q
   subst q;cases e;refine⟨by omega,h5,_,rfl,.inr (.inr ⟨rfl,fun i v hv=>?_⟩)⟩;simp only[tb,List.getElem?_map] at hv;cases hx:ss[i]? with
   | none=>rw[hx] at hv;cases hv
   | some s=>
    rw[hx] at hv;cases hv;exact⟨_,h6 i s hx,.inl rfl⟩
  cases e
 ·simp only[ms0] at e;split at e
  ·cases e
  split at e
  ·cases e
  split at e
  ·cases e
  cases e
 ·simp only[ms0] at e e';split at e
  ·cases e;split at e'
   ·omega
   split at e'
   ·cases e';cases eb
   split at e'
   ·cases e';simp at eb;omega
   cases e'
  split at e
  ·cases e;split at e'
   ·cases e';cases eb
   split at e'
   ·omega
   split at e'
   ·cases e';simp at eb;omega
   cases e'
  split at e
  ·cases e;split at e'
   ·cases e';simp at eb;omega
   split at e'
   ·cases e';simp at eb;omega
   split at e'
   ·omega
   cases e'
  cases e
 ·rcases (show g=0∨g=1 by omega) with rfl | rfl
  ·exact⟨⟨0,0,0,0⟩,rfl,rfl,rfl⟩
  exact⟨⟨1,0,0,0⟩,rfl,rfl,rfl⟩
 rw[hn] at hr;rw[hs0_get,if_neg (by omega),if_neg (by omega),if_neg (by omega)]
structure Kept (w w':WL):Prop where
 os:w'.os=w.os
 tape:w'.tape=w.tape
 output:w'.output=w.output
 size:w.heap.size≤w'.heap.size
 blk:∀ b,b<w.heap.size→w'.heap[b]?=w.heap[b]?
theorem kept0 {ss:LY}{w w':WL}{B o N:Nat}{m':Mp}{h':AH} (E:Ext (ms0 B o N) m' (hs0 ss) h' w w'):Kept w w':=by
 refine⟨E.os,E.tape,E.output,E.size,fun b hb=>E.blk b hb fun r x e _=>?_⟩;rw[hs0_get];simp only[ms0] at e;split at e
 ·rename_i q;rw[if_pos q];exact⟨_,rfl,rfl⟩
 split at e
 ·rename_i q' q;rw[if_neg q',if_pos q];exact⟨_,rfl,rfl⟩
 split at e
 ·rename_i q1 q2 q;rw[if_neg q1,if_neg q2,if_pos q];exact⟨_,rfl,rfl⟩
 cases e
theorem noX_ok {P:Program}:∀ f args h r,noX f args h=some (some r)→(∃ fn,entered P f=some fn)∧∀ m w args',Rel P 2 m h w→L2 (S3 m) args args'.toList→Calls P f args' w fun
  | .returned v',w'=>Wrote P 2 m h w r v' w'
  | _,_=>False:=fun f args h r e=>by cases e
end Go.Proofs.YtmolfmgchbjnbaaGreatDoor.Ev
namespace Go.Proofs.YtmolfmgchbjnbaaGreatDoor
open Go.RowKit
open Wire
namespace Tok
open Ev (TabS)
theorem tabS_fr {ss:LY}{w w':WL} (h:TabS ss w) (hf:Fr [] w w'):TabS ss w':=by
 obtain⟨B,o,c,h1,h2,h3,h4,h5,h6⟩:=h;refine⟨B,o,c,(hf.cell (p:=Ad 1 0) (lt_of_cell h1) (by simp)).trans h1,h2,h3,h4,by have:=hf.size;omega,fun i s hs=>(hf.cell (p:=Ad B (i+o)) h5 (by simp)).trans (h6 i s hs)⟩
structure SignAt (ss:LY) (x:LB) (g:BA):Prop where
 at_:∃ k,ss[k]?=some g∧Lib.hasPrefix x g.data.toList=true∧∀ (j:Nat) (t:BA),j<k→ss[j]?=some t→Lib.hasPrefix x t.data.toList=false
 len:g.size≤x.length
section
variable {w0 w:WL}{r:Nat}{s:BA}{a f:Nat}{L:List Tk}{ss:LY}
theorem addSign_any (ht:TabS ss w0)(hss:ss.length≤100)(h:Rdr w0 r s a f L w)(hL:L.length<100000){g:BA}(hg:SignAt ss (s.extract a s.size).data.toList g) :
  Calls prog 87 #[.pointer (some (Ad r 0))] w fun e w'=>e=.returned (.bool true)∧Rdr w0 r s (a+g.size) f (L++[⟨g,f,0,⟨#[]⟩⟩]) w':=by
 have hle:=h.le;obtain⟨k,hk,hpk,hpj⟩:=hg.at_;have hgl:a+g.size≤s.size:=by
  have:=hg.len;rw[Array.length_toList,show (s.extract a s.size).data.size=(s.extract a s.size).size from rfl,ByteArray.size_extract] at this;omega
 obtain⟨B,o,c,t1,t2,t3,t4,t5,t6⟩:=ht;have hkl:k<ss.length:=(Lgs.1 hk).1;have t1':w.cell? (Ad 1 0)=some (.slice (some (Ad B o)) ss.length c):=(h.fr.cell (p:=Ad 1 0) (lt_of_cell t1) (by simp)).trans t1;have HT:Hid (∀ (W:WL),Fr [] w0 W→∀ (i:Nat) (t:BA),ss[i]?=some t→W.cell? (Ad B (o+i))=some (.string t)):=fun W hf i t hi=>by
  rw[Nat.add_comm o i];exact (hf.cell (p:=Ad B (i+o)) t5 (by simp)).trans (t6 i t hi)
 obtain⟨X,hX⟩:=eXi (s.extract a s.size);rw[hX] at hpk hpj;have hsl:s.extract (a:Int).toNat s.size=X:=hX;have g2:(a:Int)≤s.size:=by omega
 have HR:Hid _:=h;have HJ:Hid _:=hpj;have HP:Hid (∀ (x p:BA) (W:WL),_):=fun (x p:BA) (W:WL)=>strings_HasPrefix x p W;clear h hpj t6 t1 hg;go_enter func87,ntmps87;go_wp2
 go_loopw [7] (fun i wr=>∃ j,j≤k∧i=iA (j:Nat)∧Rdr w0 r s a f L wr) (fun i _=>k-(intOf i).toNat)
 case atStart=>exact⟨0,by omega,rfl,HR.out⟩
 case round=>
  clear HR t1';obtain⟨j,hj,rfl,K⟩:=hrel;obtain⟨xv,tv,⟨c0,c1,c2,c3,c4,f1,f2,f3,f4⟩,hown⟩:=id K.c;have g3:(j:Int)<ss.length:=by omega
  have HK:Hid _:=K;by_cases hlt:j<k
  ·obtain⟨t,htj⟩:∃ t,ss[j]?=some t:=⟨_,Lge (by omega)⟩;have ct:=HT.out wr K.fr j t htj;have hf:=HJ.out j t hlt htj;have hq:=fun (W:WL)=>HP.out X t W;simp only[hf] at hq;have HQ:Hid _:=hq;clear K hown hq;go_wp2;go_quiet (first | (go_at_call 138;refine Calls.quiet_of_same (HQ.out _)))
   go_wp2;exact⟨⟨j+1,by omega,by go_num,HK.out.heap rfl rfl rfl rfl⟩,by simp[intOf];omega⟩
  obtain rfl:j=k:=by omega
  have ct:=HT.out wr K.fr j g hk;have hq:=fun (W:WL)=>HP.out X g W;simp only[hpk] at hq;have HQ:Hid _:=hq;have ha:=fun (W:WL) (K:Rdr w0 r s (a+g.size) f L W)=>add_any K hL g ⟨#[]⟩ 0 0;have HA:Hid _:=ha;clear K hown hq ha;go_wp2;go_quiet (first | (go_at_call 138;refine Calls.quiet_of_same (HQ.out _)))
  go_wp2_with fail;have K5:Rdr w0 r s (a+g.size) f L ((wr.drewN nq).setCell ⟨r,1,none⟩ (.int .i64 ((a:Int)+(g.size:Int)))):=(HK.out.heap (w':=wr.drewN nq) rfl rfl rfl rfl).at (x:=a+g.size) hgl (by omega);refine (HA.out _ K5).mono ?_;rintro e w1 ⟨rfl,K1⟩;have HK1:Hid _:=K1;clear K1 K5;go_wp2;go_ret;exact⟨rfl,HK1.out⟩
theorem mayDivide_any {p n:Nat}{t:BA} (h:Rdr w0 r s a f (L++[⟨⟨#[41]⟩,p,n,t⟩]) w) :
  Calls prog 78 #[.pointer (some (Ad r 0))] w fun e w'=>e=.returned (.bool true)∧Rdr w0 r s a f (L++[⟨⟨#[41]⟩,p,n,t⟩]) w':=by
 obtain⟨xv,tv,⟨c0,c1,c2,c3,c4,f1,f2,f3,f4⟩,hown⟩:=id h.c;have hl:=h.le.2.2.2;have HR:Hid _:=h;rw[Lla,show ([⟨⟨#[41]⟩,p,n,t⟩]:List Tk).length=1 from rfl] at hown hl;have hx:((L++[(⟨⟨#[41]⟩,p,n,t⟩:Tk)]).flatMap tkC)[L.length*4]?=some (.string ⟨#[41]⟩):=by
  rw[List.flatMap_append];have e:(L.flatMap tkC).length=L.length*4:=by
   clear hown HR hl h;induction L with
   | nil=>rfl
   | cons x l ih=>rw[List.flatMap_cons,Lla,ih];simp[tkC];omega
  rw[List.getElem?_append_right (by omega),e,Nat.sub_self];rfl
 obtain⟨g,cap,rfl⟩:∃ g cap,tv=.slice (some (Ad g 0)) (L.length+1) cap:=by
  rcases hown.2 with ⟨_,h0⟩ | ⟨g,cap,cur,hv,_⟩
  ·omega
  exact⟨g,cap,hv⟩
 have cg:=own_cell hown hx;have g1:(((L.length+1:Nat):Int)==0)=false:=by simp;omega
 have g2:((L.length+1:Nat):Int)-1=(L.length:Int):=by omega
 have g3:(L.length:Int)<((L.length+1:Nat):Int):=by omega
 clear h hown hx;generalize hM:L.length=M at *;go_enter func78,ntmps78;go_wp2;go_quiet (fail);go_wp2;go_ret;exact⟨rfl,HR.out.heap rfl rfl rfl rfl⟩
end
end Tok
open Go.RowKit
open Wire
namespace Tok
open Ev (TabS)
def JT (j0 j2 j3 j6 j7:Act→WL→Prop):Nat→Act→WL→Prop
 | 0=>j0
 | 2=>j2
 | 3=>j3
 | 6=>j6
 | 7=>j7
 | _=>fun _ _=>False
theorem wp_scopeJ {P:Program}{a:Act}{w:WL}{Q:Exit→Act→WL→Prop}{c:Code} (J:Nat→Act→WL→Prop) (μ:Nat→Act→WL→Nat)
  (first:c.wp P (ExJ J Q) a w)
  (hall:∀ l a w,J l a w→∃ r,findLabel c l=some r∧r.wp P (ExJ (fun l' a' w'=>J l' a' w'∧μ l' a' w'<μ l a w) Q) a w):(Code.scope c).wp P Q a w:=by
 intro b k cs;have key:∀ n l a w r,μ l a w=n→J l a w→findLabel c l=some r→∃ e a' w',Q e a' w'∧Arrives P (lone (b.at a (.code r :: .inScope c :: k)) cs w) b k cs e a' w':=by
  intro n;induction n using Nat.strongRecOn with
  | _ n ih=>
   intro l a w r hn hJ hr;obtain⟨r',hr',hwp⟩:=hall l a w hJ;obtain rfl:r=r':=by rw[hr] at hr';simpa using hr'
   obtain⟨e,a₁,w₁,hq,harr⟩:=hwp b (.inScope c :: k) cs;cases e with
   | normal=>exact⟨.normal,a₁,w₁,hq,Steps.trans harr (.one step_inScope)⟩
   | exit id=>exact⟨.exit id,a₁,w₁,hq,fun k' hk=>harr k' (by simp[exitTo,hk])⟩
   | goto l'=>
    obtain⟨hJ',hlt⟩:=hq;obtain⟨r2,hr2,-⟩:=hall l' a₁ w₁ hJ';have hg:gotoIn l' (.inScope c :: k)=some (.code r2 :: .inScope c :: k):=by simp[gotoIn,hr2]
    obtain⟨e₂,a₂,w₂,hq₂,harr₂⟩:=ih _ (by omega) l' a₁ w₁ r2 rfl hJ' hr2;exact⟨e₂,a₂,w₂,hq₂,.of_steps (harr _ hg) harr₂⟩
   | ret=>exact⟨_,a₁,w₁,hq,harr⟩
   | panic ch=>exact⟨_,a₁,w₁,hq,harr⟩
   | outgrown=>exact⟨_,a₁,w₁,hq,harr⟩
 obtain⟨e,a₁,w₁,hq,harr⟩:=first b (.inScope c :: k) cs;cases e with
 | normal=>exact⟨.normal,a₁,w₁,hq,.head step_scope (Steps.trans harr (.one step_inScope))⟩
 | exit id=>exact⟨.exit id,a₁,w₁,hq,fun k' hk=>.head step_scope (harr k' (by simp[exitTo,hk]))⟩
 | goto l'=>
  have hJ':J l' a₁ w₁:=hq;obtain⟨r2,hr2,-⟩:=hall l' a₁ w₁ hJ';have hg:gotoIn l' (.inScope c :: k)=some (.code r2 :: .inScope c :: k):=by simp[gotoIn,hr2]
  obtain⟨e₂,a₂,w₂,hq₂,harr₂⟩:=key _ l' a₁ w₁ r2 rfl hJ' hr2;exact⟨e₂,a₂,w₂,hq₂,.of_steps (.head step_scope (harr _ hg)) harr₂⟩
 | ret=>exact⟨_,a₁,w₁,hq,.of_steps (.one step_scope) harr⟩
 | panic ch=>exact⟨_,a₁,w₁,hq,.of_steps (.one step_scope) harr⟩
 | outgrown=>exact⟨_,a₁,w₁,hq,.of_steps (.one step_scope) harr⟩
def endK:BA:=⟨#[101,110,100]⟩
def wrongK:BA:=⟨#[119,114,111,110,103]⟩
def NumAt (s:BA) (b e:Nat):Prop:=isDg (lk s b)=true∧Skip isDg s b e
def WordAt (s:BA) (b e:Nat) (x:BA) (v:Bool):Prop:=isLt (lk s b)=true∧isDg (lk s b)=false∧Skip isIw s b e∧s.extract b e=x∧WordIs x v
def Plain (s:BA) (b:Nat) (L:List Tk):Prop:=lk s b≠-1∧lk s b≠35∧isDg (lk s b)=false∧isLt (lk s b)=false∧lk s b≠34∧(lk s b≠47∨∃ L' p n t,L=L'++[⟨⟨#[41]⟩,p,n,t⟩])
def RdsN (ss:LY) (s:BA):Nat→Nat→List Tk→List Tk→Prop
 | 0,_,_,_=>False
 | n+1,a,L,R=>∃ b,Skip isBl s a b∧((b=s.size∧R=L++[⟨endK,b,0,⟨#[]⟩⟩]) ∨
  (∃ e,NumAt s b e∧((numTo s b (e-b)≤1000000000∧RdsN ss s n e (L++[⟨numeralK,b,numTo s b (e-b),⟨#[]⟩⟩]) R)∨(¬ numTo s b (e-b)≤1000000000∧R=L++[⟨wrongK,b,0,⟨#[]⟩⟩]))) ∨
  (∃ e x v,WordAt s b e x v∧RdsN ss s n e (L++[cond v ⟨x,b,0,⟨#[]⟩⟩ ⟨nameK,b,0,x⟩]) R) ∨
  (∃ g:BA,Plain s b L∧0<g.size∧SignAt ss (s.extract b s.size).data.toList g∧RdsN ss s n (b+g.size) (L++[⟨g,b,0,⟨#[]⟩⟩]) R))
def Rds (ss:LY) (s:BA) (a:Nat) (L R:List Tk):Prop:=∃ n,RdsN ss s n a L R
section
variable {ss:LY}{s:BA}{a b e:Nat}{L R:List Tk}
theorem Rds.ends (h:Skip isBl s a b)(hb:b=s.size):Rds ss s a L (L++[⟨endK,b,0,⟨#[]⟩⟩]):=⟨1,b,h,.inl ⟨hb,rfl⟩⟩
theorem Rds.num (h:Skip isBl s a b)(hn:NumAt s b e)(hv:numTo s b (e-b)≤1000000000)(hr:Rds ss s e (L++[⟨numeralK,b,numTo s b (e-b),⟨#[]⟩⟩]) R):Rds ss s a L R:=
 let ⟨n,hn'⟩:=hr;⟨n+1,b,h,.inr (.inl ⟨e,hn,.inl ⟨hv,hn'⟩⟩)⟩
theorem Rds.bad (h:Skip isBl s a b)(hn:NumAt s b e)(hv:¬ numTo s b (e-b)≤1000000000):Rds ss s a L (L++[⟨wrongK,b,0,⟨#[]⟩⟩]):=⟨1,b,h,.inr (.inl ⟨e,hn,.inr ⟨hv,rfl⟩⟩)⟩
theorem Rds.word {x:BA}{v:Bool} (h:Skip isBl s a b) (hw:WordAt s b e x v) (hr:Rds ss s e (L++[cond v ⟨x,b,0,⟨#[]⟩⟩ ⟨nameK,b,0,x⟩]) R):Rds ss s a L R:=
 let ⟨n,hn'⟩:=hr;⟨n+1,b,h,.inr (.inr (.inl ⟨e,x,v,hw,hn'⟩))⟩
theorem Rds.sign {g:BA}(h:Skip isBl s a b)(hp:Plain s b L)(h0:0<g.size)(hg:SignAt ss (s.extract b s.size).data.toList g)(hr:Rds ss s (b+g.size) (L++[⟨g,b,0,⟨#[]⟩⟩]) R):Rds ss s a L R:=
 let ⟨n,hn'⟩:=hr;⟨n+1,b,h,.inr (.inr (.inr ⟨g,hp,h0,hg,hn'⟩))⟩
theorem Rds.inv (h:Rds ss s a L R):∃ b,Skip isBl s a b∧((b=s.size∧R=L++[⟨endK,b,0,⟨#[]⟩⟩]) ∨
  (∃ e,NumAt s b e∧((numTo s b (e-b)≤1000000000∧Rds ss s e (L++[⟨numeralK,b,numTo s b (e-b),⟨#[]⟩⟩]) R)∨(¬ numTo s b (e-b)≤1000000000∧R=L++[⟨wrongK,b,0,⟨#[]⟩⟩]))) ∨
  (∃ e x v,WordAt s b e x v∧Rds ss s e (L++[cond v ⟨x,b,0,⟨#[]⟩⟩ ⟨nameK,b,0,x⟩]) R) ∨
  (∃ g:BA,Plain s b L∧0<g.size∧SignAt ss (s.extract b s.size).data.toList g∧Rds ss s (b+g.size) (L++[⟨g,b,0,⟨#[]⟩⟩]) R)):=by
 obtain⟨n,h⟩:=h;cases n with
 | zero=>exact h.elim
 | succ n=>
  obtain⟨b,h1,h2⟩:=h;refine⟨b,h1,?_⟩;rcases h2 with h2 | ⟨e,h2,⟨h3,h4⟩ | h3⟩ | ⟨e,x,v,h2,h3⟩ | ⟨g,h2,h3,h4,h5⟩
  ·exact .inl h2
  ·exact .inr (.inl ⟨e,h2,.inl ⟨h3,n,h4⟩⟩)
  ·exact .inr (.inl ⟨e,h2,.inr h3⟩)
  ·exact .inr (.inr (.inl ⟨e,x,v,h2,n,h3⟩))
  exact .inr (.inr (.inr ⟨g,h2,h3,h4,n,h5⟩))
end
theorem skip_same {p:Int→Bool}{s:BA}{a b c:Nat} (h:Skip p s a b) (k:Skip p s a c):b=c:=by
 rcases Nat.lt_trichotomy b c with q | q | q
 ·have:=k.all b h.le.1 q;rw[h.stop] at this;cases this
 ·exact q
 have:=h.all c k.le.1 q;rw[k.stop] at this;cases this
theorem skip_lt {p:Int→Bool}{s:BA}{a b:Nat} (h:Skip p s a b) (ha:p (lk s a)=true):a<b:=by
 rcases Nat.lt_or_ge a b with q | q
 ·exact q
 obtain rfl:a=b:=by have:=h.le;omega
 rw[h.stop] at ha;cases ha
def TokP (w0:WL) (R:List Tk) (e:Ending) (w':WL):Prop:=∃ v,e=.returned v∧w'.ownsRow (w0.heap.size+1) 88 4 v R.length (R.flatMap tkC)∧Fr [] w0 w'
section
variable (ss:LY)(w0:WL)(r:Nat)(s:BA)(R:List Tk)
def Fm (a:Act):Prop:=∃ (u1 u2 u4 u5 u6 u7 u8 u9 u10 u11 u12 u13 u14 u15 u16 u17 u18 u19 u20 u21 u22 u23 u24 u25 u26 u27 u28 u29 u30 u31 u32 u33 u34 u35 u36 u37 u38 u39 u40 u41 u42 u43 u44 u45 u46 u47 u48 u49 u50 u51 u52 u53:Value),a=⟨#[.string s,u1,u2,ptr r,u4,u5,u6,u7,u8,u9,u10,u11,u12,u13,u14,u15,u16,u17,u18,u19,u20,u21,u22,u23,u24,u25,u26,u27,u28,u29,u30,u31,u32,u33,u34,u35,u36,u37,u38,u39,u40,u41,u42,u43,u44,u45,u46,u47,u48,u49,u50,u51,u52,u53],[]⟩
def q0 (w:WL):Prop:=∃ a f L,Rdr w0 r s a f L w∧L.length<90000-(s.size-a)∧Rds ss s a L R
def j0 (a:Act) (w:WL):Prop:=Fm r s a∧q0 ss w0 r s R w
def q2 (w:WL):Prop:=∃ b e L,Rdr w0 r s b b L w∧L.length<90000-(s.size-b)∧NumAt s b e∧((numTo s b (e-b)≤1000000000∧Rds ss s e (L++[⟨numeralK,b,numTo s b (e-b),⟨#[]⟩⟩]) R)∨(¬ numTo s b (e-b)≤1000000000∧R=L++[⟨wrongK,b,0,⟨#[]⟩⟩]))
def j2 (a:Act) (w:WL):Prop:=Fm r s a∧q2 ss w0 r s R w
def q3 (w:WL):Prop:=∃ b e L x v,Rdr w0 r s b b L w∧L.length<90000-(s.size-b)∧WordAt s b e x v∧Rds ss s e (L++[cond v ⟨x,b,0,⟨#[]⟩⟩ ⟨nameK,b,0,x⟩]) R
def j3 (a:Act) (w:WL):Prop:=Fm r s a∧q3 ss w0 r s R w
def q6 (w:WL):Prop:=∃ b L g,Rdr w0 r s b b L w∧L.length<90000-(s.size-b)∧0<g.size∧SignAt ss (s.extract b s.size).data.toList g∧Rds ss s (b+g.size) (L++[⟨g,b,0,⟨#[]⟩⟩]) R
def j6 (a:Act) (w:WL):Prop:=Fm r s a∧q6 ss w0 r s R w
def q7 (w:WL):Prop:=∃ a b L,Rdr w0 r s a b L w∧L.length<90000∧R=L++[⟨wrongK,b,0,⟨#[]⟩⟩]
def j7 (a:Act) (w:WL):Prop:=Fm r s a∧q7 w0 r s R w
def muT (l:Nat) (_:Act) (w:WL):Nat:=if l=7 then 0 else if l=0 then 4*(s.size-atOf r w)+2 else 4*(s.size-atOf r w)+1
end
end Tok
open Go.RowKit
open Wire
namespace Tok
open Ev (TabS)
theorem wp_scopeR {P:Program}{a:Act}{w:WL}{Q:Exit→Act→WL→Prop}{g x:Code} (J:Nat→Act→WL→Prop) (μ:Nat→Act→WL→Nat)
  (h0:findLabel (.seq g (.seq (.label 0) x)) 0=some (.seq .skip x))
  (first:g.wp P (Exit.then (J 0) (ExJ J Q)) a w)
  (lab0:∀ a w,J 0 a w→x.wp P (ExJ (fun l' a' w'=>J l' a' w'∧μ l' a' w'<μ 0 a w) Q) a w)
  (hall:∀ l a w,J (l+1) a w→∃ r,findLabel (.seq g (.seq (.label 0) x)) (l+1)=some r∧r.wp P (ExJ (fun l' a' w'=>J l' a' w'∧μ l' a' w'<μ (l+1) a w) Q) a w):(Code.scope (.seq g (.seq (.label 0) x))).wp P Q a w:=by
 refine wp_scopeJ J μ (wp_seq (wp_mono first fun e a w h=>?_)) (fun l a w h=>?_)
 ·cases e with
  | normal=>
   refine wp_seq (wp_label ?_);refine wp_mono (lab0 a w h) fun e a w h=>?_;cases e with
   | goto l=>exact h.1
   | _=>exact h
  | _=>exact h
 cases l with
 | zero=>exact⟨_,h0,wp_seq (wp_skip (lab0 a w h))⟩
 | succ l=>exact hall l a w h
section
variable {ss:LY}{w0:WL}{r:Nat}{s:BA}{R:List Tk}
theorem Rdr.start (w0:WL)(s:BA)(hs:s.size≤100000):Rdr w0 w0.heap.size s 0 0 [] (w0.alloc (.cells #[.string s,iA 0,iA 0,.slice none 0 0,.slice none 0 0] 162)):=by
 have k:=wan w0 (.cells #[.string s,iA 0,iA 0,.slice none 0 0,.slice none 0 0] 162);refine⟨⟨.slice none 0 0,.slice none 0 0,⟨?_,?_,?_,?_,?_,?_,?_,?_,?_⟩,World.ownsRow_nil _ _ _ _⟩,⟨Nat.zero_le _,Nat.le_refl _,hs,by simp⟩,(Fr.refl [] w0).alloc _,Nat.le_refl _⟩ <;> first | (unfold World.cell?;rw[k];rfl) | (unfold World.frozen?;rw[k];rfl)
theorem lk_end {b:Nat}(h:b=s.size):lk s b = -1:=by unfold lk;rw[dif_neg (by omega)]
theorem tokens_any (ht:TabS ss w0)(hss:ss.length≤100)(hs:s.size≤80000)(hR:Rds ss s 0 [] R):Calls prog 37 #[.string s] w0 (TokP w0 R):=by
 have HR:Hid _:=hR
 obtain⟨r,hr⟩:=eXi (w0.heap.size)
 have hS:=Rdr.start w0 s (by omega)
 rw[hr] at hS
 have HS:Hid _:=hS
 clear hR hS
 go_enter func37,ntmps37
 go_wp2_with fail
 refine wp_scopeR (JT (j0 ss w0 r s R) (j2 ss w0 r s R) (j3 ss w0 r s R) (j6 ss w0 r s R) (j7 w0 r s R)) (muT r s) rfl ?_ ?_ ?_
 ·go_wp2
  exact⟨⟨_,_,_,_,_,_,_,_,_,_,_,_,_,_,_,_,_,_,_,_,_,_,_,_,_,_,_,_,_,_,_,_,_,_,_,_,_,_,_,_,_,_,_,_,_,_,_,_,_,_,_,_,rfl⟩,0,0,[],HS.out,by simp;omega,HR.out⟩
 ·rintro a w ⟨⟨u1,u2,u4,u5,u6,u7,u8,u9,u10,u11,u12,u13,u14,u15,u16,u17,u18,u19,u20,u21,u22,u23,u24,u25,u26,u27,u28,u29,u30,u31,u32,u33,u34,u35,u36,u37,u38,u39,u40,u41,u42,u43,u44,u45,u46,u47,u48,u49,u50,u51,u52,u53,rfl⟩,a,f,L,K,hL,hR⟩
  clear HR HS
  obtain⟨b,hb,hcase⟩:=hR.inv
  have HC:Hid _:=hcase
  have e0:=K.atOf
  have hp:=passAll_any (.inl rfl) isBlank_any (by decide) K
  clear K hR hcase
  go_wp2_with fail
  refine hp.mono ?_
  rintro e w1 ⟨rfl,b',hb',K1⟩
  obtain rfl:=skip_same hb hb'
  have hbg:=begin_any K1
  clear hp K1 hb'
  go_wp2_with fail
  refine hbg.mono ?_
  rintro e w2 ⟨rfl,K2⟩
  have hlk:=look_any K2
  clear hbg K2
  go_wp2_with fail
  refine hlk.mono ?_
  rintro e w3 ⟨rfl,K3⟩
  clear hlk
  have hbl:=hb.le
  have e3:=K3.atOf
  have HK:Hid _:=K3
  have HM:Hid (∀ l,l≠0→l≠7→∀ a',muT r s l a' w3<4*(s.size-a)+2):=fun l h1 h2 a'=>by unfold muT;rw[if_neg h2,if_neg h1,e3];omega
  have HM0:Hid (∀ a',muT r s 0 a' w=4*(s.size-a)+2):=fun a'=>by unfold muT;rw[if_neg (by omega),if_pos rfl,e0]
  have hd:=fun (W:WL)=>isDigit_any (lk s b) W
  have hl:=fun (W:WL)=>isLetter_any (lk s b) W
  clear K3 e3 e0
  rcases HC.out with ⟨c1,c2⟩ | ⟨e,⟨c1,c2⟩,c3⟩ | ⟨e,x,v,c1,c2⟩ | ⟨g,c1,c2,c3,c4⟩
  ·have g1:(lk s b == -1)=true:=by rw[lk_end c1];rfl
   have hen:=end_any HK.out (by omega) endK
   have HR2:Hid _:=c2
   generalize lk s b=c at *
   clear hd hl HC c2 HK
   go_wp2_with fail
   refine hen.mono ?_
   rintro e w4 ⟨vv,rfl,o4,f4⟩
   have HO:Hid _:=AI o4 f4
   clear o4 f4 hen
   go_wp2
   simp only[ExJ]
   go_ret
   exact⟨vv,rfl,by rw[HR2.out,hr,Lla];exact HO.out.1,HO.out.2⟩
  ·rw[c1] at hd
   have HD:Hid _:=hd
   have g1:(lk s b == -1)=false:=by
    cases h:lk s b == -1 with
    | false=>rfl
    | true=>rw[eq_of_beq h] at c1;exact absurd c1 (by decide)
   have g2:(lk s b==35)=false:=by
    cases h:lk s b==35 with
    | false=>rfl
    | true=>rw[eq_of_beq h] at c1;exact absurd c1 (by decide)
   have HF:Hid (q2 ss w0 r s R w3):=⟨b,e,L,HK.out,by omega,⟨c1,c2⟩,c3⟩
   generalize lk s b=c at *
   clear hd hl HC c1 c2 c3 HK
   go_wp2_with fail
   refine (HD.out _).mono ?_
   rintro e w4 ⟨rfl,rfl⟩
   go_wp2
   go_step3
   try simp only[Exit.inBlock,Exit.then,ExJ]
   exact⟨⟨⟨_,_,_,_,_,_,_,_,_,_,_,_,_,_,_,_,_,_,_,_,_,_,_,_,_,_,_,_,_,_,_,_,_,_,_,_,_,_,_,_,_,_,_,_,_,_,_,_,_,_,_,_,rfl⟩,HF.out⟩,by rw[HM0.out];exact HM.out 2 (by decide) (by decide) _⟩
  ·have hdg:=c1.2.1
   rw[hdg] at hd
   rw[c1.1] at hl
   have HD:Hid _:=hd
   have HL:Hid _:=hl
   have g1:(lk s b == -1)=false:=by
    cases h:lk s b == -1 with
    | false=>rfl
    | true=>have:=c1.1;rw[eq_of_beq h] at this;exact absurd this (by decide)
   have g2:(lk s b==35)=false:=by
    cases h:lk s b==35 with
    | false=>rfl
    | true=>have:=c1.1;rw[eq_of_beq h] at this;exact absurd this (by decide)
   have HF:Hid (q3 ss w0 r s R w3):=⟨b,e,L,x,v,HK.out,by omega,c1,c2⟩
   generalize lk s b=c at *
   clear hd hl HC c1 c2 HK hdg
   go_wp2_with fail
   refine (HD.out _).mono ?_
   rintro e w4 ⟨rfl,rfl⟩
   go_wp2_with fail
   refine (HL.out _).mono ?_
   rintro e w4 ⟨rfl,rfl⟩
   go_wp2
   go_step3
   try simp only[Exit.inBlock,Exit.then,ExJ]
   exact⟨⟨⟨_,_,_,_,_,_,_,_,_,_,_,_,_,_,_,_,_,_,_,_,_,_,_,_,_,_,_,_,_,_,_,_,_,_,_,_,_,_,_,_,_,_,_,_,_,_,_,_,_,_,_,_,rfl⟩,HF.out⟩,by rw[HM0.out];exact HM.out 3 (by decide) (by decide) _⟩
  ·obtain⟨p1,p2,p3,p4,p5,p6⟩:=c1
   rw[p3] at hd
   rw[p4] at hl
   have HD:Hid _:=hd
   have HL:Hid _:=hl
   have g1:(lk s b == -1)=false:=by simpa using p1
   have g2:(lk s b==35)=false:=by simpa using p2
   have g3:(lk s b==34)=false:=by simpa using p5
   have HF:Hid (∀ w',Rdr w0 r s b b L w'→q6 ss w0 r s R w'):=fun w' K=>⟨b,L,g,K,by omega,c2,c3,c4⟩
   have HM6:Hid (∀ w' a',Rdr w0 r s b b L w'→muT r s 6 a' w'<4*(s.size-a)+2):=fun w' a' K=>by unfold muT;rw[if_neg (by omega),if_neg (by omega),K.atOf];omega
   rcases Decidable.em (lk s b=47) with q | q
   ·obtain⟨L',pp,nn,tt,rfl⟩:∃ L' p n t,L=L'++[⟨⟨#[41]⟩,p,n,t⟩]:=p6.resolve_left (fun h=>h q)
    have hmd:=mayDivide_any HK.out
    have g4:(lk s b==47)=true:=by simpa using q
    generalize lk s b=c at *
    clear hd hl HC c2 c3 c4 HK p1 p2 p3 p4 p5 p6 q
    go_wp2_with fail
    refine (HD.out _).mono ?_
    rintro e w4 ⟨rfl,rfl⟩
    go_wp2_with fail
    refine (HL.out _).mono ?_
    rintro e w4 ⟨rfl,rfl⟩
    go_wp2_with fail
    refine hmd.mono ?_
    rintro e w5 ⟨rfl,K5⟩
    have HK5:Hid _:=K5
    clear K5 hmd
    go_wp2
    go_step3
    try simp only[Exit.inBlock,Exit.then,ExJ]
    exact⟨⟨⟨_,_,_,_,_,_,_,_,_,_,_,_,_,_,_,_,_,_,_,_,_,_,_,_,_,_,_,_,_,_,_,_,_,_,_,_,_,_,_,_,_,_,_,_,_,_,_,_,_,_,_,_,rfl⟩,HF.out _ HK5.out⟩,by rw[HM0.out];exact HM6.out _ _ HK5.out⟩
   ·have g4:(lk s b==47)=false:=by simpa using q
    generalize lk s b=c at *
    clear hd hl HC c2 c3 c4 p1 p2 p3 p4 p5 p6 q
    go_wp2_with fail
    refine (HD.out _).mono ?_
    rintro e w4 ⟨rfl,rfl⟩
    go_wp2_with fail
    refine (HL.out _).mono ?_
    rintro e w4 ⟨rfl,rfl⟩
    go_wp2
    go_step3
    try simp only[Exit.inBlock,Exit.then,ExJ]
    exact⟨⟨⟨_,_,_,_,_,_,_,_,_,_,_,_,_,_,_,_,_,_,_,_,_,_,_,_,_,_,_,_,_,_,_,_,_,_,_,_,_,_,_,_,_,_,_,_,_,_,_,_,_,_,_,_,rfl⟩,HF.out _ HK.out⟩,by rw[HM0.out];exact HM6.out _ _ HK.out⟩
 ·intro l a w hJ
  match l,hJ with
  | 0,hJ=>exact hJ.elim
  | 1,hJ=>
   obtain⟨⟨u1,u2,u4,u5,u6,u7,u8,u9,u10,u11,u12,u13,u14,u15,u16,u17,u18,u19,u20,u21,u22,u23,u24,u25,u26,u27,u28,u29,u30,u31,u32,u33,u34,u35,u36,u37,u38,u39,u40,u41,u42,u43,u44,u45,u46,u47,u48,u49,u50,u51,u52,u53,rfl⟩,b,e,L,K,hL,⟨c1,c2⟩,c3⟩:=hJ
   clear HR HS
   refine⟨_,rfl,?_⟩
   have hlt:=skip_lt c2 c1
   have hle:=c2.le
   have e0:=K.atOf
   have HM0:Hid (∀ a',muT r s 2 a' w=4*(s.size-b)+1):=fun a'=>by unfold muT;rw[if_neg (by omega),if_neg (by omega),e0]
   have hp:=passAll_any (.inr (.inl rfl)) isDigit_any (by decide) K
   clear K e0
   go_wp2_with fail
   refine hp.mono ?_
   rintro e1 w1 ⟨rfl,b',hb',K1⟩
   obtain rfl:=skip_same c2 hb'
   have han:=addNumeral_any K1 (by omega) c2.all
   clear hp K1 hb'
   rcases c3 with ⟨c3,c4⟩ | ⟨c3,c4⟩
   ·have HC4:Hid _:=c4
    have HC3:Hid _:=c3
    clear c4 c3
    go_wp2_with fail
    refine han.mono ?_
    intro e1 w2 hn
    unfold NumP at hn
    rw[if_pos HC3.out] at hn
    obtain⟨rfl,K2⟩:=hn
    have e2:=K2.atOf
    have HK:Hid _:=K2
    have HM:Hid (∀ a',muT r s 0 a' w2<4*(s.size-b)+1):=fun a'=>by unfold muT;rw[if_neg (by omega),if_pos rfl,e2];omega
    clear K2 han e2 HC3
    go_wp2
    go_step3
    try simp only[Exit.inBlock,Exit.then,ExJ]
    exact⟨⟨⟨_,_,_,_,_,_,_,_,_,_,_,_,_,_,_,_,_,_,_,_,_,_,_,_,_,_,_,_,_,_,_,_,_,_,_,_,_,_,_,_,_,_,_,_,_,_,_,_,_,_,_,_,rfl⟩,e,b,_,HK.out,by simp;omega,HC4.out⟩,by rw[HM0.out];exact HM.out _⟩
   ·have HC4:Hid _:=c4
    have HC3:Hid _:=c3
    clear c4 c3
    go_wp2_with fail
    refine han.mono ?_
    intro e1 w2 hn
    unfold NumP at hn
    rw[if_neg HC3.out] at hn
    obtain⟨rfl,K2⟩:=hn
    have HK:Hid _:=K2
    clear K2 han HC3
    go_wp2
    go_step3
    try simp only[Exit.inBlock,Exit.then,ExJ]
    exact⟨⟨⟨_,_,_,_,_,_,_,_,_,_,_,_,_,_,_,_,_,_,_,_,_,_,_,_,_,_,_,_,_,_,_,_,_,_,_,_,_,_,_,_,_,_,_,_,_,_,_,_,_,_,_,_,rfl⟩,e,b,L,HK.out,by omega,HC4.out⟩,by rw[HM0.out];unfold muT;rw[if_pos rfl];omega⟩
  | 2,hJ=>
   obtain⟨⟨u1,u2,u4,u5,u6,u7,u8,u9,u10,u11,u12,u13,u14,u15,u16,u17,u18,u19,u20,u21,u22,u23,u24,u25,u26,u27,u28,u29,u30,u31,u32,u33,u34,u35,u36,u37,u38,u39,u40,u41,u42,u43,u44,u45,u46,u47,u48,u49,u50,u51,u52,u53,rfl⟩,b,e,L,x,v,K,hL,⟨c1,c0,c2,c3,c4⟩,c5⟩:=hJ
   clear HR HS
   refine⟨_,rfl,?_⟩
   have hlt:=skip_lt c2 (by unfold isIw;rw[c1];rfl)
   have hle:=c2.le
   have e0:=K.atOf
   have HM0:Hid (∀ a',muT r s 3 a' w=4*(s.size-b)+1):=fun a'=>by unfold muT;rw[if_neg (by omega),if_neg (by omega),e0]
   have hp:=passAll_any (.inr (.inr rfl)) isInWord_any (by decide) K
   have HC5:Hid _:=c5
   clear K e0 c5
   go_wp2_with fail
   refine hp.mono ?_
   rintro e1 w1 ⟨rfl,b',hb',K1⟩
   obtain rfl:=skip_same c2 hb'
   have han:=addWord_any K1 (by omega) c3 c4
   clear hp K1 hb' c3 c4
   go_wp2_with fail
   refine han.mono ?_
   rintro e1 w2 ⟨rfl,K2⟩
   have e2:=K2.atOf
   have HK:Hid _:=K2
   have HM:Hid (∀ a',muT r s 0 a' w2<4*(s.size-b)+1):=fun a'=>by unfold muT;rw[if_neg (by omega),if_pos rfl,e2];omega
   clear K2 han e2
   go_wp2
   go_step3
   try simp only[Exit.inBlock,Exit.then,ExJ]
   exact⟨⟨⟨_,_,_,_,_,_,_,_,_,_,_,_,_,_,_,_,_,_,_,_,_,_,_,_,_,_,_,_,_,_,_,_,_,_,_,_,_,_,_,_,_,_,_,_,_,_,_,_,_,_,_,_,rfl⟩,e,b,_,HK.out,by simp;omega,HC5.out⟩,by rw[HM0.out];exact HM.out _⟩
  | 3,hJ=>exact hJ.elim
  | 4,hJ=>exact hJ.elim
  | 5,hJ=>
   obtain⟨⟨u1,u2,u4,u5,u6,u7,u8,u9,u10,u11,u12,u13,u14,u15,u16,u17,u18,u19,u20,u21,u22,u23,u24,u25,u26,u27,u28,u29,u30,u31,u32,u33,u34,u35,u36,u37,u38,u39,u40,u41,u42,u43,u44,u45,u46,u47,u48,u49,u50,u51,u52,u53,rfl⟩,b,L,g,K,hL,c2,c3,c4⟩:=hJ
   clear HR HS
   refine⟨_,rfl,?_⟩
   have e0:=K.atOf
   have HM0:Hid (∀ a',muT r s 6 a' w=4*(s.size-b)+1):=fun a'=>by unfold muT;rw[if_neg (by omega),if_neg (by omega),e0]
   have hbl:=K.le
   have han:=addSign_any ht hss K (by omega) c3
   have HC4:Hid _:=c4
   clear K e0 c4 c3
   go_wp2_with fail
   refine han.mono ?_
   rintro e1 w2 ⟨rfl,K2⟩
   have e2:=K2.atOf
   have hb2:=K2.le
   have HK:Hid _:=K2
   have HM:Hid (∀ a',muT r s 0 a' w2<4*(s.size-b)+1):=fun a'=>by unfold muT;rw[if_neg (by omega),if_pos rfl,e2];omega
   clear K2 han e2
   go_wp2
   go_step3
   try simp only[Exit.inBlock,Exit.then,ExJ]
   exact⟨⟨⟨_,_,_,_,_,_,_,_,_,_,_,_,_,_,_,_,_,_,_,_,_,_,_,_,_,_,_,_,_,_,_,_,_,_,_,_,_,_,_,_,_,_,_,_,_,_,_,_,_,_,_,_,rfl⟩,b+g.size,b,_,HK.out,by simp;omega,HC4.out⟩,by rw[HM0.out];exact HM.out _⟩
  | 6,hJ=>
   obtain⟨⟨u1,u2,u4,u5,u6,u7,u8,u9,u10,u11,u12,u13,u14,u15,u16,u17,u18,u19,u20,u21,u22,u23,u24,u25,u26,u27,u28,u29,u30,u31,u32,u33,u34,u35,u36,u37,u38,u39,u40,u41,u42,u43,u44,u45,u46,u47,u48,u49,u50,u51,u52,u53,rfl⟩,a0,b,L,K,hL,c2⟩:=hJ
   clear HR HS
   refine⟨_,rfl,?_⟩
   have hen:=end_any K (by omega) wrongK
   have HR2:Hid _:=c2
   clear c2 K
   go_wp2_with fail
   refine hen.mono ?_
   rintro e w4 ⟨vv,rfl,o4,f4⟩
   have HO:Hid _:=AI o4 f4
   clear o4 f4 hen
   go_wp2
   simp only[ExJ]
   go_ret
   exact⟨vv,rfl,by rw[HR2.out,hr,Lla];exact HO.out.1,HO.out.2⟩
  | n+7,hJ=>exact hJ.elim
end
end Tok
open Go.RowKit
open Wire
namespace Tok
structure Rest (s:BA) (a:Nat) (l:LB):Prop where
 le:a≤s.size
 is:s.data.toList.drop a=l
section
variable {s:BA}{a:Nat}{l p:LB}{c:UInt8}
theorem Rest.start (l:LB):Rest ⟨l.toArray⟩ 0 l:=⟨Nat.zero_le _,by simp⟩
theorem Rest.len (h:Rest s a l):a+l.length=s.size:=by
 have h1:=h.le;have h2:s.data.toList.length=s.size:=Array.length_toList;rw[← h.is,List.length_drop,h2];omega
theorem Rest.lk (h:Rest s a (c :: l)):lk s a=(c.toNat:Int):=by
 have h1:=h.len;simp only[List.length_cons] at h1;have ha:a<s.size:=by omega
 unfold Tok.lk;rw[dif_pos ha];have h2:s.data.toList[a]?=some c:=by
  have:(s.data.toList.drop a)[0]?=some c:=by rw[h.is];rfl
  rwa [List.getElem?_drop,Nat.add_zero] at this
 have h3:s[a]=c:=by
  rw[Array.getElem?_toList] at h2;exact (Age.1 h2).2
 rw[h3]
theorem Rest.end_ (h:Rest s a []):a=s.size:=by have:=h.len;simpa using this
theorem Rest.lkEnd (h:Rest s a []):Tok.lk s a = -1:=by unfold Tok.lk;rw[dif_neg (by rw[h.end_];omega)]
theorem Rest.skip (h:Rest s a (p++l)):Rest s (a+p.length) l:=by
 have h1:=h.len;rw[Lla] at h1;exact⟨by omega,by rw[← List.drop_drop,h.is,List.drop_left]⟩
theorem Rest.run {P:Int→Bool}(h:Rest s a (p++l))(hp:∀ c ∈ p,P (c.toNat:Int)=true)(hl:P (Tok.lk s (a+p.length))=false):Skip P s a (a+p.length):=by
 have h1:=h.len;rw[Lla] at h1;refine⟨by omega,fun i hi hj=>?_,hl⟩;obtain⟨k,rfl⟩:∃ k,i=a+k:=⟨i-a,by omega⟩;have hk:k<p.length:=by omega
 have h2:Rest s a (p.take k++(p[k] :: (p.drop (k+1)++l))):=by
  rw[← List.cons_append,← List.drop_eq_getElem_cons hk,← List.append_assoc,List.take_append_drop];exact h
 have h3:=h2.skip;rw[List.length_take,Nat.min_eq_left (by omega)] at h3;rw[h3.lk];exact hp _ (List.getElem_mem hk)
theorem Rest.text (h:Rest s a (p++l)):s.extract a (a+p.length)=⟨p.toArray⟩:=by
 have h1:=h.len;rw[Lla] at h1;apply ByteArray.ext;apply Array.toList_inj.1;rw[ByteArray.data_extract,Array.toList_extract];have:s.data.toList.drop a=p++l:=h.is;rw[List.extract_eq_take_drop,this,Nat.add_sub_cancel_left,List.take_left]
theorem Rest.rest (h:Rest s a l):(s.extract a s.size).data.toList=l:=by
 have:=Rest.text (p:=l) (l:=[]) (by rw[List.append_nil];exact h);rw[h.len] at this;rw[this]
end
end Tok
open Go.RowKit
open Wire
namespace Tok
def headNot (P:Int→Bool):LB→Bool
 | []=>true
 | c :: _=>!P (c.toNat:Int)
section
variable {ss:LY}{s:BA}{a:Nat}{l p w:LB}{L R:List Tk}
theorem Rest.stop {P:Int→Bool}(h:Rest s a l)(hn:headNot P l=true)(hp:P (-1)=false):P (Tok.lk s a)=false:=by
 cases l with
 | nil=>rw[h.lkEnd];exact hp
 | cons c l=>rw[h.lk];simpa [headNot] using hn
theorem Rest.blanks (h:Rest s a (p++l))(hb:p.all (fun c=>isBl (c.toNat:Int))=true)(hn:headNot isBl l=true):Skip isBl s a (a+p.length)∧Rest s (a+p.length) l:=
 ⟨h.run (fun c hc=>List.all_eq_true.1 hb c hc) (h.skip.stop hn rfl),h.skip⟩
theorem rd_end (h:Rest s a (p++[]))(hb:p.all (fun c=>isBl (c.toNat:Int))=true):Rds ss s a L (L++[⟨endK,a+p.length,0,⟨#[]⟩⟩]):=by
 obtain⟨h1,h2⟩:=h.blanks hb rfl;exact .ends h1 h2.end_
theorem rd_word {c:UInt8}{v:Bool} (h:Rest s a (p++((c :: w)++l))) (hb:p.all (fun c=>isBl (c.toNat:Int))=true) (hc:(!isBl (c.toNat:Int) && isLt (c.toNat:Int) && !isDg (c.toNat:Int))=true) (hw:(c :: w).all (fun c=>isIw (c.toNat:Int))=true) (hn:headNot isIw l=true) (hv:WordIs ⟨(c :: w).toArray⟩ v)
  (hr:Rest s (a+p.length+(c :: w).length) l→Rds ss s (a+p.length+(c :: w).length) (L++[cond v ⟨⟨(c :: w).toArray⟩,a+p.length,0,⟨#[]⟩⟩ ⟨nameK,a+p.length,0,⟨(c :: w).toArray⟩⟩]) R):Rds ss s a L R:=by
 simp only[Bool.and_eq_true,Bool.not_eq_true'] at hc;obtain⟨h1,h2⟩:=h.blanks hb (by simp[headNot,hc.1.1]);have h3:Tok.lk s (a+p.length)=(c.toNat:Int):=Rest.lk (l:=w++l) h2;exact .word h1 ⟨by rw[h3];exact hc.1.2,by rw[h3];exact hc.2,h2.run (fun c hc=>List.all_eq_true.1 hw c hc) (h2.skip.stop hn rfl),h2.text,hv⟩ (hr h2.skip)
theorem rd_at {c:UInt8}(h:Rest s a (p++((c :: w)++l)))(hb:p.all (fun c=>isBl (c.toNat:Int))=true)(hw:(c :: w).all (fun c=>isDg (c.toNat:Int))=true)(hn:headNot isDg l=true) :
  Skip isBl s a (a+p.length)∧NumAt s (a+p.length) (a+p.length+(c :: w).length)∧Rest s (a+p.length+(c :: w).length) l:=by
 have hd:isDg (c.toNat:Int)=true:=List.all_eq_true.1 hw c (by simp);have hbl:isBl (c.toNat:Int)=false:=by
  simp only[isDg,Bool.and_eq_true,decide_eq_true_eq] at hd;simp only[isBl,Bool.or_eq_false_iff,beq_eq_false_iff_ne,ne_eq];omega
 obtain⟨h1,h2⟩:=h.blanks hb (by simp[headNot,hbl]);have h3:Tok.lk s (a+p.length)=(c.toNat:Int):=Rest.lk (l:=w++l) h2;exact⟨h1,⟨by rw[h3];exact hd,h2.run (fun c hc=>List.all_eq_true.1 hw c hc) (h2.skip.stop hn rfl)⟩,h2.skip⟩
def numL (l:LB):Nat:=l.foldl (fun n c=>min (n*10+(c.toNat-48)) 1000000001) 0
theorem numTo_eq (h:Rest s a (w++l)):numTo s a w.length=numL w:=by
 have key:∀ k,k≤w.length→numTo s a k=numL (w.take k):=by
  intro k;induction k with
  | zero=>intro _;rfl
  | succ k ih=>
   intro hk;have hk':k<w.length:=by omega
   have h2:Rest s a (w.take k++(w[k] :: (w.drop (k+1)++l))):=by
    rw[← List.cons_append,← List.drop_eq_getElem_cons hk',← List.append_assoc,List.take_append_drop];exact h
   have h3:=h2.skip;rw[List.length_take,Nat.min_eq_left (by omega)] at h3;rw[numTo,ih (by omega),h3.lk,List.take_succ_eq_append_getElem hk'];simp only[numL,List.foldl_append,List.foldl_cons,List.foldl_nil];congr 2;omega
 have:=key w.length (Nat.le_refl _)
 rwa [List.take_length] at this
theorem rd_num {c:UInt8}(h:Rest s a (p++((c :: w)++l)))(hb:p.all (fun c=>isBl (c.toNat:Int))=true)(hw:(c :: w).all (fun c=>isDg (c.toNat:Int))=true)(hn:headNot isDg l=true)(hv:numL (c :: w)≤1000000000)
  (hr:Rest s (a+p.length+(c :: w).length) l→Rds ss s (a+p.length+(c :: w).length) (L++[⟨numeralK,a+p.length,numL (c :: w),⟨#[]⟩⟩]) R):Rds ss s a L R:=by
 obtain⟨h1,h2,h3⟩:=rd_at h hb hw hn;have e:numTo s (a+p.length) (a+p.length+(c :: w).length-(a+p.length))=numL (c :: w):=by rw[Nat.add_sub_cancel_left];exact numTo_eq h.skip
 exact .num h1 h2 (by rw[e];exact hv) (by rw[e];exact hr h3)
theorem rd_bad {c:UInt8}(h:Rest s a (p++((c :: w)++l)))(hb:p.all (fun c=>isBl (c.toNat:Int))=true)(hw:(c :: w).all (fun c=>isDg (c.toNat:Int))=true)(hn:headNot isDg l=true)(hv:¬ numL (c :: w)≤1000000000) :
  Rds ss s a L (L++[⟨wrongK,a+p.length,0,⟨#[]⟩⟩]):=by
 obtain⟨h1,h2,h3⟩:=rd_at h hb hw hn;have e:numTo s (a+p.length) (a+p.length+(c :: w).length-(a+p.length))=numL (c :: w):=by rw[Nat.add_sub_cancel_left];exact numTo_eq h.skip
 exact .bad h1 h2 (by rw[e];exact hv)
def signC (c:UInt8):Bool:=!isBl (c.toNat:Int) && !isDg (c.toNat:Int) && !isLt (c.toNat:Int) && c != 35 && c != 34
theorem rd_sign {c:UInt8}(h:Rest s a (p++((c :: w)++l)))(hb:p.all (fun c=>isBl (c.toNat:Int))=true)(hc:signC c=true)(hd:c≠47∨∃ L' p n t,L=L'++[⟨⟨#[41]⟩,p,n,t⟩])(hg:SignAt ss ((c :: w)++l) ⟨(c :: w).toArray⟩)
  (hr:Rest s (a+p.length+(c :: w).length) l→Rds ss s (a+p.length+(c :: w).length) (L++[⟨⟨(c :: w).toArray⟩,a+p.length,0,⟨#[]⟩⟩]) R):Rds ss s a L R:=by
 simp only[signC,Bool.and_eq_true,Bool.not_eq_true',bne_iff_ne,ne_eq] at hc;obtain⟨⟨⟨⟨q1,q2⟩,q3⟩,q4⟩,q5⟩:=hc;obtain⟨h1,h2⟩:=h.blanks hb (by simp[headNot,q1]);have h3:Tok.lk s (a+p.length)=(c.toNat:Int):=Rest.lk (l:=w++l) h2;have hsz:(⟨(c :: w).toArray⟩:BA).size=(c :: w).length:=by simp[ByteArray.size]
 have hne:∀ k:UInt8,c≠k→(c.toNat:Int)≠(k.toNat:Int):=fun k hk e=>hk (UInt8.toNat_inj.1 (by omega));refine .sign (g:=⟨(c :: w).toArray⟩) h1 ⟨by rw[h3];omega,by rw[h3];exact hne 35 q4,by rw[h3];exact q2,by rw[h3];exact q3,by rw[h3];exact hne 34 q5,?_⟩ (by rw[hsz];simp) (by rw[h2.rest];exact hg) (by rw[hsz];exact hr h2.skip);rcases hd with e | e
 ·exact .inl (by rw[h3];exact hne 47 e)
 exact .inr e
end
end Tok
open Go.RowKit
open Wire Flow
theorem makeMap88 (w:WL):(Instr.makeMap 144 none).run prog w=.ok (.map (some w.heap.size)) (w.alloc (.map #[] 0)):=by
 kernel_rfl
theorem build90 (b:Nat)(w:WL):(Instr.build 146 #[(0,.map (some b))]).run prog w=.ok (.agg #[.map (some b),.slice none 0 0]) w:=by
 kernel_rfl
theorem newArray_any (W:WL):Calls prog 61 #[] W fun e w=>∃ b,e=.returned (.agg #[.map (some b),.slice none 0 0])∧W.heap.size≤b∧MapAt w b []∧Fr [] W w:=by
 have hm:=makeMap88 (W.alloc (.cells #[.map none,.slice none 0 0] 146));have hb:=build90;go_enter func61,ntmps61;go_wp2_with fail;have k1:((W.alloc (.cells #[.map (some (W.heap.size+1)),.slice none 0 0] 146)).alloc (.map #[] 0)).heap[W.heap.size]?=some (.cells #[.map (some (W.heap.size+1)),.slice none 0 0] 146):=heap_alloc2_old W _ _;have k2:((W.alloc (.cells #[.map (some (W.heap.size+1)),.slice none 0 0] 146)).alloc (.map #[] 0)).heap[W.heap.size+1]?=some (.map #[] 0):=heap_alloc2_new W _ _;refine bodyPost_ret (results_cell_row rfl _ _ W.heap.size 146 #[.map (some (W.heap.size+1)),.slice none 0 0] (0,0) _ rfl k1 underlying146 rfl (by kernel_rfl)) rfl ?_;exact⟨W.heap.size+1,rfl,by omega,⟨#[],0,k2,rfl⟩,((Fr.refl [] W).alloc _).alloc _⟩
def ms0 (m:Mo) (recs:LY) (draws:List Int):Ms:=msOf (Mach.begin_ m recs draws) [] (Mach.enter m 0 [])
section
variable {E:Mach.Env}{X gF:Nat}{W:WL}{tag:NN}{recs:LY}{draws:List Int}
def lv0 (n:Nat) (i:Nat):Bool:=decide (i=10∨i=11∨i=12∨i=13∨i=5000∨(21≤i∧i<21+2*n∧i % 2=1))
def R0 (X:Nat) (x:Mx) (s:Ms) (i:Nat):Rw:=
 if i=10 then ⟨.slice (some ⟨X,0,none⟩) 1 1,135,16,1,xC x s⟩
 else if i=11 then ⟨x.frv,225,51,s.low.length+1,rng (s.low.length+1) fun k=>frC (x.F k) (fAt s k)⟩
 else if i=12 then ⟨x.gv,221,3,s.w.globs.length,rng s.w.globs.length fun i=>vC (s.w.globs.getD i Mach.nothing)⟩
 else if i=13 then ⟨x.av,146,2,s.w.arrs.length,rng s.w.arrs.length fun i=>[.map (some (x.A i).1),(x.A i).2]⟩
 else if i=5000 then ⟨.slice none 0 0,306,4,0,[]⟩
 else ⟨.slice none 0 0,9,1,0,[]⟩
def mp0 (n:Nat) (x:Mx) (i:Nat):Option (Nat × List (Value × Value)):=if 20≤i∧i<20+2*n∧i % 2=0 then some ((x.A ((i-20) / 2)).1,[]) else none
theorem sto0 {x:Mx}{s:Ms} (hn:s.w.arrs.length≤1000) (oX:W.ownsRow 0 135 16 (.slice (some (Ad X 0)) 1 1) 1 (xC x s)) (oF:W.ownsRow 0 225 51 x.frv (s.low.length+1) (rng (s.low.length+1) fun k=>frC (x.F k) (fAt s k))) (oG:W.ownsRow 0 221 3 x.gv s.w.globs.length (rng s.w.globs.length fun i=>vC (s.w.globs.getD i Mach.nothing))) (oA:W.ownsRow 0 146 2 x.av s.w.arrs.length (rng s.w.arrs.length fun i=>[.map (some (x.A i).1),(x.A i).2]))
  (tX:tag X=10) (tF:Tg tag x.frv 11) (tG:Tg tag x.gv 12) (tA:Tg tag x.av 13) (hA:∀ i,i<s.w.arrs.length→MapAt W (x.A i).1 []∧tag (x.A i).1=20+2*i):Sto W tag (lv0 s.w.arrs.length) (R0 X x s) (mp0 s.w.arrs.length x) where
 rows:=fun i hi=>by
  have hi':i=10∨i=11∨i=12∨i=13∨i=5000∨(21≤i∧i<21+2*s.w.arrs.length∧i % 2=1):=by simpa [lv0] using hi
  rcases hi' with rfl | rfl | rfl | rfl | rfl | ⟨h1,h2,h3⟩
  ·exact⟨oX,fun q hq=>by
    have:X=q:=by simpa [R0,Value.ownBlock] using hq
    rw[← this];exact tX⟩
  ·exact⟨oF,tF⟩
  ·exact⟨oG,tG⟩
  ·exact⟨oA,tA⟩
  ·exact⟨⟨rfl,.inl ⟨rfl,rfl⟩⟩,Tg.nil _ _⟩
  ·have e:R0 X x s i=⟨.slice none 0 0,9,1,0,[]⟩:=by
    unfold R0
    rw[if_neg (by omega),if_neg (by omega),if_neg (by omega),if_neg (by omega),if_neg (by omega)]
   rw[e]
   exact⟨⟨rfl,.inl ⟨rfl,rfl⟩⟩,Tg.nil _ _⟩
 maps:=fun i b l h=>by
  unfold mp0 at h
  split at h
  ·rename_i c
   simp only[Option.some.injEq,Prod.mk.injEq] at h
   obtain⟨h1,h2⟩:=h
   obtain⟨a,t⟩:=hA ((i-20) / 2) (by omega)
   rw[← h1,← h2]
   exact⟨a,by rw[t];omega⟩
  ·cases h
 far:=fun i hi=>by
  have hi':i=10∨i=11∨i=12∨i=13∨i=5000∨(21≤i∧i<21+2*s.w.arrs.length∧i % 2=1):=by simpa [lv0] using hi
  unfold mp0
  rw[if_neg (by omega)]
 num:=fun i h=>by
  rcases h with h | h
  ·have hi':i=10∨i=11∨i=12∨i=13∨i=5000∨(21≤i∧i<21+2*s.w.arrs.length∧i % 2=1):=by simpa [lv0] using h
   omega
  ·unfold mp0 at h
   split at h
   ·omega
   ·exact absurd rfl h
end
section
variable {E:Mach.Env}{X gF:Nat}{W:WL}{tag:NN}{recs:LY}{draws:List Int}
theorem mm_begin {x:Mx}(h6:6≤W.heap.size)(hm:3≤E.mo.fns.length)(hn:E.mo.arrs.toNat≤1000)(hpl:PlcAt E.mo 0 (x.code 0).2 0 0)
  (sta:Sta E W tag x.tv x.pv x.fv x.code) (e0:x.entry=0)
  (oX:W.ownsRow 0 135 16 (.slice (some (Ad X 0)) 1 1) 1 (xC x (ms0 E.mo recs draws)))
  (vF:x.frv=.slice (some (Ad gF 0)) 1 1) (oF:W.ownsRow 0 225 51 x.frv 1 (frC (x.F 0) (Mach.enter E.mo 0 [])))
  (fF:(x.F 0).cv=(x.code 0).1∧(x.F 0).ix=0∧(x.F 0).sv=.slice none 0 0)
  (oG:W.ownsRow 0 221 3 x.gv E.mo.globs.toNat (rng E.mo.globs.toNat fun _=>vC Mach.nothing))
  (oA:W.ownsRow 0 146 2 x.av E.mo.arrs.toNat (rng E.mo.arrs.toNat fun i=>[.map (some (x.A i).1),.slice none 0 0])) (sA:∀ i,i<E.mo.arrs.toNat→(x.A i).2=.slice none 0 0)
  (tX:tag X=10) (tF:Tg tag x.frv 11) (tG:Tg tag x.gv 12) (tA:Tg tag x.av 13) (hA:∀ i,i<E.mo.arrs.toNat→MapAt W (x.A i).1 []∧tag (x.A i).1=20+2*i)
  (rcs:RoL W tag x.rv (recs.map .string)) (drw:RoL W tag x.dv (draws.map (.int .i64))) (fl:x.flv=.slice none 0 0) :
  MM E X ⟨gF,x.gv,x.av,0,x.pv,x.code⟩ (ms0 E.mo recs draws) W tag:=by
 have la:(ms0 E.mo recs draws).w.arrs.length=E.mo.arrs.toNat:=by simp[ms0,msOf,Mach.begin_]
 have lg:(ms0 E.mo recs draws).w.globs.length=E.mo.globs.toNat:=by simp[ms0,msOf,Mach.begin_]
 have hS:=sto0 (W:=W) (tag:=tag) (X:=X) (x:=x) (s:=ms0 E.mo recs draws) (by rw[la];exact hn) oX ?_ ?_ ?_ tX tF tG tA (by rw[la];exact hA)
 ·refine⟨h6,lv0 (ms0 E.mo recs draws).w.arrs.length,R0 X x (ms0 E.mo recs draws),mp0 (ms0 E.mo recs draws).w.arrs.length x,x,⟨⟨rfl,e0,rfl,rfl⟩,rfl⟩,?_⟩
  exact {
   S:=hS
   sta:=sta
   lX:=by simp[lv0]
   rX:=rfl
   lF:=by simp[lv0]
   rF:=rfl
   vF:=⟨1,vF⟩
   nF:=Nat.zero_le _
   lG:=by simp[lv0]
   rG:=rfl
   lA:=by simp[lv0]
   rA:=rfl
   nA:=by rw[la];exact hn
   arr:=fun i hi=>by
    rw[la] at hi
    have e:(ms0 E.mo recs draws).w.arrs.getD i []=[]:=by
     simp[ms0,msOf,Mach.begin_,List.getElem?_replicate]
     split <;> rfl
    refine⟨?_,?_,?_⟩
    ·rw[e,la]
     unfold mp0
     rw[if_pos (by omega),show (20+2*i-20) / 2=i by omega]
     rfl
    ·rw[la];simp[lv0];omega
    ·rw[e,sA i hi]
     unfold R0
     rw[if_neg (by omega),if_neg (by omega),if_neg (by omega),if_neg (by omega),if_neg (by omega)]
     rfl
   stk:=fun k hk=>by
    have hk0:k=0:=Nat.le_zero.1 hk
    subst hk0
    refine⟨by simp[lv0],?_⟩
    rw[fF.2.2]
    rfl
   wlk:=fun k j c hk hj hc=>by
    have hk0:k=0:=Nat.le_zero.1 hk
    subst hk0
    have:(fAt (ms0 E.mo recs draws) 0).stk=[]:=rfl
    rw[this] at hj
    simp at hj
   fn:=fun k hk=>by
    have hk0:k=0:=Nat.le_zero.1 hk
    subst hk0
    refine⟨by show 0<_;omega,fF.1,?_⟩
    rw[fF.2.1]
    exact hpl
   rcs:=rcs
   drw:=drw
   fld:=⟨none,0,fl,Nat.le_refl _,by decide,fun h=>absurd h (by simp[ms0,msOf,Mach.begin_])⟩ }
 ·exact oF
 ·rw[lg]
  refine Eq.mp (congrArg _ (rng_congr fun j hj=>?_)) oG
  congr 1
  simp[ms0,msOf,Mach.begin_,List.getElem?_replicate,hj]
 ·rw[la]
  refine Eq.mp (congrArg _ (rng_congr fun j hj=>?_)) oA
  rw[sA j hj]
end
theorem cloneI_any {ds:List Int}{v:Value} (W:WL) (hn:ds.length≤50) (h:ArgL W v (ds.map (.int .i64))):Calls prog 57 #[v] W fun e w=>∃ v',e=.returned v'∧w.ownsRow W.heap.size 3 1 v' ds.length (ds.map (.int .i64))∧Fr [] W w:=by
 obtain⟨o,c,rfl,hc,hc2,hx⟩:=h;rw[List.length_map] at hc hx ⊢;rcases o with _ | ⟨g,off,z⟩
 ·have h0:ds.length=0:=by
   rcases Nat.eq_zero_or_pos ds.length with h | h
   ·exact h
   obtain⟨g,off,e,-⟩:=hx h;cases e
  refine (slices_Clone_int_nil ds.length c W).mono ?_;rintro e w ⟨rfl,rfl⟩;have:ds=[]:=List.eq_nil_of_length_eq_zero h0;subst this;exact⟨_,rfl,⟨rfl,.inl ⟨rfl,rfl⟩⟩,Fr.refl [] _⟩
 rcases Nat.eq_zero_or_pos ds.length with h | h
 ·have:ds=[]:=List.eq_nil_of_length_eq_zero h;subst this;refine (slices_Clone_int_zero ⟨g,off,z⟩ c W).mono ?_;rintro e w ⟨v',rfl,ow,-,hB⟩;exact⟨v',rfl,ow,Fr.of_below hB⟩
 obtain⟨g',off',e,-,hcell⟩:=hx h;cases e;refine (slices_Clone_int g off ds.length c ds W (Nat.le_refl _) (by omega) fun j hj=>?_).mono ?_
 ·refine hcell j _ ?_;rw[List.getElem?_map,Lge hj,List.getD_eq_getElem?_getD,Lge hj];rfl
 rintro e w ⟨v',rfl,ow,-,hB⟩;rw[List.take_length] at ow;exact⟨v',rfl,ow,Fr.of_below hB⟩
theorem results_row3 {P:Program}{fn:Func}{p u v x:Tmp}{ty:TypeId} (h:fn.results=#[.cell p ty,.tmp u,.tmp v,.tmp x]) (tmps:Array Value) (w:WL) (g:Nat) (t:TypeId) (cs:Array Value) (fr:Nat × Nat) (d:TypeDesc)
  (hp:tmps.getD p undef=.pointer (some (Ad g 0))) (hg:w.heap[g]?=some (.cells cs t fr))
  (hu:P.underlying ty=some d) (hd:(match d with | .struct _ | .array _ _=>true | _=>false)=true) (hi:(P.info? ty).map (·.size)=some cs.size) :
  (results fn tmps).run P w=.ok (.tuple #[.agg cs,tmps.getD u undef,tmps.getD v undef,tmps.getD x undef]) w:=by
 have hp':tmps[p]?.getD undef=.pointer (some (Ad g 0)):=by simpa using hp
 simp[results,h,hp',asAddr,run_loadVar_row w g t ty cs fr d hg hu hd hi]
section
variable {W W2:WL}{tag:NN}{lv:Nat→Bool}{R:Nat→Rw}{mp:Nat→Option (Nat × List (Value × Value))}
theorem Sto.mark (h:Sto W tag lv R mp)(F:Fr [] W W2)(t:Nat):Sto W2 (newTag tag W.heap.size t) lv R mp∧Kp tag (newTag tag W.heap.size t) W W2:=⟨h.frm F t,Kp.of_fr F fun k hk=>newTag_old hk⟩
theorem Sto.app (h:Sto W tag lv R mp){X m j n z bytes T e:Nat}{zv sv:Value}{xs ys news:LV} (hi:(prog.info? e).map (fun i=>(i.zero,i.size,i.bytes))=some (some zv,z,bytes)) (hu:prog.underlying T=some (.slice e)) (hzs:zv.cells.size=z) (hz:0<z)
  (l10:lv 10=true) (r10:R 10=⟨.slice (some (Ad X 0)) 1 1,135,16,1,xs⟩) (hm:m≠10) (lm:lv m=true) (rm:R m=⟨sv,e,z,n,ys⟩) (hx:xs[j]?=some sv) (hj:j<16) (hn:n≤1000) (hb:bytes≤1000) (hnl:news.length=z) (hone:∀ u ∈ news,u.oneCell'=true) (F:Fr [] W W2) :
  ∃ so sc vo vc W4 t4,sv=.slice so n sc∧(Builtin.append_ #[T,T] T #[.slice so n sc,.slice (some (Ad W2.heap.size 0)) 1 1]).run prog (W2.alloc (.cells news.toArray e))=.ok (.slice vo (n+1:Nat) vc) W4∧W2.cell? (Ad X j)=some (.slice so n sc)∧W4.cell? (Ad X j)=some (.slice so n sc)∧W4.frozen? (Ad X j)=false ∧
   Sto (W4.setCell ⟨X,j,none⟩ (.slice vo (n+1:Nat) vc)) t4 lv (up (up R m ⟨.slice vo (n+1:Nat) vc,e,z,n+1,ys++news⟩) 10 ⟨.slice (some (Ad X 0)) 1 1,135,16,1,xs.set j (.slice vo (n+1:Nat) vc)⟩) mp∧Kp tag t4 W (W4.setCell ⟨X,j,none⟩ (.slice vo (n+1:Nat) vc))∧Kp (newTag tag W.heap.size 9) t4 W2 (W4.setCell ⟨X,j,none⟩ (.slice vo (n+1:Nat) vc)):=by
 obtain⟨i0,hi,hz0,hz1,hz2⟩:=info_parts hi;have o10:W.ownsRow 0 135 16 (.slice (some (Ad X 0)) 1 1) 1 xs:=by have:=(h.rows 10 l10).1;rw[r10] at this;exact this
 have om:W.ownsRow 0 e z sv n ys:=by have:=(h.rows m lm).1;rw[rm] at this;exact this
 obtain⟨so,sc,rfl⟩:=own_form om;have hXl:X<W.heap.size:=(o10.lt X rfl).2;obtain⟨S2,K2⟩:=h.mark F 9;have F3:Fr [] W2 (W2.alloc (.cells news.toArray e)):=(Fr.refl [] W2).alloc _;obtain⟨S3,K3⟩:=S2.mark F3 9;have hc:=cells_new W2 news.toArray e;generalize W2.alloc (.cells news.toArray e)=W3 at *;have om3:W3.ownsRow 0 e z (.slice so n sc) n ys:=by have:=(S3.rows m lm).1;rw[rm] at this;exact this
 obtain⟨v',W4,hr4,hown',hgrow,-,hwh⟩:=run_append_own_at (P:=prog) (w:=W3) 0 T T e i0 _ z bytes hu hi hz0 hz1 hz2 hzs hz _ _ _ om3 (Ad W2.heap.size 0) 1 1 news (by rw[Nat.one_mul];exact hnl) hc hone (by unfold maxLen;omega) (Nat.le_trans (Nat.mul_le_mul (show n+1≤1001 by omega) hb) (by decide)) (Nat.zero_le _);obtain⟨vo,vc,rfl⟩:=own_form hown';obtain⟨S4,K4⟩:=S3.grow (i:=m) lm hown' (by rw[rm];exact hgrow) (by rw[rm];exact hwh);have r10':up R m ⟨.slice vo (n+1) vc,e,z,n+1,ys++news⟩ 10=⟨.slice (some (Ad X 0)) 1 1,135,16,1,xs⟩:=by rw[up_off _ _ (by omega)];exact r10
 obtain⟨S5,K5⟩:=S4.put l10 r10' (j:=j) (by omega) (.slice vo (n+1) vc);have o4:W4.ownsRow 0 135 16 (.slice (some (Ad X 0)) 1 1) 1 xs:=by have:=(S4.rows 10 l10).1;rw[r10'] at this;exact this
 exact⟨so,sc,vo,vc,W4,_,rfl,hr4,(F.cell (p:=Ad X j) hXl (by simp)).trans (own_cell o10 hx),own_cell o4 hx,own_thaw o4 j,S5,((K2.trans K3).trans K4).trans K5,(K3.trans K4).trans K5⟩
end
end Go.Proofs.YtmolfmgchbjnbaaGreatDoor
