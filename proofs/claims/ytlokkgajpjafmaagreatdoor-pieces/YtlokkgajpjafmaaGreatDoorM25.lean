import Derived.Test.YtlokkgajpjafmaaGreatDoorM05
import Derived.Test.YtlokkgajpjafmaaGreatDoorM23
set_option linter.unusedSimpArgs false
set_option linter.unusedVariables false
set_option maxRecDepth 100000
set_option maxHeartbeats 40000000
open _root_.Go.Proofs.Tryz
namespace Go.Proofs.YtlokkgajpjafmaaGreatDoor
open Go.RowKit
open Wire Flow
def wdS (st:LN) (j:Nat):Nat:=pk ((st.drop (16*j)).take 16)
theorem G7 {st:LN}(h:∀ x,x ∈ st→x<16)(j:Nat):wdS st j<18446744073709551616:=by
 have h1:=aHl (s:=(st.drop (16*j)).take 16) (fun x hx=>h x (List.mem_of_mem_drop (List.mem_of_mem_take hx)));have h2:((st.drop (16*j)).take 16).length≤16:=by rw[List.length_take];omega
 have h3:16 ^ ((st.drop (16*j)).take 16).length≤16 ^ 16:=Nat.pow_le_pow_right (by omega) h2;have h4:(16:Nat) ^ 16=18446744073709551616:=by decide
 unfold wdS;omega
theorem X6 (st:LN){q:Nat}(hq:st.length / 16=q):wdS st q=pk (st.drop (16*q))∧(st.drop (16*q)).length=st.length % 16:=by
 have hl:(st.drop (16*q)).length=st.length % 16:=by rw[List.length_drop];omega
 refine⟨?_,hl⟩;unfold wdS;rw[List.take_of_length_le (by omega)]
theorem qA {st:LN}{x q:Nat} (hq:st.length / 16=q):wdS (st++[x]) q=pk (st.drop (16*q)++[x]):=by
 unfold wdS;rw[List.drop_append_of_le_length (by omega),List.take_of_length_le (by rw[Lla,List.length_drop];simp;omega)]
theorem rO {st:LN}{x j:Nat} (hj:j≠st.length / 16):wdS (st++[x]) j=wdS st j:=by
 unfold wdS;by_cases h:j<st.length / 16
 ·rw[List.drop_append_of_le_length (by omega),List.take_append_of_le_length (by rw[List.length_drop];omega)]
 have h1:st.length<16*j:=by omega
 rw[List.drop_eq_nil_of_le (show (st++[x]).length≤16*j by rw[Lla,List.length_singleton];omega),List.drop_eq_nil_of_le (show st.length≤16*j by omega)]
theorem aGu {P x n:Nat}(hP:P<2 ^ n)(hx:x<16)(hn:n+4≤64):(2 ^ n*x+P) &&& (2 ^ 64-(15*2 ^ n+1))=P:=by
 apply Nat.eq_of_testBit_eq;intro i;have h15:15*2 ^ n<2 ^ 64:=by
  have:2 ^ (n+4)≤2 ^ 64:=Nat.pow_le_pow_right (by omega) hn;rw[Nat.pow_add] at this;have h16:(2:Nat) ^ 4=16:=by decide
  have hp:0<2 ^ n:=Nat.two_pow_pos n;omega
 rw[Nat.testBit_and,Nat.testBit_two_pow_sub_succ h15,Nat.testBit_two_pow_mul_add _ hP,Nat.mul_comm 15,Nat.testBit_two_pow_mul];by_cases hi:i<n
 ·have:¬ n≤i:=by omega
  simp[hi,this];intro _;omega
 have hni:n≤i:=by omega
 have hPi:P.testBit i=false:=Nat.testBit_lt_two_pow (Nll hP (Nat.pow_le_pow_right (by omega) hni));rw[hPi];simp only[hi,if_false,hni,decide_true,Bool.true_and,Bool.and_eq_false_imp];intro hxb;have h4:i-n<4:=by
  rcases Nat.lt_or_ge (i-n) 4 with h | h
  ·exact h
  have:x.testBit (i-n)=false:=Nat.testBit_lt_two_pow (Nll hx (by
   have:(2:Nat) ^ 4≤2 ^ (i-n):=Nat.pow_le_pow_right (by omega) h;have h16:(2:Nat) ^ 4=16:=by decide
   omega))
  rw[this] at hxb;cases hxb
 have h15b:∀ k,k<4→Nat.testBit 15 k=true:=by decide
 rw[h15b _ h4];simp
theorem aHn (a:Nat)(h:a<18446744073709551616):(BitVec.ofInt 64 (a:Int)).toNat=a:=by
 rw[BitVec.toNat_ofInt];have:((a:Int) % (2 ^ 64:Nat))=a:=Int.emod_eq_of_lt (by omega) (by simp;omega);simp only[this];rfl
theorem j7 (a b:Nat)(ha:a<18446744073709551616)(hb:b<18446744073709551616):bits .andNot .u64 (a:Int) (b:Int)=((a &&& (2 ^ 64-(b+1)):Nat):Int):=by
 show IntKind.u64.wrap ((BitVec.ofInt 64 (a:Int) &&& ~~~BitVec.ofInt 64 (b:Int)).toNat:Int)=_;rw[BitVec.toNat_and,BitVec.toNat_not,aHn a ha,aHn b hb,show 2 ^ 64-1-b=2 ^ 64-(b+1) by omega];have h:a &&& (2 ^ 64-(b+1))≤a:=Nat.and_le_left;exact jV _ (by omega) (by omega)
theorem aDr:∀ x,x<16→∀ w,w<16→x &&& (255-w)=x &&& (w ^^^ 15):=by decide
theorem T9 (x w:Nat)(hx:x<16)(hw:w<16):bits .andNot .u8 (x:Int) (w:Int)=((x &&& (w ^^^ 15):Nat):Int):=by
 show IntKind.u8.wrap ((BitVec.ofInt 8 (x:Int) &&& ~~~BitVec.ofInt 8 (w:Int)).toNat:Int)=_;have e:∀ a:Nat,a<256→(BitVec.ofInt 8 (a:Int)).toNat=a:=fun a h=>by
  rw[BitVec.toNat_ofInt];have:((a:Int) % (2 ^ 8:Nat))=a:=Int.emod_eq_of_lt (by omega) (by simp;omega);simp only[this];rfl
 rw[BitVec.toNat_and,BitVec.toNat_not,e x (by omega),e w (by omega),show 2 ^ 8-1-w=255-w by omega,aDr x hx w hw];have h:x &&& (w ^^^ 15)≤x:=Nat.and_le_left;exact wraps_u8 _ (by omega) (by omega)
theorem aJf {A x r B:Nat}(hA:A<18446744073709551616)(hx:x<16)(hr:r<16)(hB:A ||| (x <<< (4*r))=B):bits .or .u64 (A:Int) (IntKind.u64.wrap ((x:Int)*2 ^ (r*4)))=(B:Int):=by
 have h1:(2:Nat) ^ (r*4)≤2 ^ 60:=Nat.pow_le_pow_right (by omega) (by omega);have h2:x*2 ^ (r*4)≤15*2 ^ 60:=Nat.mul_le_mul (by omega) h1;have h3:((x:Int)*2 ^ (r*4))=((x*2 ^ (r*4):Nat):Int):=by push_cast;rfl
 have h4:(15:Nat)*2 ^ 60<18446744073709551616:=by decide
 rw[h3,jV _ (by omega) (by omega),bits_or_u64_nat _ _ hA (by omega),← hB,Nat.shiftLeft_eq,Nat.mul_comm 4 r]
structure dA (w:WL) (sb:Nat) (st:LN) (wr:Bool):Prop where
 c0:w.cell? ⟨sb,0,none⟩=some (.int .i64 (st.length:Int))
 c1:w.cell? ⟨sb,1,none⟩=some (.bool wr)
 cw:∀ j,j<64→w.cell? ⟨sb,2+j,none⟩=some (.int .u64 (wdS st j:Nat))
 fz:∀ i,w.frozen? ⟨sb,i,none⟩=false
 hi:st.length≤1024
 sm:∀ x,x ∈ st→x<16
theorem dA.lt {w:WL}{sb:Nat}{st:LN}{wr:Bool} (h:dA w sb st wr):sb<w.heap.size:=aB (a:=Ad sb 0) h.c0
theorem dA.of_block {w w':WL}{sb:Nat}{st:LN}{wr:Bool} (h:dA w sb st wr) (hb:w'.heap[sb]?=w.heap[sb]?):dA w' sb st wr:=
 ⟨(World.cell?_of_block (w:=w) (a:=Ad sb 0) hb).trans h.c0,(World.cell?_of_block (w:=w) (a:=Ad sb 1) hb).trans h.c1,fun j hj=>(World.cell?_of_block (w:=w) (a:=Ad sb (2+j)) hb).trans (h.cw j hj),
   fun i=>(World.frozen?_of_block (w:=w) (a:=Ad sb i) hb).trans (h.fz i),h.hi,h.sm⟩
theorem dA.fr {S:LN}{w w':WL}{sb:Nat}{st:LN}{wr:Bool} (h:dA w sb st wr) (hf:Fr S w w') (hr:sb ∉ S):dA w' sb st wr:=h.of_block (hf.block sb h.lt hr)
theorem dA.setWrong {w:WL}{sb:Nat}{st:LN}{wr:Bool} (h:dA w sb st wr) (b:Bool):dA (w.setCell ⟨sb,1,none⟩ (.bool b)) sb st b:=
 ⟨(aA (by decide)).trans h.c0,World.cell?_setCell_same' _ _ _ (by rw[h.c1];rfl),fun j hj=>(aA (by omega)).trans (h.cw j hj),fun i=>by rw[wfz];exact h.fz i,h.hi,h.sm⟩
theorem aHk (w:WL)(sb:Nat)(st:LN)(wr:Bool)(x:Nat)(h:dA w sb st wr)(hx:x<16)(hl:st.length<1024) :
  Calls prog 193 #[.pointer (some (Ad sb 0)),.int .u8 x] w fun e w'=>e=.returned (.tuple #[])∧dA w' sb (st++[x]) wr∧Fr [sb] w w':=by
 have hm:=hmX
 have K:=h;obtain⟨c0,c1,cw,fz,hi,sm⟩:=h;obtain⟨n,hn⟩:∃ n:Nat,st.length=n:=⟨_,rfl⟩;rw[hn] at c0;obtain⟨q,hq⟩:∃ q:Nat,n / 16=q:=⟨_,rfl⟩;have hqI:(n:Int).tdiv 16=(q:Int):=by rw[Int.tdiv_eq_ediv_of_nonneg (by omega)];omega
 have hrI:(n:Int).tmod 16=((n % 16:Nat):Int):=by rw[Int.tmod_eq_emod_of_nonneg (by omega)];omega
 obtain⟨r,hr⟩:∃ r:Nat,n % 16=r:=⟨_,rfl⟩;rw[hr] at hrI;have g1:((n:Int)==1024)=false:=by simp;omega
 have cq:=cw q (by omega);have f0:=fz 0;have f2:=fz (2+q);obtain⟨e1,e2⟩:=X6 st (q:=q) (by omega);have hsm:∀ y,y ∈ st.drop (16*q)→y<16:=fun y hy=>sm y (List.mem_of_mem_drop hy);have e3:wdS st q ||| (x <<< (4*r))=wdS (st++[x]) q:=by
  rw[qA (by omega),e1,← aSp hsm,e2,show st.length % 16=r by omega]
 have hb:=aJf (G7 sm q) hx (by omega:r<16) e3;obtain⟨A,hA⟩:=eXi (wdS st q);obtain⟨B,hB⟩:=eXi (wdS (st++[x]) q);rw[hA] at cq hb;rw[hB] at hb;have Knew:dA ((w.setCell ⟨sb,2+q,none⟩ (.int .u64 (B:Int))).setCell ⟨sb,0,none⟩ (.int .i64 ((n:Int)+1))) sb (st++[x]) wr:=by
  refine⟨?_,?_,?_,?_,?_,?_⟩
  ·rw[World.cell?_setCell_same' _ _ _ (by rw[aA (by omega),c0];rfl)];simp[hn]
  ·rw[aA (by decide),aA (by omega)];exact c1
  ·intro j hj;rw[aA (by omega)];by_cases ej:j=q
   ·subst ej;rw[World.cell?_setCell_same' _ _ _ (by rw[cq];rfl),hB]
   rw[aA (by omega),rO (by omega)];exact cw j hj
  ·intro i;rw[wfz,wfz];exact fz i
  ·simp;omega
  intro y hy;rcases List.mem_append.1 hy with hy | hy
  ·exact sm y hy
  simp at hy;subst hy;exact hx
 have HK:Hid _:=Knew;clear Knew e3 e1 e2 hsm cw sm K hA hB fz c1;go_enter func193,ntmps193;go_wp2;go_region;have c0':(w.setCell ⟨sb,2+q,none⟩ (.int .u64 (B:Int))).cell? (Ad sb 0)=some (iA (n:Int)):=(aA (by omega)).trans c0;have f0':(w.setCell ⟨sb,2+q,none⟩ (.int .u64 (B:Int))).frozen? (Ad sb 0)=false:=by rw[wfz];exact f0
 go_wp2;go_end0;exact⟨rfl,HK.out.of_block rfl,(((Fr.refl [sb] w).setCell (p:=⟨sb,2+q,none⟩) (.inl (by simp)) _).setCell (p:=⟨sb,0,none⟩) (.inl (by simp)) _).drewN _⟩
theorem r5 (w:WL)(sb:Nat)(st:LN)(wr:Bool)(x:Nat)(h:dA w sb st wr)(hl:st.length=1024) :
  Calls prog 193 #[.pointer (some (Ad sb 0)),.int .u8 x] w fun e w'=>e=.returned (.tuple #[])∧dA w' sb st true∧Fr [sb] w w':=by
 have K:=h.setWrong true;obtain⟨c0,c1,cw,fz,hi,sm⟩:=h;rw[hl] at c0;have f1:=fz 1;clear cw sm fz;go_enter func193,ntmps193;go_wp2;refine bodyPost_ret (results_none rfl _ _ _) rfl ?_;exact⟨rfl,K,(Fr.refl [sb] w).setCell (p:=⟨sb,1,none⟩) (.inl (by simp)) _⟩
theorem aRu {st:LN}{x q:Nat} (h:∀ y,y ∈ st→y<16) (hx:x<16) (hq:st.length / 16=q) :
  wdS (st++[x]) q &&& (2 ^ 64-(15*2 ^ (st.length % 16*4)+1))=wdS st q∧wdS (st++[x]) q / 2 ^ (st.length % 16*4) % 16=x:=by
 obtain⟨e1,e2⟩:=X6 st hq;have hsm:∀ y,y ∈ st.drop (16*q)→y<16:=fun y hy=>h y (List.mem_of_mem_drop hy);have hlt:=aHl hsm;rw[qA hq,e1];have htop:=aWp (x:=x) hsm hx;rw[e2,Nat.shiftRight_eq_div_pow,Nat.mul_comm 4] at htop;refine⟨?_,htop⟩;rw[tN,e2] at *;rw[e2] at hlt;have hp:(16:Nat) ^ (st.length % 16)=2 ^ (st.length % 16*4):=by rw[aAj,Nat.mul_comm 4]
 rw[hp] at hlt ⊢;have hone:pk [x]=x:=by simp[pk]
 rw[hone,Nat.add_comm];exact aGu hlt hx (by omega)
theorem aNm {W n F Z:Nat}(hW:W<18446744073709551616)(hn:n+4≤64)(h1:W &&& (2 ^ 64-(15*2 ^ n+1))=Z)(h2:W / 2 ^ n % 16=F) :
  bits .andNot .u64 (W:Int) (IntKind.u64.wrap (15*2 ^ n))=(Z:Int)∧bits .and .u64 ((W:Int) / 2 ^ n) 15=(F:Int):=by
 have p1:(2:Nat) ^ n≤2 ^ 60:=Nat.pow_le_pow_right (by omega) (by omega);have p2:15*2 ^ n≤15*2 ^ 60:=Nat.mul_le_mul (by omega) p1;have p3:(15:Nat)*2 ^ 60<18446744073709551616:=by decide
 have p4:((15:Int)*2 ^ n)=((15*2 ^ n:Nat):Int):=by push_cast;rfl
 refine⟨?_,?_⟩
 ·rw[p4,jV _ (by omega) (by omega),j7 _ _ hW (by omega),h1]
 have p5:((W:Int) / 2 ^ n)=((W / 2 ^ n:Nat):Int):=by push_cast;rfl
 have p6:W / 2 ^ n≤W:=Nat.div_le_self _ _;have p7:=(bits_nat .u64 64 (by decide) (fun n a b=>jV n a (by simpa using b)) (W / 2 ^ n) 15 (by omega) (by decide)).1;rw[p5];refine p7.trans ?_;rw[show (15:Nat)=2 ^ 4-1 by rfl,Nat.and_two_pow_sub_one_eq_mod];rw[show (2:Nat) ^ 4=16 by rfl,h2]
theorem aAk (w:WL)(sb:Nat)(wr:Bool)(x:Nat)(h:dA w sb [] wr) :
  Calls prog 192 #[.pointer (some (Ad sb 0)),.int .u8 x] w fun e w'=>e=.returned (.int .u8 x)∧dA w' sb [] true∧Fr [sb] w w':=by
 have K:=h.setWrong true;obtain⟨c0,c1,cw,fz,hi,sm⟩:=h;have f1:=fz 1;clear cw sm fz;go_enter func192,ntmps192;go_wp2;go_ret;exact⟨rfl,K,(Fr.refl [sb] w).setCell (p:=⟨sb,1,none⟩) (.inl (by simp)) _⟩
theorem aNl (w:WL)(sb:Nat)(st:LN)(wr:Bool)(x k:Nat)(h:dA w sb (st++[x]) wr)(hk:k<16) :
  Calls prog 192 #[.pointer (some (Ad sb 0)),.int .u8 k] w fun e w'=>e=.returned (.int .u8 x)∧dA w' sb st (wr || decide (x &&& (k ^^^ 15)≠0))∧Fr [sb] w w':=by
 have hm:=hmX
 have K:=h;obtain⟨c0,c1,cw,fz,hi,sm⟩:=h;have hx:x<16:=sm x (by simp);have sm':∀ y,y ∈ st→y<16:=fun y hy=>sm y (by simp[hy]);obtain⟨n,hn⟩:∃ n:Nat,st.length=n:=⟨_,rfl⟩;have hl:(st++[x]).length=n+1:=by simp[hn]
 have hn':n<1024:=by omega
 have hq64:n / 16<64:=by omega
 rw[hl] at c0;rw[Int.natCast_add] at c0;obtain⟨q,hq⟩:∃ q:Nat,n / 16=q:=⟨_,rfl⟩;have hqI:(n:Int).tdiv 16=(q:Int):=by rw[Int.tdiv_eq_ediv_of_nonneg (by omega)];omega
 have hrI:(n:Int).tmod 16=((n % 16:Nat):Int):=by rw[Int.tmod_eq_emod_of_nonneg (by omega)];omega
 obtain⟨r,hr⟩:∃ r:Nat,n % 16=r:=⟨_,rfl⟩;rw[hr] at hrI;have g1:(((n:Int)+(1:Nat))==0)=false:=by simp;omega
 have cq:=cw q (by omega);obtain⟨b1,b2⟩:=aRu (q:=q) sm' hx (by omega);rw[hn,hr] at b1 b2;obtain⟨b3,b4⟩:=aNm (G7 sm q) (by omega) b1 b2;have b5:=T9 x k hx hk;have f0:=fz 0;have f1:=fz 1;have f2:=fz (2+q);obtain⟨A,hA⟩:=eXi (wdS (st++[x]) q);obtain⟨B,hB⟩:=eXi (wdS st q);rw[hA] at cq b3 b4;rw[hB] at b3;have Knew:∀ b:Bool,dA (((w.setCell ⟨sb,0,none⟩ (.int .i64 (n:Int))).setCell ⟨sb,2+q,none⟩ (.int .u64 (B:Int))).setCell ⟨sb,1,none⟩ (.bool b)) sb st b:=by
  intro b;refine⟨?_,?_,?_,?_,?_,?_⟩
  ·rw[aA (by decide),aA (by omega),World.cell?_setCell_same' _ _ _ (by rw[c0];rfl),hn]
  ·exact World.cell?_setCell_same' _ _ _ (by rw[aA (by omega),aA (by decide),c1];rfl)
  ·intro j hj;rw[aA (by omega)];by_cases ej:j=q
   ·subst ej;rw[World.cell?_setCell_same' _ _ _ (by rw[aA (by omega),cq];rfl),hB]
   rw[aA (by omega),aA (by omega),← rO (x:=x) (by omega)];exact cw j hj
  ·intro i;rw[wfz,wfz,wfz];exact fz i
  ·omega
  exact sm'
 have HK:Hid _:=Knew;clear Knew cw sm sm' K hA hB fz b1 b2 hl hi;have hq':q<64:=by omega
 clear hq64 hq;obtain⟨W1,hW1⟩:=eXi (w.setCell ⟨sb,0,none⟩ (.int .i64 (n:Int)));obtain⟨W2,hW2⟩:=eXi (W1.setCell ⟨sb,2+q,none⟩ (.int .u64 (B:Int)));have d0:W1.cell? (Ad sb 0)=some (iA (n:Int)):=by rw[← hW1];exact World.cell?_setCell_same' _ _ _ (by rw[c0];rfl)
 have dq:W1.cell? (Ad sb (2+q))=some (uA (A:Int)):=by rw[← hW1];exact (aA (by omega)).trans cq
 have d2:W1.frozen? (Ad sb (2+q))=false:=by rw[← hW1,wfz];exact f2
 have e1:W2.cell? (Ad sb 1)=some (.bool wr):=by rw[← hW2,← hW1];exact (aA (by omega)).trans ((aA (by decide)).trans c1)
 have e2:W2.frozen? (Ad sb 1)=false:=by rw[← hW2,← hW1,wfz,wfz];exact f1
 have F2:Fr [sb] w W2:=by rw[← hW2,← hW1];exact ((Fr.refl [sb] w).setCell (p:=⟨sb,0,none⟩) (.inl (by simp)) _).setCell (p:=⟨sb,2+q,none⟩) (.inl (by simp)) _
 rw[hW1,hW2] at HK;have hW1':Hid _:=hW1;have hW2':Hid _:=hW2;have hz:((((x &&& (k ^^^ 15):Nat):Int))!=0)=decide (x &&& (k ^^^ 15)≠0):=by
  by_cases e:x &&& (k ^^^ 15)=0
  ·rw[e];simp
  simp only[ne_eq,e,not_false_eq_true,decide_true,bne_iff_ne];omega
 generalize x &&& (k ^^^ 15)=z at *;clear hW1 hW2 c1 cq f1 f2;go_enter func192,ntmps192;go_wp2;rw[hW1'.out];clear c0 f0 hW1';go_region;go_wp2;go_region;rw[hW2'.out];clear d0 dq d2 hW2';cases wr with
 | true=>
  have hK:=HK.out true;go_wp2;go_ret;exact⟨rfl,hK.of_block rfl,(F2.setCell (p:=⟨sb,1,none⟩) (.inl (by simp)) _).drew.drew⟩
 | false=>
  have hK:=HK.out (!decide (z=0));go_wp2;go_ret;refine⟨rfl,?_,(F2.setCell (p:=⟨sb,1,none⟩) (.inl (by simp)) _).drew.drew⟩;rw[Bool.false_or,show decide (z≠0) = !decide (z=0) by simp];exact hK.of_block rfl
def cA (w:WL) (sb:Nat):Option (LN)→Prop
 | some st=>dA w sb st false
 | none=>∃ st,dA w sb st true
theorem cA.fr {S:LN}{w w':WL}{sb:Nat}{o:Option (LN)} (h:cA w sb o) (hf:Fr S w w') (hr:sb ∉ S):cA w' sb o:=by
 cases o with
 | some st=>exact dA.fr h hf hr
 | none=>obtain⟨st,h⟩:=h;exact⟨st,h.fr hf hr⟩
theorem cA.lt {w:WL}{sb:Nat}{o:Option (LN)} (h:cA w sb o):sb<w.heap.size:=by
 cases o with
 | some st=>exact dA.lt h
 | none=>obtain⟨st,h⟩:=h;exact h.lt
theorem sH (w:WL)(sb:Nat)(o:Option (LN))(k:Nat)(h:cA w sb o)(hk:k<16) :
  Calls prog 192 #[.pointer (some (Ad sb 0)),.int .u8 k] w fun e w'=>∃ y:Nat,e=.returned (.int .u8 y)∧y<16∧(∀ s x,o=some (s++[x])→y=x)∧cA w' sb (o.bind (sI k))∧Fr [sb] w w':=by
 cases o with
 | none=>
  obtain⟨st,h⟩:=h;by_cases h0:st=[]
  ·subst h0;refine (aAk w sb true k h).mono ?_;rintro e w' ⟨rfl,h1,f1⟩;exact⟨k,rfl,hk,fun s x hx=>(by cases hx),⟨[],h1⟩,f1⟩
  obtain⟨s,x,rfl⟩:=nD h0;have hx:=h.sm x (by simp);refine (aNl w sb s true x k h hk).mono ?_;rintro e w' ⟨rfl,h1,f1⟩;exact⟨x,rfl,hx,fun s x hx=>(by cases hx),⟨s,h1⟩,f1⟩
 | some st=>
  by_cases h0:st=[]
  ·subst h0;refine (aAk w sb false k h).mono ?_;rintro e w' ⟨rfl,h1,f1⟩;exact⟨k,rfl,hk,fun s x hx=>(by simp at hx),⟨[],h1⟩,f1⟩
  obtain⟨s,x,rfl⟩:=nD h0;have hx:=dA.sm h x (by simp);refine (aNl w sb s false x k h hk).mono ?_;rintro e w' ⟨rfl,h1,f1⟩;refine⟨x,rfl,hx,fun s' x' hx'=>?_,?_,f1⟩
  ·simp only[Option.some.injEq] at hx';exact (List.append_inj' hx' rfl).2 |> fun e=>by simpa using e
  simp only[Option.bind_some,gL];by_cases hz:x &&& (k ^^^ 15)=0
  ·rw[if_pos hz];have e:(false || decide (x &&& (k ^^^ 15)≠0))=false:=by simp[hz]
   rw[e] at h1;exact h1
  rw[if_neg hz];have e:(false || decide (x &&& (k ^^^ 15)≠0))=true:=by simp[hz]
  rw[e] at h1;exact⟨s,h1⟩
theorem oR (w:WL)(sb:Nat)(o:Option (LN))(x:Nat)(h:cA w sb o)(hx:x<16) :
  Calls prog 193 #[.pointer (some (Ad sb 0)),.int .u8 x] w fun e w'=>e=.returned (.tuple #[])∧cA w' sb (o.bind (dP x))∧Fr [sb] w w':=by
 cases o with
 | none=>
  obtain⟨st,h⟩:=h;by_cases hl:st.length=1024
  ·refine (r5 w sb st true x h hl).mono ?_;rintro e w' ⟨rfl,h1,f1⟩;exact⟨rfl,⟨st,h1⟩,f1⟩
  refine (aHk w sb st true x h hx (by have:=h.hi;omega)).mono ?_;rintro e w' ⟨rfl,h1,f1⟩;exact⟨rfl,⟨_,h1⟩,f1⟩
 | some st=>
  by_cases hl:st.length=1024
  ·refine (r5 w sb st false x h hl).mono ?_;rintro e w' ⟨rfl,h1,f1⟩;refine⟨rfl,?_,f1⟩;simp only[Option.bind_some,dP,if_pos hl];exact⟨st,h1⟩
  refine (aHk w sb st false x h hx (by have:=dA.hi h;omega)).mono ?_;rintro e w' ⟨rfl,h1,f1⟩;refine⟨rfl,?_,f1⟩;simp only[Option.bind_some,dP,if_neg hl];exact h1
def kL (l:BA):LN:=(bl l).map UInt8.toNat
theorem tT (l:BA):(kL l).length=l.size:=by unfold kL;rw[List.length_map,aO]
theorem aPe {l:BA}{i:Nat} (h:i<l.size):(kL l)[i]'(by rw[tT];exact h)=l[i].toNat:=by
 simp only[kL,List.getElem_map,bl,Array.getElem_toList];rfl
theorem I5 (a b:LN)(o:Option (LN)):o.bind (cO (a++b))=(o.bind (cO a)).bind (cO b):=by
 cases o with
 | none=>rfl
 | some st=>
  simp only[Option.bind_some];induction a generalizing st with
  | nil=>rfl
  | cons k a ih=>
   simp only[List.cons_append,cO];cases sI k st with
   | none=>rfl
   | some s=>simpa using ih s
theorem b9 (a b:LN)(o:Option (LN)):o.bind (cX (a++b))=(o.bind (cX a)).bind (cX b):=by
 cases o with
 | none=>rfl
 | some st=>
  simp only[Option.bind_some];induction a generalizing st with
  | nil=>rfl
  | cons k a ih=>
   simp only[List.cons_append,cX];cases dP k st with
   | none=>rfl
   | some s=>simpa using ih s
theorem aMi (k:Nat)(o:Option (LN)):o.bind (cO [k])=o.bind (sI k):=by
 cases o with
 | none=>rfl
 | some st=>simp only[Option.bind_some,cO];cases sI k st <;> rfl
theorem aKh (k:Nat)(o:Option (LN)):o.bind (cX [k])=o.bind (dP k):=by
 cases o with
 | none=>rfl
 | some st=>simp only[Option.bind_some,cX];cases dP k st <;> rfl
theorem aQh {l:LN}{i:Nat} (h:i<l.length):(l.drop i).reverse=(l.drop (i+1)).reverse++[l[i]]:=by
 rw[List.drop_eq_getElem_cons h,List.reverse_cons]
theorem aIs {l:LN}{i:Nat} (h:i<l.length):l.take (i+1)=l.take i++[l[i]]:=by
 rw[List.take_add_one,Lge h];rfl
theorem jY (w:WL)(sb:Nat)(o:Option (LN))(l:BA)(h:cA w sb o)(hl:l.size≤100000)(hk:∀ x,x ∈ kL l→x<16) :
  Calls prog 170 #[.pointer (some (Ad sb 0)),.string l] w fun e w'=>e=.returned (.tuple #[])∧cA w' sb (o.bind (cX (kL l)))∧Fr [sb] w w':=by
 have hL:=tT l;have hpush:=fun (W:WL) (q:Option (LN)) (x:Nat) (hW:cA W sb q) (hx:x<16)=>oR W sb q x hW hx;have HP:Hid _:=hpush;have hz:o.bind (cX ((kL l).take 0))=o:=by cases o <;> rfl
 have Hz:Hid _:=hz;clear hpush hz;go_enter func170,ntmps170;go_wp2
 go_loopw [7] (fun i W=>∃ k:Nat,k≤l.size∧i=iA k∧cA W sb (o.bind (cX ((kL l).take k)))∧Fr [sb] w W) (fun i _=>l.size-(intOf i).toNat)
 case atStart=>exact⟨0,by omega,rfl,by rw[Hz.out];exact h,Fr.refl [sb] w⟩
 case round=>
  clear Hz h;obtain⟨k,hks,rfl,K,F⟩:=hrel;by_cases hlt:k<l.size
  ·have g1:(k:Int)<l.size:=by omega
   have hg:=aPe hlt;have hx:=hk _ (List.getElem_mem (show k<(kL l).length by omega));rw[hg] at hx;have hs:=aIs (l:=kL l) (i:=k) (by omega);rw[hg] at hs;have hnext:o.bind (cX ((kL l).take (k+1)))=(o.bind (cX ((kL l).take k))).bind (dP l[k].toNat):=by rw[hs,b9,aKh]
   have HN:Hid _:=hnext;clear hnext hs hg;go_wp2_with fail;refine (HP.out _ _ _ K hx).mono ?_;rintro e w1 ⟨rfl,K1,F1⟩;rw[← HN.out] at K1;go_wp2;exact⟨⟨k+1,by omega,by go_num,K1,F.trans F1⟩,by simp[intOf];omega⟩
  obtain rfl:k=l.size:=by omega
  have g1:¬ (l.size:Int)<l.size:=by omega
  rw[List.take_of_length_le (by omega)] at K;go_wp2;go_end0;exact⟨rfl,K,F⟩
theorem mG (w:WL)(sb:Nat)(o:Option (LN))(l:BA)(h:cA w sb o)(hl:l.size≤100000)(hk:∀ x,x ∈ kL l→x<16) :
  Calls prog 194 #[.pointer (some (Ad sb 0)),.string l] w fun e w'=>e=.returned (.tuple #[])∧cA w' sb (o.bind (cO (kL l).reverse))∧Fr [sb] w w':=by
 have hL:=tT l;have hpop:=fun (W:WL) (q:Option (LN)) (x:Nat) (hW:cA W sb q) (hx:x<16)=>sH W sb q x hW hx;have HP:Hid _:=hpop;have hz:o.bind (cO ((kL l).drop l.size).reverse)=o:=by
  rw[List.drop_eq_nil_of_le (by omega)];cases o <;> rfl
 have Hz:Hid _:=hz;clear hpop hz;go_enter func194,ntmps194;go_wp2
 go_loopw [4] (fun i W=>∃ k:Nat,k≤l.size∧i=iA ((k:Int)-1)∧cA W sb (o.bind (cO ((kL l).drop k).reverse))∧Fr [sb] w W) (fun i _=>(intOf i+1).toNat)
 case atStart=>exact⟨l.size,by omega,rfl,by rw[Hz.out];exact h,Fr.refl [sb] w⟩
 case round=>
  clear Hz h;obtain⟨k,hks,rfl,K,F⟩:=hrel;by_cases hlt:0<k
  ·obtain⟨j,rfl⟩:∃ j,k=j+1:=⟨k-1,by omega⟩;have ej:(((j+1:Nat):Int)-1)=(j:Int):=by omega
   rw[ej];have g0:(j:Int) ≥ 0:=by omega
   have g1:(j:Int)<l.size:=by omega
   have hlt':j<l.size:=by omega
   have hg:=aPe hlt';have hx:=hk _ (List.getElem_mem (show j<(kL l).length by omega));rw[hg] at hx;have hs:=aQh (l:=kL l) (i:=j) (by omega);rw[hg] at hs;have hnext:o.bind (cO ((kL l).drop j).reverse)=(o.bind (cO ((kL l).drop (j+1)).reverse)).bind (sI l[j].toNat):=by rw[hs,I5,aMi]
   have HN:Hid _:=hnext;clear hnext hs hg ej;go_wp2_with fail;refine (HP.out _ _ _ K hx).mono ?_;rintro e w1 ⟨y,rfl,-,-,K1,F1⟩;rw[← HN.out] at K1;go_wp2;exact⟨⟨j,by omega,by go_num,K1,F.trans F1⟩,by simp[intOf]⟩
  obtain rfl:k=0:=by omega
  rw[List.drop_zero] at K;go_wp2;go_end0;exact⟨rfl,K,F⟩
theorem aNy (s t:LN)(n:Nat):(orL s t).drop n=orL (s.drop n) (t.drop n):=by unfold orL;rw[List.drop_zipWith]
theorem aNx (s t:LN)(n:Nat):(orL s t).take n=orL (s.take n) (t.take n):=by unfold orL;rw[List.take_zipWith]
theorem aWd {s t:LN}(hs:∀ x,x ∈ s→x<16)(ht:∀ x,x ∈ t→x<16)(hl:s.length=t.length)(j:Nat):wdS s j ||| wdS t j=wdS (orL s t) j:=by
 unfold wdS;rw[aNy,aNx,aYw]
 ·exact fun y hy=>hs y (List.mem_of_mem_drop (List.mem_of_mem_take hy))
 ·exact fun y hy=>ht y (List.mem_of_mem_drop (List.mem_of_mem_take hy))
 simp[hl]
theorem aJr {s t:LN}(hs:∀ x,x ∈ s→x<16)(ht:∀ x,x ∈ t→x<16):∀ x,x ∈ orL s t→x<16:=by
 intro x hx;unfold orL at hx;obtain⟨i,hi,rfl⟩:=List.mem_iff_getElem.1 hx;rw[List.getElem_zipWith];have h1:=hs _ (List.getElem_mem (l:=s) (n:=i) (by simp at hi;omega));have h2:=ht _ (List.getElem_mem (l:=t) (n:=i) (by simp at hi;omega));exact Nat.or_lt_two_pow (n:=4) h1 h2
theorem aRv {s t:LN}(hs:∀ x,x ∈ s→x<16)(ht:∀ x,x ∈ t→x<16)(hl:s.length=t.length)(h:∀ j,j<(s.length+15) / 16→wdS s j=wdS t j):s=t:=by
 apply List.ext_getElem hl;intro i h1 h2;have hj:=h (i / 16) (by omega);unfold wdS at hj;have e:=aWq (s:=(s.drop (16*(i / 16))).take 16) (t:=(t.drop (16*(i / 16))).take 16) (fun y hy=>hs y (List.mem_of_mem_drop (List.mem_of_mem_take hy))) (fun y hy=>ht y (List.mem_of_mem_drop (List.mem_of_mem_take hy))) (by simp[hl]) hj;have e2:=congrArg (fun l=>l[i % 16]?) e;simp only[List.getElem?_take,List.getElem?_drop] at e2;have hm:i % 16<16:=by omega
 rw[if_pos hm,if_pos hm,show 16*(i / 16)+i % 16=i by omega] at e2;rw[Lge h1,Lge h2] at e2;simpa using e2
structure aRo (w:WL) (sb:Nat) (s u:LN) (wr:Bool) (i:Nat):Prop where
 c0:w.cell? ⟨sb,0,none⟩=some (.int .i64 (s.length:Int))
 c1:w.cell? ⟨sb,1,none⟩=some (.bool wr)
 cw:∀ j,j<64→w.cell? ⟨sb,2+j,none⟩=some (.int .u64 ((if j<i then wdS u j else wdS s j:Nat):Int))
 fz:∀ i,w.frozen? ⟨sb,i,none⟩=false
theorem aOo (w:WL)(sb ob:Nat)(s t:LN)(wg wr2:Bool)(hS:dA w sb s wg)(hT:dA w ob t wr2)(hl:s.length=t.length)(hne:sb≠ob) :
  Calls prog 143 #[.pointer (some (Ad sb 0)),.pointer (some (Ad ob 0))] w fun e w'=>e=.returned (.bool (decide (orL s t≠s)))∧dA w' sb (orL s t) wg∧Fr [sb] w w':=by
 have hm:=hmX
 have hhi:=hS.hi;obtain⟨n,hn⟩:=eXi (s.length);obtain⟨m,hmm⟩:=eXi ((n+15) / 16);have hmI:((n:Int)+15).tdiv 16=(m:Int):=by rw[Int.tdiv_eq_ediv_of_nonneg (by omega)];omega
 have hmI2:((n:Int)+16-1).tdiv 16=(m:Int):=by rw[show (n:Int)+16-1=(n:Int)+15 by omega];exact hmI
 have hor:=fun j=>aWd hS.sm hT.sm hl j;have hlt:=fun j=>G7 hS.sm j;have hlt2:=fun j=>G7 hT.sm j;have hsm:=aJr hS.sm hT.sm;have hol:(orL s t).length=s.length:=xX hl;have hinj:=aRv hS.sm hsm hol.symm;obtain⟨u,hu⟩:=eXi (orL s t);rw[hu] at hor hsm hol hinj ⊢;have c0:=hS.c0;rw[hn] at c0;have M0:aRo w sb s u wg 0:=⟨hS.c0,hS.c1,fun j hj=>by rw[if_neg (by omega)];exact hS.cw j hj,hS.fz⟩;have hzero:∀ j,m≤j→wdS u j=wdS s j:=fun j hj=>by
  unfold wdS;rw[List.drop_eq_nil_of_le (by omega),List.drop_eq_nil_of_le (by omega)]
 have HT:Hid (∀ W:WL,Fr [sb] w W→∀ j,j<64→W.cell? (Ad ob (2+j))=some (uA (wdS t j:Nat))):=fun W hW j hj=>(hW.cell (p:=Ad ob (2+j)) hT.lt (by simpa using fun e=>hne e.symm)).trans (hT.cw j hj);have HB:Hid (∀ j,bits .or .u64 (wdS s j:Int) (wdS t j:Int)=(wdS u j:Int)):=fun j=>by rw[bits_or_u64_nat _ _ (hlt j) (hlt2 j),hor j]
 have HI:Hid ((∀ j,j<m→wdS u j=wdS s j)↔u=s):=⟨fun h=>(hinj (fun j hj=>(h j (by omega)).symm)).symm,fun h j _=>by rw[h]⟩;have HZ:Hid _:=hzero;have HL:Hid _:=AI hol hsm;clear hS hT hor hlt hlt2 hsm hol hinj hzero hu hl;go_enter func143,ntmps143;go_wp2
 go_loopw [5,15] (fun ch i W=>∃ (k:Nat) (c:Bool),k≤m∧i=iA k∧ch=.bool c∧aRo W sb s u wg k∧Fr [sb] w W∧Hid (c=true↔∃ j,j<k∧wdS u j≠wdS s j)) (fun _ i _=>m-(intOf i).toNat)
 case atStart=>exact⟨0,false,by omega,rfl,rfl,M0,Fr.refl [sb] w,⟨fun h=>(by cases h),fun ⟨j,hj,_⟩=>absurd hj (by omega)⟩⟩
 case round=>
  clear M0;obtain⟨k,c,hk,rfl,rfl,M,F,Hc⟩:=hrel;have M':=M;obtain⟨d0,d1,dw,dz⟩:=M;by_cases hlt:k<m
  ·have g1:(k:Int)<m:=by omega
   have hk64:k<64:=by omega
   have e1:=dw k hk64;rw[if_neg (by omega)] at e1;have e2:=HT.out _ F k hk64;have e3:=HB.out k;have e4:=dz (2+k);obtain⟨A,hA⟩:=eXi (wdS s k);obtain⟨B,hB⟩:=eXi (wdS t k);obtain⟨C,hC⟩:=eXi (wdS u k);rw[hA] at e1 e3;rw[hB] at e2 e3;rw[hC] at e3;have hbne:((C:Int)!=(A:Int))=decide (C≠A):=by
    by_cases q:C=A
    ·subst q;simp
    simp only[ne_eq,q,not_false_eq_true,decide_true,bne_iff_ne];omega
   have Knew:aRo (wr.setCell ⟨sb,2+k,none⟩ (.int .u64 (C:Int))) sb s u wg (k+1):=by
    refine⟨(aA (by omega)).trans d0,(aA (by omega)).trans d1,fun j hj=>?_,fun i=>by rw[wfz];exact dz i⟩;by_cases ej:j=k
    ·subst ej;rw[World.cell?_setCell_same' _ _ _ (by rw[e1];rfl),if_pos (by omega),hC]
    rw[aA (by omega),dw j hj];by_cases hjk:j<k
    ·rw[if_pos hjk,if_pos (by omega)]
    rw[if_neg hjk,if_neg (by omega)]
   have hcnew:∀ c2:Bool,(c2=true↔c=true∨C≠A)→(c2=true↔∃ j,j<k+1∧wdS u j≠wdS s j):=fun c2 h2=>by
    rw[h2,Hc.out];constructor
    ·rintro (⟨j,h3,h4⟩ | h3)
     ·exact⟨j,by omega,h4⟩
     exact⟨k,by omega,by rw[hC,hA];exact h3⟩
    rintro ⟨j,h3,h4⟩;by_cases ej:j=k
    ·subst ej;rw[hC,hA] at h4;exact .inr h4
    exact .inl ⟨j,by omega,h4⟩
   have HK:Hid _:=Knew;have HN:Hid _:=hcnew;clear Knew hcnew hA hB hC d0 d1 dw dz M' HT HB HI HZ HL Hc;cases c with
   | true=>
    go_wp2;go_region;go_wp2;refine⟨⟨k+1,true,by omega,by go_num,rfl,⟨HK.out.c0,HK.out.c1,HK.out.cw,HK.out.fz⟩,(F.setCell (p:=⟨sb,2+k,none⟩) (.inl (by simp)) _).drew,HN.out true (by simp)⟩,by simp[intOf];omega⟩
   | false=>
    go_wp2;go_region;go_wp2;refine⟨⟨k+1,!decide (C=A),by omega,by go_num,rfl,⟨HK.out.c0,HK.out.c1,HK.out.cw,HK.out.fz⟩,(F.setCell (p:=⟨sb,2+k,none⟩) (.inl (by simp)) _).drew,HN.out _ (by simp)⟩,by simp[intOf];omega⟩
  obtain rfl:k=m:=by omega
  have g1:¬ (k:Int)<k:=by omega
  have Kend:dA wr sb u wg:=by
   obtain⟨q1,q2⟩:=HL.out;refine⟨by rw[q1];exact d0,d1,fun j hj=>?_,dz,by omega,q2⟩;rw[dw j hj];by_cases hjk:j<k
   ·rw[if_pos hjk]
   rw[if_neg hjk,HZ.out j (by omega)]
  have hc:c=decide (u≠s):=by
   rw[Bool.eq_iff_iff,Hc.out,decide_eq_true_eq,ne_eq,← HI.out];constructor
   ·rintro ⟨j,h1,h2⟩ h3;exact h2 (h3 j h1)
   intro h3;apply Classical.byContradiction;intro h4;apply h3;intro j hj;apply Classical.byContradiction;intro h5;exact h4 ⟨j,hj,h5⟩
  have HE:Hid _:=hc;clear hc Hc HL HZ HI HB HT M' d0 d1 dw dz;go_wp2;go_ret;refine⟨?_,Kend,F⟩;have hE:c = !decide (u=s):=by rw[HE.out];simp
  rw[← hE];rfl
def aVq (o:Option Nat):Int:=match o with | some k=>(k:Int) | none=>-1
theorem aOz {G:List (Option (LB))}{k:Nat}{st:LB} (h:G[k]?=some none):laid G k st=G.set k (some st):=by unfold laid;rw[h]
structure zE (m:Mo) (s:Stp):Prop where
 op:s.op<54
 pr:s.op=44→s.a≤1000
 ca:s.op=50→s.a<m.fns.length
 aa:s.a≤34359738368
structure bAd (m:Mo):Prop where
 n:m.fns.length≤1000
 p:∀ x ∈ m.fns,0≤x.params∧x.params≤8∧0≤x.locs∧x.locs≤1000∧x.code.size≤20000
theorem vQ {l:List Stp}{p k:Nat} (h:eW l p=some k):k<l.length:=by
 induction l generalizing k with
 | nil=>simp[eW] at h
 | cons s l ih=>
  rw[eW] at h;split at h
  ·cases h;simp
  cases hq:eW l p with
  | none=>rw[hq] at h;simp at h
  | some q=>
   rw[hq] at h;simp only[Option.map_some,Option.some.injEq] at h;have:=ih hq;simp only[List.length_cons];omega
def aVx (G:List (Option (LB))) (i:Int) (st:LB):Prop:=(i<0∨(G.length:Int)≤i)∨∃ k:Nat,i=k∧∃ t,G[k]?=some (some t)∧t.length≠st.length
theorem aXu {par:NN}{l:List Stp}{G:List (Option (LB))} (h:Low par l G) {i:Nat}{st o r:LB}{s:Stp} (hi:G[i]?=some (some st)) (hs:l[i]?=some s)
  (ha:after par s.op s.a st=some (o,r)) (hf:far s.op=true) (hn:aVx G (aVq (eW l s.a)) r):¬ Flow.Safe par l:=by
 intro hS;have hS0:=hS;obtain⟨T,hT⟩:=hS;obtain⟨o',r',ha',h1,-⟩:=h.says hi hs hT;obtain⟨k,hk,-⟩:=h1 hf;have hkl:=vQ hk;rw[hk] at hn;unfold aVq at hn;rcases hn with hn | ⟨k',e,t,ht,hne⟩
 ·have:=h.size;simp only at hn;omega
 simp only at e;obtain rfl:k=k':=by omega
 exact h.farHigh hi hs ha hf hk ht hne hS0
theorem aSv {par:NN}{l:List Stp}{G G1:List (Option (LB))} (h:Low par l G) (h1:Low par l G1) {i:Nat}{st o r:LB}{s:Stp} (hi:G[i]?=some (some st)) (hs:l[i]?=some s)
  (ha:after par s.op s.a st=some (o,r)) (hf:dS s.op=false) (hn:aVx G1 ((i:Int)+1) o):¬ Flow.Safe par l:=by
 have hil:=(Lgs.1 hs).1;rcases hn with hn | ⟨k',e,t,ht,hne⟩
 ·have:=h1.size;exact h.nextEnd hi hs hf (by omega)
 obtain rfl:k'=i+1:=by omega
 exact h.nextHigh h1 hi hs ha hf ht hne
theorem qZ {G:List (Option (LB))}{k:Nat}{st:LB} (h0:G[0]?=some (some [])) (hh:∀ t,G[k]?=some (some t)→t.length=st.length):(laid G k st)[0]?=some (some []):=
 aFd h0 fun e=>by
  subst e
  have:=hh [] h0
  exact List.length_eq_zero_iff.1 this.symm
theorem aPk:(prog.info? 4).map (fun i=>(i.zero,i.size,i.bytes))=some (some (.bool false),1,1):=by kernel_rfl
theorem aTa (n:Nat)(hn:n≤100000)(W:WL):(Instr.makeSlice 158 (iA (n:Int)) (iA (n:Int))).run prog W=.ok (.slice (some (Ad W.heap.size 0)) n n) (W.alloc (.cells (madeCells #[.bool false] n) 4)):=by
 obtain⟨i0,hi,hz0,hz1,hz2⟩:=info_parts aPk;have:=run_make (P:=prog) W 158 4 i0 (.bool false) underlying158 hi hz0 .i64 .i64 n n (by omega) (by omega) (by rw[hz2];omega) (by omega);simp only[Int.toNat_natCast,hz1,Nat.mul_one] at this;exact this
theorem Y6 {n:Nat}(h:0<n):(laid (List.replicate n (none:Option (LB))) 0 [])[0]?=some (some []):=by
 have h0:(List.replicate n (none:Option (LB)))[0]?=some none:=by rw[List.getElem?_replicate,if_pos h]
 rw[aOz h0];simp[h]
structure zH (m:Mo):Prop where
 f:bAd m
 t:m.texts.length≤1000
 p:m.pats.length≤1000
 g:0≤m.globs∧m.globs≤1000
 a:0≤m.arrs∧m.arrs≤1000
theorem aIc {c:BA}{i:Nat} (h:i<c.size):(bl c).getD i 0=c[i]:=by
 have hL:=aO c;rw[List.getD_eq_getElem?_getD,Lge (by omega),Option.getD_some];simp only[bl,Array.getElem_toList];rfl
theorem fA {w:WL}{g i:Nat}{cs:Array Value}{t:TypeId}{fr:Nat × Nat}{v:Value} (hg:w.heap[g]?=some (.cells cs t fr)) (hv:cs[i]?=some v):w.setCell ⟨g,i,none⟩ v=w:=by
 have hlt:g<w.heap.size:=(Age.1 hg).1;have hv1:w.heap[g]=.cells cs t fr:=(Age.1 hg).2;have hi:i<cs.size:=(Age.1 hv).1;have hc:cs.setIfInBounds i v=cs:=by
  apply Array.ext
  ·simp
  intro k h1 h2;rw[Array.getElem_setIfInBounds];split
  ·rename_i e
   subst e;exact ((Age.1 hv).2).symm
  rfl
 have hh:(w.heap.modify g fun | .cells c elem frozen=>.cells (if (none:Option Nat).isSome then c else c.setIfInBounds i v) elem frozen | o=>o)=w.heap:=by
  apply Array.ext
  ·simp
  intro k h1 h2;rw[Array.getElem_modify];split
  ·rename_i e
   subst e;rw[hv1];simp[hc]
  rfl
 exact congrArg (fun h=>({ w with heap:=h }:WL)) hh
-- CUT
theorem aV {W:WL}{x z i:Nat}{v:Value} (h:x≠z):(W.setCell ⟨z,i,none⟩ v).heap[x]?=W.heap[x]?:=by
 unfold World.setCell;simp only[Array.getElem?_modify];rw[if_neg (fun e=>h e.symm)]
theorem xO {W:WL}{z i:Nat}{cs:Array Value}{t:TypeId}{v:Value} (h:W.heap[z]?=some (.cells cs t)):(W.setCell ⟨z,i,none⟩ v).heap[z]?=some (.cells (cs.setIfInBounds i v) t):=by
 unfold World.setCell;simp only[Array.getElem?_modify];rw[if_pos trivial,h];rfl
structure pX {α:Type} (e:TypeId) (k:Nat) (cs:α→LV) (w0:WL) (L:List α) (v:Value) (W:WL):Prop where
 own:W.ownsRow w0.heap.size e k v L.length (L.flatMap cs)
 fr:Fr [] w0 W
theorem pX.start {α:Type}{e:TypeId}{k:Nat}{cs:α→LV}{w0 w1:WL} (hf:Fr [] w0 w1):pX e k cs w0 [] (.slice none 0 0) w1:=⟨World.ownsRow_nil _ _ _ _,hf⟩
theorem pX.kept {α:Type}{e:TypeId}{k:Nat}{cs:α→LV}{w0:WL}{L:List α}{v:Value}{W W':WL} (h:pX e k cs w0 L v W) (hf:Fr [] W W'):pX e k cs w0 L v W':=⟨aEs h.own hf (by simp),h.fr.trans hf⟩
theorem aKv {w0 W W':WL}{e:TypeId}{size n:Nat}{xs:LV}{v:Value} (h:W.ownsRow w0.heap.size e size v n xs) (hf:Fr [] w0 W) (hg:W.grownBy W' v.ownBlock):Fr [] w0 W':=by
 refine⟨hg.os.trans hf.os,hg.tape.trans hf.tape,hg.output.trans hf.output,Nat.le_trans hf.size hg.size,fun k hk hn=>?_⟩;have h1:=hf.size;rw[hg.block k (by omega) (fun e=>by have:=(h.lt k e.symm).1;omega),hf.block k hk hn]
theorem pX.grown {α:Type}{e:TypeId}{k:Nat}{cs:α→LV}{w0:WL}{L:List α}{v v':Value}{W W':WL}{s:α} (h:pX e k cs w0 L v W) (hown:W'.ownsRow w0.heap.size e k v' (L.length+1) (L.flatMap cs++cs s)) (hg:W.grownBy W' v.ownBlock):pX e k cs w0 (L++[s]) v' W':=
 ⟨by rw[Lla,List.flatMap_append];simpa using hown,aKv h.own h.fr hg⟩
theorem pX.form {α:Type}{e:TypeId}{k:Nat}{cs:α→LV}{w0:WL}{L:List α}{v:Value}{W:WL} (h:pX e k cs w0 L v W):∃ a0 cap,v=.slice a0 L.length cap:=by
 rcases h.own.2 with ⟨hv,h0⟩ | ⟨g,cap,cur,hv,_⟩
 ·exact⟨none,0,by rw[hv,h0]⟩
 exact⟨_,cap,hv⟩
theorem aUs {α:Type}{k:Nat}{cs:α→LV} (hk:∀ x,(cs x).length=k) (L:List α) (i t:Nat) (f:α) (hi:L[i]?=some f) (ht:t<k):(L.flatMap cs)[i*k+t]?=(cs f)[t]?:=by
 induction L generalizing i with
 | nil=>cases hi
 | cons a L ih=>
  rw[List.flatMap_cons];cases i with
  | zero=>
   simp at hi;subst hi;rw[List.getElem?_append_left (by rw[hk];omega)];simp
  | succ i=>
   have e1:(i+1)*k+t=i*k+t+k:=by rw[Nat.succ_mul];omega
   rw[List.getElem?_append_right (by rw[hk,e1];omega)];have e:(i+1)*k+t-(cs a).length=i*k+t:=by rw[hk,e1];omega
   rw[e];exact ih i (by simpa using hi)
theorem pX.cells {α:Type}{e:TypeId}{k:Nat}{cs:α→LV} (hk:∀ x,(cs x).length=k) {w0:WL}{L:List α}{v:Value}{W:WL} (h:pX e k cs w0 L v W) :
  ∃ (a0:OA) (cap g:Nat),v=.slice a0 L.length cap∧L.length≤cap∧(0<L.length→a0=some (Ad g 0)∧g<W.heap.size∧w0.heap.size≤g) ∧
   ∀ (i:Nat) (x:α) (t:Nat) (u:Value),L[i]?=some x→t<k→(cs x)[t]?=some u→W.cell? (Ad g (i*k+t))=some u:=by
 rcases h.own.2 with ⟨hv,h0⟩ | ⟨g,cap,cur,hv,hb,hg,hn,_⟩
 ·have hL:=List.eq_nil_of_length_eq_zero h0;subst hL;exact⟨none,0,0,hv,Nat.le_refl _,fun h=>absurd h (Nat.lt_irrefl _),(fun i x _ _ hx=>by cases hx)⟩
 refine⟨some (Ad g 0),cap,g,hv,hn,fun _=>⟨rfl,(Age.1 hg).1,hb⟩,fun i x t u hx ht hu=>?_⟩;have hc:=h.own.cells (g:=g) (by rw[hv];rfl) (i*k+t) u ((aUs hk L i t x hx ht).trans hu);simp only[nU] at hc;exact hc
theorem N6 {m:Mo}{locs:Nat}{c:LB}{sort i n j:Nat} (h:iT m locs c sort i=some (n,j)):n<34359738368:=by
 unfold iT at h;split at h
 ·cases h
 ·rename_i n' r hn
  split at h
  ·simp only[Option.some.injEq,Prod.mk.injEq] at h;obtain⟨rfl,rfl⟩:=h;exact (aBb hn).2
  cases h
theorem aFz {m:Mo}{f locs:Nat}{c:LB}{i:Nat}{s:Stp} (h:bH m f locs c i=.inr s):zE m s:=by
 unfold bH at h;split at h
 ·rename_i hm
  have h54:=oY hm;split at h
  ·rename_i hz
   simp only[Sum.inr.injEq] at h;subst h;refine⟨h54,fun e=>?_,fun e=>?_,by simp⟩
   ·simp only at e;rw[e] at hz;exact absurd hz (by decide)
   simp only at e;rw[e] at hz;exact absurd hz (by decide)
  split at h
  ·cases h
  ·rename_i n j hop
   have h1:=fS hop;have h2:=N6 hop;have key:∀ k b,zE m ⟨i,k,(c.getD i 0).toNat,n,b⟩:=fun k b=>by
    refine⟨h54,fun e=>?_,fun e=>?_,by simp only;omega⟩
    ·simp only at e;rw[e] at h1;have h3:=h1.2.2;unfold pE at h3;simp only[Bool.and_eq_true,decide_eq_true_eq] at h3;have h4:=h3.2;rw[show eP.getD 44 0=8 from rfl] at h4;simp only[dQ] at h4;simp only[Nat.reduceEqDiff,if_true,if_false] at h4;simp only;omega
    simp only at e;rw[e] at h1;have h3:=h1.2.2;unfold pE at h3;simp only[Bool.and_eq_true,decide_eq_true_eq] at h3;have h4:=h3.2;rw[show eP.getD 50 0=9 from rfl] at h4;simp only[dQ] at h4;simp only[Nat.reduceEqDiff,if_true,if_false] at h4;exact h4
   split at h
   ·split at h
    ·cases h
    simp only[Sum.inr.injEq] at h;subst h;exact key _ _
   simp only[Sum.inr.injEq] at h;subst h;exact key _ _
 cases h
theorem cF.ok {m:Mo}{f locs:Nat}{c:LB}{i j:Nat}{l:List Stp} (h:cF m f locs c i l j):∀ s ∈ l,zE m s:=by
 induction l generalizing i with
 | nil=>intro s hs;cases hs
 | cons a l ih=>
  intro s hs;rcases List.mem_cons.1 hs with rfl | hs
  ·exact aFz h.2.1
  exact ih h.2.2 s hs
theorem cF.pls {m:Mo}{f locs:Nat}{c:LB}{i j:Nat}{l:List Stp} (h:cF m f locs c i l j):∀ s ∈ l,s.pl<c.length:=by
 induction l generalizing i with
 | nil=>intro s hs;cases hs
 | cons a l ih=>
  intro s hs;rcases List.mem_cons.1 hs with rfl | hs
  ·have:=(cE h.1 h.2.1).1;have:=h.1;omega
  exact ih h.2.2 s hs
theorem qF {l:List Wire.Fn}{i:Nat} (h:aS l i=true):∀ x ∈ l,0≤x.params∧x.params≤8∧0≤x.locs∧x.locs≤16∧x.code.size≤20000:=by
 induction l generalizing i with
 | nil=>intro x hx;cases hx
 | cons a l ih=>
  simp only[aS,Bool.and_eq_true] at h;intro x hx;rcases List.mem_cons.1 hx with rfl | hx
  ·have:=h.1;simp only[fO,Bool.and_eq_true,decide_eq_true_eq] at this;obtain⟨⟨⟨⟨⟨h1,h2⟩,h3⟩,h4⟩,h5⟩,-⟩:=this;exact⟨h1,h2,by omega,h4,h5⟩
  exact ih h.2 x hx
theorem fB {ip:BA→Bool}{m:Mo} (h:dI ip m=true):zH m∧3≤m.fns.length:=by
 simp only[dI,Bool.and_eq_true,decide_eq_true_eq] at h;obtain⟨⟨⟨⟨⟨⟨⟨⟨⟨⟨h1,h2⟩,h3⟩,h4⟩,h5⟩,h6⟩,h7⟩,h8⟩,-⟩,-⟩,h9⟩:=h;refine⟨⟨⟨h4,fun x hx=>?_⟩,h1,h2,⟨h5,h6⟩,⟨h7,h8⟩⟩,h3⟩;obtain⟨a,b,c,d,e⟩:=qF h9 x hx;exact⟨a,b,c,by omega,e⟩
def j8 (m:Mo) (k p e:Nat):Prop:=∃ x,m.fns[k]?=some x∧tJ (Mach.parOf m) m k x.locs.toNat (bl x.code) p e
def uE (m:Mo) (f p e:Nat):Prop:=
 (f=0∧p=0∧e=0∧∀ k,k<m.fns.length→∃ q,j8 m k q 0)∨(e≠0∧j8 m f p e∧∀ k,k<f→∃ q,j8 m k q 0)
open Wire Flow Mach
theorem O3 (f op:Nat)(w:WL)(hf:f≤2000000)(ho:op<256):Calls prog 97 #[iA f,.int .u8 op] w fun e w'=>e=.returned (.bool (fT f op))∧w'=w:=by
 have hd:∀ a b:Nat,decide ((a:Int)<(b:Int))=decide (a<b):=fun a b=>decide_eq_decide.2 (by omega);by_cases e1:op=51
 ·subst e1;have hr:fT f 51 = !decide (f<3):=by
   unfold fT;by_cases h:f<3
   ·rw[decide_eq_true h];rfl
   rw[decide_eq_false h];rfl
  rw[hr];have h3:decide ((f:Int)<3)=decide (f<3):=hd f 3;generalize decide (f<3)=b at *;go_enter func97,ntmps97;go_wp2;go_ret;exact⟨rfl,rfl⟩
 by_cases e2:op=52
 ·subst e2;have hr:fT f 52=decide (f<3):=by
   unfold fT;by_cases h:f<3
   ·rw[decide_eq_true h,decide_eq_false (show ¬ 3≤f by omega)];rfl
   rw[decide_eq_false h,decide_eq_true (show 3≤f by omega)];rfl
  rw[hr];have h3:decide ((f:Int)<3)=decide (f<3):=hd f 3;generalize decide (f<3)=b at *;go_enter func97,ntmps97;go_wp2;go_ret;exact⟨rfl,rfl⟩
 have hr:fT f op=decide ((op:Int)≤53):=by
  unfold fT;rw[decide_eq_false e1,decide_eq_false e2];simp only[Bool.false_and,Bool.not_false,Bool.and_true,decide_eq_decide];omega
 have q1:((op:Int)==51)=false:=by simp;omega
 have q2:((op:Int)==52)=false:=by simp;omega
 rw[hr];generalize hq:decide ((op:Int)≤53)=b;clear hd hr;go_enter func97,ntmps97;go_wp2;go_ret;exact⟨rfl,rfl⟩
theorem mS (n:Int)(w:WL)(hn:-5000000≤n∧n≤5000000):Calls prog 149 #[iA n] w fun e w'=>e=.returned (.agg #[iA 0,iA (n-1)])∧Fr [] w w':=by
 obtain⟨W1,hW1⟩:=eXi (w.alloc (.cells #[iA 0,iA (n-1)] 173));have F1:=frA hW1
 have k1:=kA hW1;have a0:W1.cell? (Ad w.heap.size 0)=some (iA 0):=cof k1 rfl;have a1:W1.cell? (Ad w.heap.size 1)=some (iA (n-1)):=cof k1 rfl;have HF:Hid _:=F1;clear F1 k1;go_enter func149,ntmps149;go_wp2;refine bodyPost_ret (v:=.agg #[iA 0,iA (n-1)]) (by simp[results,results149,go_sem,a0,a1]) rfl ?_;exact⟨rfl,HF.out⟩
def rD (m:Mo) (locs op:Nat):List (Int × Int):=
 if eP.getD op 0=0 then [] else if op=38 then [(0,m.arrs-1),(0,(m.pats.length:Int)-1)]
 else [((low (eP.getD op 0):Int),(dQ m locs (eP.getD op 0):Int)-1)]
def uF (W:WL) (v:Value) (l:List (Int × Int)):Prop:=
 (l=[]∧v=.slice none 0 0)∨∃ g,v=.slice (some ⟨g,0,none⟩) l.length l.length∧g<W.heap.size ∧
  ∀ (i:Nat) (x:Int × Int),l[i]?=some x→W.cell? ⟨g,i*2,none⟩=some (.int .i64 x.1)∧W.cell? ⟨g,i*2+1,none⟩=some (.int .i64 x.2)
theorem aDk (W:WL)(a b:Int):uF (W.alloc (.cells #[iA a,iA b] 173)) (.slice (some (Ad W.heap.size 0)) 1 1) [(a,b)]:=by
 have k1:=wan W (.cells #[iA a,iA b] 173);refine .inr ⟨_,rfl,by simp,fun i x hi=>?_⟩;cases i with
 | zero=>
  simp at hi;subst hi;unfold World.cell?;rw[k1];exact⟨rfl,rfl⟩
 | succ i=>simp at hi
theorem N4 (tv pv:Value)(m:Mo)(w:WL)(f L op:Nat)(fg fo nf cap:Nat)(hf:f<nf)(hn:nf=m.fns.length)(hfg:fg<w.heap.size)(hl:w.cell? (Ad fg (fo+f*3+1))=some (iA (L:Nat)))(hL:L≤1000)(hMo:zH m)(ho:(op=0∨op=44∨op=17∨op=48∨op=49∨op=50)∨op=1∨op=3∨op=4∨op=5∨op=6∨op=11∨op=12∨op=13∨op=14∨op=15∨op=16∨op=35∨op=36∨op=37)
  (ta pa:OA) (tc pc:Nat) (htv:tv=.slice ta m.texts.length tc) (hpv:pv=.slice pa m.pats.length pc) :
  Calls prog 98 #[.agg #[tv,pv,iA m.globs,iA m.arrs,.slice (some (Ad fg fo)) nf cap],iA f,.int .u8 op] w fun e w'=>∃ v,e=.returned v∧Fr [] w w'∧uF w' v (rD m L op):=by
 subst htv;subst hpv;obtain⟨hg,ha⟩:=AI hMo.g hMo.a;have ht:=hMo.t;have hp:=hMo.p;have hfn:=hMo.f.n;have g2:(f:Int)<(nf:Int):=by omega
 have hn1000:nf≤1000:=by omega
 obtain⟨W1,hW1⟩:=eXi (w.alloc (.cells #[.slice ta m.texts.length tc,.slice pa m.pats.length pc,iA m.globs,iA m.arrs,.slice (some (Ad fg fo)) nf cap] 25));have F1:=frA hW1
 have k1:=kA hW1;have a0:W1.cell? (Ad w.heap.size 0)=some (.slice ta m.texts.length tc):=cof k1 rfl;have a1:W1.cell? (Ad w.heap.size 1)=some (.slice pa m.pats.length pc):=cof k1 rfl;have a2:W1.cell? (Ad w.heap.size 2)=some (iA m.globs):=cof k1 rfl;have a3:W1.cell? (Ad w.heap.size 3)=some (iA m.arrs):=cof k1 rfl;have a4:W1.cell? (Ad w.heap.size 4)=some (.slice (some (Ad fg fo)) nf cap):=cof k1 rfl;have a5:=(F1.cell (p:=Ad fg (fo+f*3+1)) hfg (by simp)).trans hl;have HF:Hid _:=F1;have HB:Hid _:=fun n (h:-5000000≤n∧n≤5000000)=>mS n W1 h;clear F1 k1 hl hMo hfn;have HN:Hid _:=hn;clear hn;rcases ho with ho | ho
 ·rcases ho with rfl | rfl | rfl | rfl | rfl | rfl
  all_goals
   go_enter func98,ntmps98;go_wp2;go_ret;refine⟨_,rfl,HF.out.trans ((Fr.refl [] W1).alloc _),?_⟩;refine Eq.mpr (congrArg _ ?_) (aDk _ _ _);simp[rD,eP,low,dQ,HN.out]
 rcases ho with rfl | rfl | rfl | rfl | rfl | rfl | rfl | rfl | rfl | rfl | rfl | rfl | rfl | rfl
 all_goals
  go_enter func98,ntmps98;go_wp2_with fail;refine (HB.out _ ?hb).mono ?_
  case hb=>omega
  rintro e w2 ⟨rfl,F2⟩;clear a0 a1 a2 a3 a4 a5;go_wp2;go_ret;refine⟨_,rfl,(HF.out.trans F2).trans ((Fr.refl [] w2).alloc _),?_⟩;refine Eq.mpr (congrArg _ ?_) (aDk _ _ _);simp[rD,eP,low,dQ,HN.out]
  try omega
theorem zY (tv pv:Value)(m:Mo)(w:WL)(f L op:Nat)(fg fo nf cap:Nat)(hf:f<nf)(hn:nf=m.fns.length)(hfg:fg<w.heap.size)(hl:w.cell? (Ad fg (fo+f*3+1))=some (iA (L:Nat)))(hL:L≤1000)(hMo:zH m)(ho:op<54)(hz:eP.getD op 0=0)
  (ta pa:OA) (tc pc:Nat) (htv:tv=.slice ta m.texts.length tc) (hpv:pv=.slice pa m.pats.length pc) :
  Calls prog 98 #[.agg #[tv,pv,iA m.globs,iA m.arrs,.slice (some (Ad fg fo)) nf cap],iA f,.int .u8 op] w fun e w'=>∃ v,e=.returned v∧Fr [] w w'∧uF w' v (rD m L op):=by
 subst htv;subst hpv;obtain⟨hg,ha⟩:=AI hMo.g hMo.a;have ht:=hMo.t;have hp:=hMo.p;have hfn:=hMo.f.n;have g2:(f:Int)<(nf:Int):=by omega
 have hn1000:nf≤1000:=by omega
 obtain⟨W1,hW1⟩:=eXi (w.alloc (.cells #[.slice ta m.texts.length tc,.slice pa m.pats.length pc,iA m.globs,iA m.arrs,.slice (some (Ad fg fo)) nf cap] 25));have F1:=frA hW1
 have k1:=kA hW1;have a0:W1.cell? (Ad w.heap.size 0)=some (.slice ta m.texts.length tc):=cof k1 rfl;have a1:W1.cell? (Ad w.heap.size 1)=some (.slice pa m.pats.length pc):=cof k1 rfl;have a2:W1.cell? (Ad w.heap.size 2)=some (iA m.globs):=cof k1 rfl;have a3:W1.cell? (Ad w.heap.size 3)=some (iA m.arrs):=cof k1 rfl;have a4:W1.cell? (Ad w.heap.size 4)=some (.slice (some (Ad fg fo)) nf cap):=cof k1 rfl;have a5:=(F1.cell (p:=Ad fg (fo+f*3+1)) hfg (by simp)).trans hl;have HF:Hid _:=F1;have HB:Hid _:=fun n (h:-5000000≤n∧n≤5000000)=>mS n W1 h;clear F1 k1 hl hMo hfn;have hne:∀ k,k<54→eP.getD k 0≠0→((op:Int)==(k:Int))=false:=fun k hk h=>by
  simp only[beq_eq_false_iff_ne,ne_eq];intro e;have:op=k:=by omega
  subst this;exact h hz
 have q0:((op:Int)==0)=false:=hne 0 (by decide) (by decide);have q1:((op:Int)==1)=false:=hne 1 (by decide) (by decide);have q3:((op:Int)==3)=false:=hne 3 (by decide) (by decide);have q4:((op:Int)==4)=false:=hne 4 (by decide) (by decide);have q5:((op:Int)==5)=false:=hne 5 (by decide) (by decide);have q6:((op:Int)==6)=false:=hne 6 (by decide) (by decide);have q11:((op:Int)==11)=false:=hne 11 (by decide) (by decide);have q12:((op:Int)==12)=false:=hne 12 (by decide) (by decide);have q13:((op:Int)==13)=false:=hne 13 (by decide) (by decide);have q14:((op:Int)==14)=false:=hne 14 (by decide) (by decide);have q15:((op:Int)==15)=false:=hne 15 (by decide) (by decide);have q16:((op:Int)==16)=false:=hne 16 (by decide) (by decide);have q17:((op:Int)==17)=false:=hne 17 (by decide) (by decide);have q35:((op:Int)==35)=false:=hne 35 (by decide) (by decide);have q36:((op:Int)==36)=false:=hne 36 (by decide) (by decide);have q37:((op:Int)==37)=false:=hne 37 (by decide) (by decide);have q38:((op:Int)==38)=false:=hne 38 (by decide) (by decide);have q44:((op:Int)==44)=false:=hne 44 (by decide) (by decide);have q48:((op:Int)==48)=false:=hne 48 (by decide) (by decide);have q49:((op:Int)==49)=false:=hne 49 (by decide) (by decide);have q50:((op:Int)==50)=false:=hne 50 (by decide) (by decide);have hr:rD m L op=[]:=by unfold rD;rw[if_pos hz]
 rw[hr];clear hr hne hz HB hn;go_enter func98,ntmps98;go_wp2;go_ret;exact⟨_,rfl,HF.out,.inl ⟨rfl,rfl⟩⟩
theorem aRb (W:WL)(a b c d:Int):uF (W.alloc (.cells #[iA a,iA b,iA c,iA d] 173)) (.slice (some (Ad W.heap.size 0)) 2 2) [(a,b),(c,d)]:=by
 have k1:=wan W (.cells #[iA a,iA b,iA c,iA d] 173)
 refine .inr ⟨_,rfl,by simp,fun i x hi=>?_⟩
 unfold World.cell?
 rw[k1]
 match i,hi with
 | 0,hi=>
  simp at hi
  subst hi
  exact⟨rfl,rfl⟩
 | 1,hi=>
  simp at hi
  subst hi
  exact⟨rfl,rfl⟩
 | i+2,hi=>simp at hi
theorem zX (tv pv:Value)(m:Mo)(w:WL)(f L op:Nat)(fg fo nf cap:Nat)(hf:f<nf)(hn:nf=m.fns.length)(hfg:fg<w.heap.size)(hl:w.cell? (Ad fg (fo+f*3+1))=some (iA (L:Nat)))(hL:L≤1000)(hMo:zH m)(ho:op=38)
  (ta pa:OA) (tc pc:Nat) (htv:tv=.slice ta m.texts.length tc) (hpv:pv=.slice pa m.pats.length pc) :
  Calls prog 98 #[.agg #[tv,pv,iA m.globs,iA m.arrs,.slice (some (Ad fg fo)) nf cap],iA f,.int .u8 op] w fun e w'=>∃ v,e=.returned v∧Fr [] w w'∧uF w' v (rD m L op):=by
 subst htv;subst hpv;obtain⟨hg,ha⟩:=AI hMo.g hMo.a;have ht:=hMo.t;have hp:=hMo.p;have hfn:=hMo.f.n;have g2:(f:Int)<(nf:Int):=by omega
 have hn1000:nf≤1000:=by omega
 obtain⟨W1,hW1⟩:=eXi (w.alloc (.cells #[.slice ta m.texts.length tc,.slice pa m.pats.length pc,iA m.globs,iA m.arrs,.slice (some (Ad fg fo)) nf cap] 25));have F1:=frA hW1
 have k1:=kA hW1;have a0:W1.cell? (Ad w.heap.size 0)=some (.slice ta m.texts.length tc):=cof k1 rfl;have a1:W1.cell? (Ad w.heap.size 1)=some (.slice pa m.pats.length pc):=cof k1 rfl;have a2:W1.cell? (Ad w.heap.size 2)=some (iA m.globs):=cof k1 rfl;have a3:W1.cell? (Ad w.heap.size 3)=some (iA m.arrs):=cof k1 rfl;have a4:W1.cell? (Ad w.heap.size 4)=some (.slice (some (Ad fg fo)) nf cap):=cof k1 rfl;have a5:=(F1.cell (p:=Ad fg (fo+f*3+1)) hfg (by simp)).trans hl;have HF:Hid _:=F1;have HB:Hid _:=fun n (h:-5000000≤n∧n≤5000000)=>mS n W1 h;clear F1 k1 hl hMo hfn;subst ho;have hm:=hmX
 have hr:rD m L 38=[(0,m.arrs-1),(0,(m.pats.length:Int)-1)]:=by
  unfold rD;rw[if_neg (by decide),if_pos rfl]
 rw[hr];have HB1:Hid _:=fun (W:WL)=>mS m.arrs W (by omega);have HB2:Hid _:=fun (W:WL)=>mS (m.pats.length:Int) W (by omega);have hSt:∀ W,Fr [] W1 W→(fun w1:WL=>w1.cell? (Ad w.heap.size 1)=some (.slice pa m.pats.length pc)∧w1.cell? (Ad w.heap.size 3)=some (iA m.arrs)) W:=fun W hW=>by
  have kl:=aB a1;exact⟨(hW.cell (p:=Ad w.heap.size 1) kl (by simp)).trans a1,(hW.cell (p:=Ad w.heap.size 3) kl (by simp)).trans a3⟩
 have HSt:Hid _:=hSt;clear hr hn HB hSt;go_enter func98,ntmps98;go_wp2_with fail;refine aI (fun w1:WL=>w1.cell? (Ad w.heap.size 1)=some (.slice pa m.pats.length pc)∧w1.cell? (Ad w.heap.size 3)=some (iA m.arrs)) hm ?_;have hS:(fun w1:WL=>w1.cell? (Ad w.heap.size 1)=some (.slice pa m.pats.length pc)∧w1.cell? (Ad w.heap.size 3)=some (iA m.arrs)) W1.drew:=HSt.out W1 (Fr.refl [] W1);refine wpAnyH_take (i:=0) (v:=?_) rfl (by kernel_rfl) (by kernel_rfl) (by kernel_rfl) (fun _ _ _ h=>h) (.inl ⟨rfl,fun w1 hS1=>?_⟩) hS ?_;rotate_left
 ·obtain⟨p0,p1⟩:=hS1;go_simp
  first | rfl | (refine (if_neg (by omega)).trans ?_;rfl)
 simp only[Act.put,Zp,Zq];refine wpAnyH_take (i:=1) (v:=?_) rfl (by kernel_rfl) (by kernel_rfl) (by kernel_rfl) (fun _ _ _ h=>h) (.inl ⟨rfl,fun w1 hS1=>?_⟩) hS ?_;rotate_left
 ·obtain⟨p0,p1⟩:=hS1;go_simp
  first | rfl | (refine (if_neg (by omega)).trans ?_;rfl)
 simp only[Act.put,Zp,Zq];refine wpAnyH_take (i:=3) (v:=?_) rfl (by kernel_rfl) (by kernel_rfl) (by kernel_rfl) (fun _ _ _ h=>h) (.inl ⟨rfl,fun w1 hS1=>?_⟩) hS ?_;rotate_left
 ·obtain⟨p0,p1⟩:=hS1;go_simp
  first | rfl | (refine (if_neg (by omega)).trans ?_;rfl)
 simp only[Act.put,Zp,Zq];refine wpAnyH_take (i:=4) (v:=?_) rfl (by kernel_rfl) (by kernel_rfl) (by kernel_rfl) (fun _ _ _ h=>h) (.inl ⟨rfl,fun w1 hS1=>?_⟩) hS ?_;rotate_left
 ·obtain⟨p0,p1⟩:=hS1;go_simp
  first | rfl | (refine (if_neg (by omega)).trans ?_;rfl)
 simp only[Act.put,Zp,Zq];refine wpAnyH_take (i:=5) (v:=?_) rfl (by kernel_rfl) (by kernel_rfl) (by kernel_rfl) (fun _ _ _ h=>h) (.inl ⟨rfl,fun w1 hS1=>?_⟩) hS ?_;rotate_left
 ·obtain⟨p0,p1⟩:=hS1;go_simp
  first | rfl | (refine (if_neg (by omega)).trans ?_;rfl)
 simp only[Act.put,Zp,Zq];refine rd1 (r:=2) (by kernel_rfl) rfl fun K hK=>?_;go_simp;refine (HB1.out _).mono ?_;rintro e W2 ⟨rfl,F2'⟩;have F2:Fr [] W1 W2:=(Fr.refl [] W1).drew.trans F2';refine hK _ _ (HSt.out W2 F2) ?_;clear hK K;intro _;refine rd1 (r:=6) (by kernel_rfl) rfl fun K hK=>?_;go_simp;refine (HB2.out _).mono ?_;rintro e W3 ⟨rfl,F3'⟩;have F3:Fr [] W1 W3:=F2.trans F3';refine hK _ _ (HSt.out W3 F3) ?_;clear hK K;intro _;refine rd1 (r:=7) (by kernel_rfl) rfl fun K hK=>?_;go_simp;refine hK _ _ (HSt.out _ (F3.alloc _)) ?_;clear hK K;intro _;refine rd1 (r:=8) (by kernel_rfl) rfl fun K hK=>?_;go_simp;refine hK _ _ (HSt.out _ (F3.alloc _)) ?_;clear hK K;intro _;refine wpAnyH_done (by kernel_rfl) ?_ _;go_wp2;go_ret;exact⟨_,rfl,(HF.out.trans F3).trans ((Fr.refl [] W3).alloc _),aRb _ _ _ _ _⟩
theorem aIv:∀ op,op<54→eP.getD op 0≠0→op ∈ [0,1,3,4,5,6,11,12,13,14,15,16,17,35,36,37,38,44,48,49,50]:=by decide
theorem N5 (mv:Value)(m:Mo)(w:WL)(f op:Nat)(x:Wire.Fn)(hM:gY w mv m)(hMo:zH m)(hx:m.fns[f]?=some x)(ho:op<54) :
  Calls prog 98 #[mv,iA f,.int .u8 op] w fun e w'=>∃ v,e=.returned v∧Fr [] w w'∧uF w' v (rD m x.locs.toNat op):=by
 obtain⟨tv,pv,fv,rfl,h1,h2,h3⟩:=hM.is;obtain⟨ta,tc,-,-,ht,-⟩:=h1;obtain⟨pa,pc,-,-,hp,-⟩:=h2;obtain⟨a0,cap,g,off,rfl,hc,hx0,hxx⟩:=h3;have hf:=(Lgs.1 hx).1;obtain⟨c0,c1,c2⟩:=hxx f x hx;have hpp:=hMo.f.p x (List.mem_of_getElem? hx);obtain⟨rfl,hgl⟩:=hx0 (by omega);have c1':w.cell? (Ad g (off+f*3+1))=some (iA (x.locs.toNat:Nat)):=by rw[c1];congr 2;omega
 have hL:x.locs.toNat≤1000:=by omega
 by_cases hz:eP.getD op 0=0
 ·exact zY tv pv m w f _ op g off _ cap hf rfl hgl c1' hL hMo ho hz ta pa tc pc ht hp
 have hm:=aIv op ho hz;simp only[List.mem_cons,List.not_mem_nil,or_false] at hm;by_cases e:op=38
 ·exact zX tv pv m w f _ op g off _ cap hf rfl hgl c1' hL hMo e ta pa tc pc ht hp
 exact N4 tv pv m w f _ op g off _ cap hf rfl hgl c1' hL hMo (by omega) ta pa tc pc ht hp
end Go.Proofs.YtlokkgajpjafmaaGreatDoor
