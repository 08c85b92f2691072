import Derived.Test.YtmolfmgchbjnbaaGreatDoorM24
import Derived.Test.YtmolfmgchbjnbaaGreatDoorM05
set_option linter.unusedSimpArgs false
set_option linter.unusedVariables false
set_option maxRecDepth 100000
set_option maxHeartbeats 40000000
open _root_.Go.Proofs.Tryz
namespace Go.Proofs.YtmolfmgchbjnbaaGreatDoor
open Go.RowKit
open Wire Flow
structure NwX where
 tv:Value
 pv:Value
 fv:Value
 rv:Value
 dv:Value
 gv:Value
 av:Value
def nwC (x:NwX):LV:=[x.tv,x.pv,x.fv,x.rv,x.dv,.int .i64 0,.string ⟨#[]⟩,.slice none 0 0,x.gv,x.av,.int .i64 0,.slice none 0 0,.int .i64 0,.int .i64 0,.string ⟨#[]⟩,.int .i64 0]
def lvN (i:Nat):Bool:=decide (i=10∨(12≤i∧i≤17))
def avN (ka:Nat) (A:NN) (i:Nat):LV:=[if i<ka then .map (some (A i)) else .map none,.slice none 0 0]
def fvN (E:Mach.Env) (code:Nat→Value × List Stp) (f:Nat):LV:=[.int .i64 (Mach.parOf E.mo f:Nat),(code f).1]
def RN (E:Mach.Env) (X:Nat) (x:NwX) (recs:LY) (draws:List Int) (kr kp kf ka:Nat) (pb A:NN) (code:Nat→Value × List Stp) (i:Nat):Rw:=
 if i=10 then ⟨.slice (some ⟨X,0,none⟩) 1 1,135,16,1,nwC x⟩
 else if i=12 then ⟨x.gv,221,3,E.mo.globs.toNat,rng E.mo.globs.toNat fun _=>vC Mach.nothing⟩
 else if i=13 then ⟨x.av,146,2,E.mo.arrs.toNat,rng E.mo.arrs.toNat (avN ka A)⟩
 else if i=14 then ⟨x.rv,9,1,kr,(recs.take kr).map .string⟩
 else if i=15 then ⟨x.pv,136,1,kp,rng kp fun i=>[ptr (pb i)]⟩
 else if i=16 then ⟨x.fv,143,2,kf,rng kf (fvN E code)⟩
 else ⟨x.dv,3,1,draws.length,draws.map (.int .i64)⟩
def mpN (ka:Nat) (A:NN) (i:Nat):Option (Nat × List (Value × Value)):=if 20≤i∧i<20+2*ka∧i % 2=0 then some (A ((i-20) / 2),[]) else none
structure Nw (E:Mach.Env) (W0:WL) (t0:NN) (X:Nat) (recs:LY) (draws:List Int) (x:NwX) (kr kp kf ka:Nat) (pb A:NN) (code:Nat→Value × List Stp) (w:WL) (tag:NN):Prop where
 S:Sto w tag lvN (RN E X x recs draws kr kp kf ka pb A code) (mpN ka A)
 K:Kp t0 tag W0 w
 pat:∀ i,i<kp→∃ t,E.mo.pats[i]?=some t∧pb i<w.heap.size∧tag (pb i)=9∧PatG E w (pb i) t
 cod:∀ f,f<kf→CodeM E.mo w tag f (code f).1 (code f).2
section
variable {E:Mach.Env}{W0 w w' W2:WL}{t0 tag tag':NN}{X:Nat}{recs:LY}{draws:List Int}{x x':NwX}{kr kr' kp kf ka ka':Nat}{pb A A':NN}{code:Nat→Value × List Stp}
theorem Nw.turn (h:Nw E W0 t0 X recs draws x kr kp kf ka pb A code w tag)(S:Sto w' tag' lvN (RN E X x' recs draws kr' kp kf ka' pb A' code) (mpN ka' A'))(K:Kp tag tag' w w'):Nw E W0 t0 X recs draws x' kr' kp kf ka' pb A' code w' tag' where
 S:=S
 K:=h.K.trans K
 pat:=fun i hi=>by
  obtain⟨t,h1,h2,h3,h4⟩:=h.pat i hi
  exact⟨t,h1,Nll h2 K.size,(K.ret _ h2).trans h3,h4.of_block (K.blk _ h2 (by omega))⟩
 cod:=fun f hf=>(h.cod f hf).kp K
theorem Nw.fr (h:Nw E W0 t0 X recs draws x kr kp kf ka pb A code w tag)(F:Fr [] w w'):Nw E W0 t0 X recs draws x kr kp kf ka pb A code w' (newTag tag w.heap.size 9):=h.turn (h.S.mark F 9).1 (h.S.mark F 9).2
theorem info80:(prog.info? 136).map (fun i=>(i.zero,i.size,i.bytes))=some (some (.pointer none),1,8):=by kernel_rfl
theorem info87:(prog.info? 143).map (fun i=>(i.zero,i.size,i.bytes))=some (some (.agg #[iA 0,.slice none 0 0]),2,32):=by kernel_rfl
def AppP (X j T e n:Nat) (news:LV) (sv:Value) (W2:WL) (N:Value→WL→Prop):Prop:=
 ∃ so sc vo vc W4,sv=.slice so n sc∧(Builtin.append_ #[T,T] T #[.slice so n sc,.slice (some ⟨W2.heap.size,0,none⟩) 1 1]).run prog (W2.alloc (.cells news.toArray e))=.ok (.slice vo (n+1:Nat) vc) W4∧W2.cell? ⟨X,j,none⟩=some (.slice so n sc)∧W4.cell? ⟨X,j,none⟩=some (.slice so n sc)∧W4.frozen? ⟨X,j,none⟩=false∧N (.slice vo (n+1:Nat) vc) (W4.setCell ⟨X,j,none⟩ (.slice vo (n+1:Nat) vc))
theorem Nw.rec_ (h:Nw E W0 t0 X recs draws x kr kp kf ka pb A code w tag)(F:Fr [] w W2){s:BA}(hs:recs[kr]?=some s)(hk:kr≤1000) :
  AppP X 3 22 9 kr [.string s] x.rv W2 (fun v W5=>∃ t5,Nw E W0 t0 X recs draws { x with rv:=v } (kr+1) kp kf ka pb A code W5 t5):=by
 obtain⟨so,sc,vo,vc,W4,t4,h1,h2,h3,h4,h5,h6,h7,h8⟩:=h.S.app (X:=X) (m:=14) (j:=3) (T:=22) infoA9 underlying22 rfl (by decide) rfl rfl (by decide) rfl rfl rfl (by decide) hk (by decide) (news:=[.string s]) rfl (by intro u hu;simp at hu;subst hu;rfl) F;refine⟨so,sc,vo,vc,W4,h1,h2,h3,h4,h5,t4,h.turn (h6.same fun i hi=>?_) h7⟩;have hi':i=10∨(12≤i∧i≤17):=by simpa [lvN] using hi
 by_cases e1:i=10
 ·subst e1;rw[up_same];rfl
 rw[up_off _ _ e1];by_cases e2:i=14
 ·subst e2;rw[up_same];show Rw.mk _ 9 1 (kr+1) ((recs.take (kr+1)).map .string)=_;rw[List.take_add_one,hs];simp
 rw[up_off _ _ e2];unfold RN;rw[if_neg e1,if_neg e1,if_neg e2,if_neg e2]
theorem Nw.cod_ (h:Nw E W0 t0 X recs draws x kr kp kf ka pb A code w tag)(F:Fr [] w W2){c:Value × List Stp}{cg cn cc:Nat} (hc:c.1=.slice (some (Ad cg 0)) cn cc) (hC:CodeM E.mo W2 (newTag tag w.heap.size 9) kf c.1 c.2) (hk:kf≤1000) :
  AppP X 2 130 143 kf [iA (Mach.parOf E.mo kf:Nat),c.1] x.fv W2 (fun v W5=>∃ t5 code',Nw E W0 t0 X recs draws { x with fv:=v } kr kp (kf+1) ka pb A code' W5 t5):=by
 obtain⟨so,sc,vo,vc,W4,t4,h1,h2,h3,h4,h5,h6,h7,h8⟩:=h.S.app (X:=X) (m:=16) (j:=2) (T:=130) info87 underlying130 rfl (by decide) rfl rfl (by decide) rfl rfl rfl (by decide) hk (by decide) (news:=[iA (Mach.parOf E.mo kf:Nat),c.1]) rfl (by intro u hu;simp at hu;rcases hu with rfl | rfl;rfl;rw[hc];rfl) F;refine⟨so,sc,vo,vc,W4,h1,h2,h3,h4,h5,t4,up code kf c,h6.same fun i hi=>?_,h.K.trans h7,fun i hi=>?_,fun f hf=>?_⟩
 ·have hi':i=10∨(12≤i∧i≤17):=by simpa [lvN] using hi
  by_cases e1:i=10
  ·subst e1;rw[up_same];rfl
  rw[up_off _ _ e1];by_cases e2:i=16
  ·subst e2;rw[up_same];show Rw.mk _ 143 2 (kf+1) (rng (kf+1) (fvN E (up code kf c)))=_;rw[rng_succ,rng_congr (g:=fvN E code) fun j hj=>by unfold fvN;rw[up_off _ _ (by omega)]];unfold fvN;rw[up_same]
  rw[up_off _ _ e2];unfold RN;rw[if_neg e1,if_neg e1,if_neg e2,if_neg e2]
 ·obtain⟨t,g1,g2,g3,g4⟩:=h.pat i hi;exact⟨t,g1,Nll g2 h7.size,(h7.ret _ g2).trans g3,g4.of_block (h7.blk _ g2 (by omega))⟩
 by_cases e:f=kf
 ·subst e;rw[up_same];exact hC.kp h8
 rw[up_off _ _ e];exact (h.cod f (by omega)).kp h7
theorem Nw.arr_ (h:Nw E W0 t0 X recs draws x kr kp kf ka pb A code w tag)(F:Fr [] w W2){b:Nat}(hb:w.heap.size≤b)(hM:MapAt W2 b []){ga cap:Nat}(hav:x.av=.slice (some (Ad ga 0)) E.mo.arrs.toNat cap)(hk:ka<E.mo.arrs.toNat) :
  ∃ t5 A',Nw E W0 t0 X recs draws x kr kp kf (ka+1) pb A' code ((W2.setCell ⟨ga,ka*2,none⟩ (.map (some b))).setCell ⟨ga,ka*2+1,none⟩ (.slice none 0 0)) t5:=by
 have h1:Sto W2 (newTag tag w.heap.size (20+2*ka)) lvN (RN E X x recs draws kr kp kf ka pb A code) (up (mpN ka A) (20+2*ka) (some (b,[]))):=
  h.S.map (i:=20+2*ka) (by simp[lvN];omega) (by omega) (Chg.of_fr F) (fun k hk=>newTag_old hk) hM (newTag_new hb)
 have K1:Kp tag (newTag tag w.heap.size (20+2*ka)) w W2:=Kp.of_fr F fun k hk=>newTag_old hk;obtain⟨h2,K2⟩:=h1.put (i:=13) (g:=ga) (n:=E.mo.arrs.toNat) (cap:=cap) (z:=2) (e:=146) (xs:=rng E.mo.arrs.toNat (avN ka A)) rfl (by rw[← hav];rfl) (j:=ka*2) (by omega) (.map (some b));obtain⟨h3,K3⟩:=h2.put (i:=13) rfl (up_same _ _ _) (j:=ka*2+1) (by omega) (.slice none 0 0);rw[up_up] at h3;have em:up (mpN ka A) (20+2*ka) (some (b,[]))=mpN (ka+1) (up A ka b):=by
  funext i;unfold mpN;by_cases e:i=20+2*ka
  ·subst e;rw[up_same,if_pos (by omega),show (20+2*ka-20) / 2=ka by omega,up_same]
  rw[up_off _ _ e];by_cases c:20≤i∧i<20+2*ka∧i % 2=0
  ·rw[if_pos c,if_pos (by omega),up_off _ _ (by omega)]
  rw[if_neg c,if_neg (by omega)]
 refine⟨_,up A ka b,h.turn ?_ ((K1.trans K2).trans K3)⟩;rw[em] at h3;refine h3.same fun i hi=>?_;have hi':i=10∨(12≤i∧i≤17):=by simpa [lvN] using hi
 by_cases e1:i=13
 ·subst e1;rw[up_same];show Rw.mk x.av 146 2 E.mo.arrs.toNat (rng E.mo.arrs.toNat (avN (ka+1) (up A ka b)))=_;rw[hav];congr 1;have e0:(rng E.mo.arrs.toNat (avN ka A)).set (ka*2) (.map (some b))=rng E.mo.arrs.toNat (up (avN ka A) ka ((avN ka A ka).set 0 (.map (some b)))):=rng_set (z:=2) (t:=0) (fun _ _=>rfl) hk (by decide) _;rw[e0,rng_set (z:=2) (t:=1) (fun j _=>by by_cases c:j=ka;subst c;rw[up_same];rfl;rw[up_off _ _ c];rfl) hk (by decide),up_same,up_up];refine rng_congr fun j hj=>?_;by_cases e:j=ka
  ·subst e;rw[up_same];unfold avN;rw[if_pos (by omega),up_same];rfl
  rw[up_off _ _ e];unfold avN;by_cases c:j<ka
  ·rw[if_pos c,if_pos (by omega),up_off _ _ e]
  rw[if_neg c,if_neg (by omega)]
 rw[up_off _ _ e1];unfold RN;split
 ·rfl
 split
 ·rfl
 rfl
end
theorem made_rng (z:Array Value)(hz:0<z.size)(n:Nat):(madeCells z (n*z.size)).toList=rng n (fun _=>z.toList):=by
 have hl:(rng n (fun _=>z.toList)).length=n*z.size:=rng_len (fun _ _=>by simp);apply List.ext_getElem?;intro k;rcases Nat.lt_or_ge k (n*z.size) with hk | hk
 ·have h1:k / z.size<n:=Nat.div_lt_of_lt_mul (by rw[Nat.mul_comm];exact hk);have h2:k % z.size<z.size:=Nat.mod_lt _ hz;have h3:(rng n (fun _=>z.toList))[k / z.size*z.size+k % z.size]?=z.toList[k % z.size]?:=rng_get (fun _ _=>by simp) h1 h2;rw[Nat.div_add_mod'] at h3;rw[h3,Array.getElem?_toList,Array.getElem?_toList];unfold madeCells;rw[Array.getElem?_map,Array.getElem?_range,if_pos hk,Array.getElem?_eq_getElem h2];simp only[Option.map_some];rw[getElem!_pos z _ h2]
 rw[List.getElem?_eq_none (by rw[Array.length_toList,size_madeCells];exact hk),List.getElem?_eq_none (by rw[hl];exact hk)]
theorem own_madeZ {w:WL}{g:Nat}{e:TypeId}{z:Array Value} (hz:0<z.size) {n:Nat} (hn:n≤100000) (h:w.heap[g]?=some (.cells (madeCells z (n*z.size)) e)):w.ownsRow 0 e z.size (.slice (some (Ad g 0)) n n) n (rng n fun _=>z.toList):=by
 refine⟨rng_len (fun _ _=>by simp),.inr ⟨g,n,_,rfl,Nat.zero_le _,h,Nat.le_refl _,by unfold maxLen;omega,size_madeCells _ _,?_⟩⟩;rw[made_rng z hz];exact List.take_of_length_le (by rw[rng_len (z:=z.size) (fun _ _=>by simp)];exact Nat.le_refl _)
theorem infoV135:(prog.info? 221).map (fun i=>(i.zero,i.size,i.bytes))=some (some (.agg #[.int .u8 0,iA 0,.string ⟨#[]⟩]),3,32):=by kernel_rfl
theorem infoA90:(prog.info? 146).map (fun i=>(i.zero,i.size,i.bytes))=some (some (.agg #[.map none,.slice none 0 0]),2,32):=by kernel_rfl
theorem mkGlobs (n:Nat)(hn:n≤100000)(W:WL):(Instr.makeSlice 127 (iA (n:Int)) (iA (n:Int))).run prog W=.ok (.slice (some (Ad W.heap.size 0)) n n) (W.alloc (.cells (madeCells #[.int .u8 0,iA 0,.string ⟨#[]⟩] (n*3)) 221)):=by
 obtain⟨i0,hi,hz0,hz1,hz2⟩:=info_parts infoV135;have:=run_make (P:=prog) W 127 221 i0 _ underlying127 hi hz0 .i64 .i64 n n (by omega) (by omega) (by rw[hz2];omega) (by omega);simp only[Int.toNat_natCast,hz1] at this;exact this
theorem mkArrs (n:Nat)(hn:n≤100000)(W:WL):(Instr.makeSlice 128 (iA (n:Int)) (iA (n:Int))).run prog W=.ok (.slice (some (Ad W.heap.size 0)) n n) (W.alloc (.cells (madeCells #[.map none,.slice none 0 0] (n*2)) 146)):=by
 obtain⟨i0,hi,hz0,hz1,hz2⟩:=info_parts infoA90;have:=run_make (P:=prog) W 128 146 i0 _ underlying128 hi hz0 .i64 .i64 n n (by omega) (by omega) (by rw[hz2];omega) (by omega);simp only[Int.toNat_natCast,hz1] at this;exact this
def tagN (t0:NN) (B X gg ga:Nat) (dv:Value) (k:Nat):Nat:=
 if k<B then t0 k else if k=X then 10 else if k=gg then 12 else if k=ga then 13 else if dv.ownBlock=some k then 17 else 9
section
variable {E:Mach.Env}{W0 w:WL}{t0:NN}{X gg ga:Nat}{recs:LY}{draws:List Int}
theorem nw_start {tv dv:Value}{G A:Nat} (eG:E.mo.globs.toNat=G) (eA:E.mo.arrs.toNat=A) (F:Fr [] W0 w) (hG:G≤1000) (hA:A≤1000)
  (kX:w.heap[X]?=some (.cells (nwC ⟨tv,.slice none 0 0,.slice none 0 0,.slice none 0 0,dv,.slice (some (Ad gg 0)) G G,.slice (some (Ad ga 0)) A A⟩).toArray 135))
  (kg:w.heap[gg]?=some (.cells (madeCells #[.int .u8 0,iA 0,.string ⟨#[]⟩] (G*3)) 221)) (ka:w.heap[ga]?=some (.cells (madeCells #[.map none,.slice none 0 0] (A*2)) 146))
  (od:w.ownsRow W0.heap.size 3 1 dv draws.length (draws.map (.int .i64))) (bX:W0.heap.size≤X) (bg:W0.heap.size≤gg) (ba:W0.heap.size≤ga) (n1:X≠gg) (n2:X≠ga) (n3:gg≠ga) (nd:∀ g,dv.ownBlock=some g→g≠X∧g≠gg∧g≠ga) :
  Nw E W0 t0 X recs draws ⟨tv,.slice none 0 0,.slice none 0 0,.slice none 0 0,dv,.slice (some (Ad gg 0)) G G,.slice (some (Ad ga 0)) A A⟩ 0 0 0 0 (fun _=>0) (fun _=>0) (fun _=>(.slice none 0 0,[])) w (tagN t0 W0.heap.size X gg ga dv):=by
 subst eG eA
 exact {
 S:={
  rows:=fun i hi=>by
   have hi':i=10∨i=12∨i=13∨i=14∨i=15∨i=16∨i=17:=by
    have:i=10∨(12≤i∧i≤17):=by simpa [lvN] using hi
    omega
   have hnil:∀ (e:TypeId) (z:Nat),w.ownsRow 0 e z (.slice none 0 0) 0 []:=fun e z=>⟨by simp,.inl ⟨rfl,rfl⟩⟩
   rcases hi' with rfl | rfl | rfl | rfl | rfl | rfl | rfl
   ·exact⟨own_one kX rfl,fun q hq=>by
     have:X=q:=by simpa [RN,Value.ownBlock] using hq
     subst this
     unfold tagN
     rw[if_neg (by omega),if_pos rfl]⟩
   ·exact⟨own_madeZ (z:=#[.int .u8 0,iA 0,.string ⟨#[]⟩]) (by decide) (by omega) kg,fun q hq=>by
     have:gg=q:=by simpa [RN,Value.ownBlock] using hq
     subst this
     unfold tagN
     rw[if_neg (by omega),if_neg (by omega),if_pos rfl]⟩
   ·refine⟨?_,fun q hq=>by
     have:ga=q:=by simpa [RN,Value.ownBlock] using hq
     subst this
     unfold tagN
     rw[if_neg (by omega),if_neg (by omega),if_neg (by omega),if_pos rfl]⟩
    exact own_madeZ (z:=#[.map none,.slice none 0 0]) (by decide) (by omega) ka
   ·exact⟨hnil _ _,Tg.nil _ _⟩
   ·exact⟨hnil _ _,Tg.nil _ _⟩
   ·exact⟨hnil _ _,Tg.nil _ _⟩
   ·refine⟨⟨od.1,od.2.imp id ?_⟩,fun q hq=>?_⟩
    ·rintro ⟨g,cap,cur,e1,e2,e3⟩
     exact⟨g,cap,cur,e1,Nat.zero_le _,e3⟩
    ·have hq:dv.ownBlock=some q:=hq
     obtain⟨a1,a2,a3⟩:=nd q hq
     have:=(od.lt q hq).1
     unfold tagN
     rw[if_neg (by omega),if_neg a1,if_neg a2,if_neg a3,if_pos hq]
  maps:=fun i b l h=>by
   unfold mpN at h
   rw[if_neg (by omega)] at h
   cases h
  far:=fun i hi=>by
   unfold mpN
   rw[if_neg (by omega)]
  num:=fun i h=>by
   rcases h with h | h
   ·have:i=10∨(12≤i∧i≤17):=by simpa [lvN] using h
    omega
   ·unfold mpN at h
    rw[if_neg (by omega)] at h
    exact absurd rfl h }
 K:=Kp.of_fr F fun k hk=>by unfold tagN;rw[if_pos hk]
 pat:=fun i hi=>absurd hi (by omega)
 cod:=fun i hi=>absurd hi (by omega) }
end
def rt (tag:NN) (k:Nat):Nat:=if 14≤tag k∧tag k≤17 then 9 else tag k
theorem rt_nine {tag:NN}{k:Nat} (h:tag k=9):rt tag k=9:=by unfold rt;rw[if_neg (by omega)];exact h
theorem rt_mid {tag:NN}{k:Nat} (h:14≤tag k) (h2:tag k≤17):rt tag k=9:=by unfold rt;rw[if_pos ⟨h,h2⟩]
theorem rt_off {tag:NN}{k i:Nat} (h:tag k=i) (h2:i<14∨17<i):rt tag k=i:=by unfold rt;rw[if_neg (by omega)];exact h
section
variable {E:Mach.Env}{W W0 w:WL}{t0 tag:NN}{X:Nat}{recs:LY}{draws:List Int}{x:NwX}{pb A:NN}{code:Nat→Value × List Stp}
theorem rol_own {e:TypeId}{v:Value}{n i:Nat}{xs:LV} (h:W.ownsRow 0 e 1 v n xs) (t:Tg tag v i) (h1:14≤i) (h2:i≤17):RoL W (rt tag) v xs:=by
 have hl:=h.1;rw[Nat.mul_one] at hl;subst hl;have h':=h;rcases h.2 with ⟨rfl,h0⟩ | ⟨g,cap,cur,rfl,hb,hg,hnc,hcm,r⟩
 ·exact⟨none,0,by rw[h0],by omega,by omega,fun h=>absurd h (by omega)⟩
 refine⟨_,cap,rfl,hnc,by unfold maxLen at hcm;omega,fun h0=>⟨g,0,rfl,(Age.1 hg).1,?_,fun j u hu=>?_⟩⟩
 ·have:=t g rfl;exact rt_mid (by omega) (by omega)
 rw[Nat.zero_add];exact own_cell h' hu
theorem CodeM.rt {m:Mo}{f:Nat}{cv:Value}{L:List Stp} (h:CodeM m W tag f cv L):CodeM m W (rt tag) f cv L:=by
 obtain⟨g,cap,T,h1,h2,h3,h4,h5⟩:=h.at_;exact⟨⟨g,cap,T,h1,h2,h3,rt_nine h4,h5⟩,h.reads,h.jump,h.len⟩
theorem Tg.rt {v:Value}{i:Nat} (h:Tg tag v i) (h2:i<14∨17<i):Tg (rt tag) v i:=fun g hg=>rt_off (h g hg) h2
structure Base (W:WL):Prop where
 six:6≤W.heap.size
 pow:PowTab W
 mxl:∃ m:Int,W.cell? ⟨4,0,none⟩=some (.int .i64 m)
 tab:Tab W
theorem Base.fr {W W':WL}(h:Base W)(F:Fr [] W W'):Base W':=by
 obtain⟨m,hm⟩:=h.mxl;have:=h.six;exact⟨Nat.le_trans h.six F.size,h.pow.fr F,⟨m,(F.cell (p:=Ad 4 0) (by show 4<_;omega) (by simp)).trans hm⟩,h.tab.fr F (by simp)⟩
theorem Nw.begin_ (h:Nw E W0 t0 X recs draws x recs.length E.mo.pats.length E.mo.fns.length E.mo.arrs.toNat pb A code w tag)(hb:Base W0)(ht0:∀ k,k<W0.heap.size→t0 k<10)(htv:RoL W0 t0 x.tv (E.mo.texts.map .string))(h3:3≤E.mo.fns.length)(hf:E.mo.fns.length≤1000)(hp:E.mo.pats.length≤1000)(hA:E.mo.arrs.toNat≤1000) :
  Calls prog 62 #[ptr X,iA (0:Nat)] w fun e w'=>e=.returned unit∧∃ g tag',MM E X g (ms0 E.mo recs draws) w' tag'∧g.en=0∧Kp t0 tag' W0 w':=by
 have S:=h.S
 obtain⟨o16,t16⟩:=S.rows 16 rfl
 have o16:w.ownsRow 0 143 2 x.fv E.mo.fns.length (rng E.mo.fns.length (fvN E code)):=o16
 have t16:Tg tag x.fv 16:=t16
 obtain⟨gf,fc,hfv,hfc,hgf⟩:=own_some o16 (by omega)
 obtain⟨o10,t10⟩:=S.rows 10 rfl
 have o10:w.ownsRow 0 135 16 (.slice (some (Ad X 0)) 1 1) 1 (nwC x):=o10
 have t10:tag X=10:=t10 X rfl
 have hgft:tag gf=16:=t16 gf (by rw[hfv];rfl)
 have hXgf:X≠gf:=by rintro rfl;omega
 have C:=h.cod 0 (by omega)
 obtain⟨gc,cc,T,v1,v2,v3,v4,v5,v6⟩:=C.at_
 have hcell:∀ f,f<E.mo.fns.length→w.cell? (Ad gf (f*2))=some (iA (Mach.parOf E.mo f:Nat))∧w.cell? (Ad gf (f*2+1))=some (code f).1:=fun f hf=>by
  rw[hfv] at o16
  have g0:=rng_get (n:=E.mo.fns.length) (z:=2) (f:=fvN E code) (fun _ _=>rfl) hf (t:=0) (by decide)
  have g1:=rng_get (n:=E.mo.fns.length) (z:=2) (f:=fvN E code) (fun _ _=>rfl) hf (t:=1) (by decide)
  exact⟨own_cell o16 (g0.trans rfl),own_cell o16 (g1.trans rfl)⟩
 refine (begin_any X gf E.mo.fns.length fc 0 (code 0).2.length cc (some (Ad gc 0)) w hXgf (by rw[← hfv];exact own_cell o10 rfl) (by omega) hf (by rw[← v1];exact (hcell 0 (by omega)).2) (u10:=iA 0) (u11:=.slice none 0 0) (own_cell o10 rfl) (own_cell o10 rfl) (own_thaw o10 _) (own_thaw o10 _)).mono ?_
 rintro e w' ⟨he,hw'⟩
 refine⟨he,?_⟩
 rw[← v1] at hw'
 obtain⟨S1,K1⟩:=S.put (i:=10) rfl rfl (j:=10) (by omega) (iA ((0:Nat):Int))
 have hsz:(w.setCell ⟨X,10,none⟩ (.int .i64 ((0:Nat):Int))).heap.size=w.heap.size:=by simp[World.setCell]
 generalize w.setCell ⟨X,10,none⟩ (.int .i64 ((0:Nat):Int))=W1 at hw' S1 K1 hsz
 have hnew:=wan W1 (.cells (frZ (code 0).1).toArray 225)
 have F2:Fr [] W1 (W1.alloc (.cells (frZ (code 0).1).toArray 225)):=(Fr.refl [] W1).alloc _
 generalize W1.alloc (.cells (frZ (code 0).1).toArray 225)=W2 at hw' hnew F2
 rw[hsz] at hnew
 obtain⟨S2,K2⟩:=S1.new (i:=11) (r:=⟨.slice (some (Ad w.heap.size 0)) 1 1,225,51,1,frZ (code 0).1⟩) (by unfold mpN;rw[if_neg (by omega)]) (by omega) F2 (own_one hnew (frZ_len _)) (fun q hq=>by
  have:w.heap.size=q:=by simpa [Value.ownBlock] using hq
  omega)
 obtain⟨S4,K4⟩:=S2.put (i:=10) (by rw[up_off _ _ (by decide)];rfl) (by rw[up_off _ _ (by decide),up_same]) (j:=11) (by omega) (.slice (some (Ad w.heap.size 0)) 1 1)
 rw[← hw'] at S4 K4
 have K:=(K1.trans K2).trans K4
 generalize newTag tag W1.heap.size 11=tg at S4 K K4
 have K0:=h.K.trans K
 have KR:Kp t0 (rt tg) W0 w':=⟨K0.os,K0.tape,K0.output,K0.size,fun k hk=>by
  have e:=K0.ret k hk
  have:=ht0 k hk
  unfold rt
  rw[if_neg (by omega)]
  exact e,K0.blk⟩
 have F0:Fr [] W0 w':=⟨K0.os,K0.tape,K0.output,K0.size,fun k hk _=>K0.blk k hk (ht0 k hk)⟩
 have B:=hb.fr F0
 obtain⟨q10,r10⟩:=S4.rows 10 (by rw[up_off _ _ (by decide)];rfl)
 obtain⟨q11,r11⟩:=S4.rows 11 (by rw[up_same])
 obtain⟨q12,r12⟩:=S4.rows 12 (by rw[up_off _ _ (by decide)];rfl)
 obtain⟨q13,r13⟩:=S4.rows 13 (by rw[up_off _ _ (by decide)];rfl)
 obtain⟨q14,r14⟩:=S4.rows 14 (by rw[up_off _ _ (by decide)];rfl)
 obtain⟨q15,r15⟩:=S4.rows 15 (by rw[up_off _ _ (by decide)];rfl)
 obtain⟨q16,r16⟩:=S4.rows 16 (by rw[up_off _ _ (by decide)];rfl)
 obtain⟨q17,r17⟩:=S4.rows 17 (by rw[up_off _ _ (by decide)];rfl)
 rw[up_same] at q10 r10
 rw[up_off _ _ (by decide),up_same] at q11 r11
 rw[up_off _ _ (by decide),up_off _ _ (by decide),up_off _ _ (by decide)] at q12 r12 q13 r13 q14 r14 q15 r15 q16 r16 q17 r17
 have q16:w'.ownsRow 0 143 2 x.fv E.mo.fns.length (rng E.mo.fns.length (fvN E code)):=q16
 have r16:Tg tg x.fv 16:=r16
 have q15:w'.ownsRow 0 136 1 x.pv E.mo.pats.length (rng E.mo.pats.length fun i=>[ptr (pb i)]):=q15
 have r15:Tg tg x.pv 15:=r15
 have hmaps:∀ i,i<E.mo.arrs.toNat→MapAt w' (A i) []∧rt tg (A i)=20+2*i:=fun i hi=>by
  obtain⟨m1,m2⟩:=S4.maps (20+2*i) (A i) [] (by unfold mpN;rw[if_pos (by omega),show (20+2*i-20) / 2=i by omega])
  exact⟨m1,rt_off m2 (by omega)⟩
 have hgf':gf<w'.heap.size:=Nll hgf K.size
 have htgf:tg gf=16:=r16 gf (by rw[hfv];rfl)
 let mx:Mx:={ tv:=x.tv,pv:=x.pv,fv:=x.fv,rv:=x.rv,dv:=x.dv,flv:=.slice none 0 0,gv:=x.gv,av:=x.av,frv:=.slice (some (Ad w.heap.size 0)) 1 1,entry:=0,F:=fun _=>⟨(code 0).1,0,.slice none 0 0,fun _=>0⟩,A:=fun i=>(A i,.slice none 0 0),code:=code }
 have sta:Sta E w' (rt tg) x.tv x.pv x.fv code:={
  pow:=B.pow
  low:=fun k hk=>by
   have h6:=hb.six
   have hk':k<W0.heap.size:=by omega
   rw[KR.ret k hk']
   exact ht0 k hk'
  mxl:=B.mxl
  tab:=B.tab
  txt:=htv.kp KR
  fns:=⟨gf,fc,hfv,hgf',rt_mid (by omega) (by omega),hf,fun f hf=>by
   rw[hfv] at q16
   have g0:=rng_get (n:=E.mo.fns.length) (z:=2) (f:=fvN E code) (fun _ _=>rfl) hf (t:=0) (by decide)
   have g1:=rng_get (n:=E.mo.fns.length) (z:=2) (f:=fvN E code) (fun _ _=>rfl) hf (t:=1) (by decide)
   exact⟨own_cell q16 (g0.trans rfl),own_cell q16 (g1.trans rfl)⟩⟩
  code:=fun f hf=>((h.cod f hf).kp K).rt
  pat:=by
   obtain⟨o,c,hpv⟩:=own_form q15
   refine⟨o,c,hpv,hp,fun i t hi=>?_⟩
   have hin:=(Lgs.1 hi).1
   obtain⟨t',p1,p2,p3,p4⟩:=h.pat i hin
   rw[hi] at p1
   cases p1
   obtain⟨gp,cap,e1,-,e3⟩:=own_some q15 (by omega)
   rw[e1] at hpv q15
   cases hpv
   have g0:=rng_get (n:=E.mo.pats.length) (z:=1) (f:=fun i=>[ptr (pb i)]) (fun _ _=>rfl) hin (t:=0) (by decide)
   rw[Nat.mul_one,Nat.add_zero] at g0
   have:=r15 gp (by rw[e1];rfl)
   exact⟨gp,pb i,rfl,e3,rt_mid (by omega) (by omega),own_cell q15 (g0.trans rfl),Nll p2 K.size,rt_nine ((K.ret _ p2).trans p3),p4.of_block (K.blk _ p2 (by omega))⟩ }
 refine⟨⟨w.heap.size,x.gv,x.av,0,x.pv,code⟩,rt tg,?_,rfl,KR⟩
 refine mm_begin (x:=mx) (gF:=w.heap.size) B.six h3 hA (plc_zero C.reads) sta rfl q10 rfl ?_ ⟨rfl,rfl,rfl⟩ q12 ?_ (fun _ _=>rfl) (rt_off (r10 X rfl) (by omega)) (r11.rt (by omega)) (r12.rt (by omega)) (r13.rt (by omega)) hmaps ?_ (rol_own q17 r17 (by omega) (by omega)) rfl
 ·have e:frC (mx.F 0) (Mach.enter E.mo 0 [])=frZ (code 0).1:=by
   unfold frZ frC Mach.enter
   simp only[List.nil_append,List.length_nil,Nat.sub_zero,locC_nothing]
   rfl
  rw[e]
  exact q11
 ·refine Eq.mp (congrArg _ (rng_congr fun j hj=>?_)) q13
  show avN _ A j=_
  unfold avN
  rw[if_pos hj]
 ·have:RoL w' (rt tg) x.rv ((recs.take recs.length).map .string):=rol_own q14 r14 (by omega) (by omega)
  rw[List.take_length] at this
  exact this
end
def NwP (E:Mach.Env) (W0:WL) (t0:NN) (X:Nat) (recs:LY) (draws:List Int) (tv av:Value) (kr kp kf ka:Nat) (w:WL):Prop:=
 ∃ x pb A code tag,x.tv=tv∧x.av=av∧Nw E W0 t0 X recs draws x kr kp kf ka pb A code w tag
def AppQ (X j T e n:Nat) (news:LV) (so:OA) (sc:Nat) (W2:WL) (N:WL→Prop):Prop:=
 ∃ vo vc W4,(Builtin.append_ #[T,T] T #[.slice so n sc,.slice (some ⟨W2.heap.size,0,none⟩) 1 1]).run prog (W2.alloc (.cells news.toArray e))=.ok (.slice vo (n+1:Nat) vc) W4∧W4.cell? ⟨X,j,none⟩=some (.slice so n sc)∧W4.frozen? ⟨X,j,none⟩=false∧N (W4.setCell ⟨X,j,none⟩ (.slice vo (n+1:Nat) vc))
section
variable {E:Mach.Env}{W0 w w' W2:WL}{t0 tag tag':NN}{X:Nat}{recs:LY}{draws:List Int}{x:NwX}{tv av:Value}{kr kp kf ka:Nat}{pb A:NN}{code:Nat→Value × List Stp}
theorem AppP.q {j T e n:Nat}{news:LV}{so:OA}{sc:Nat}{N:Value→WL→Prop}{M:WL→Prop} (h:AppP X j T e n news (.slice so n sc) W2 N) (hN:∀ v W5,N v W5→M W5):AppQ X j T e n news so sc W2 M:=by
 obtain⟨so',sc',vo,vc,W4,h1,h2,h3,h4,h5,h6⟩:=h;cases h1;exact⟨vo,vc,W4,h2,h4,h5,hN _ _ h6⟩
theorem Nw.row (h:Nw E W0 t0 X recs draws x kr kp kf ka pb A code w tag):w.ownsRow 0 135 16 (.slice (some (Ad X 0)) 1 1) 1 (nwC x):=(h.S.rows 10 rfl).1
theorem NwP.old (h:NwP E W0 t0 X recs draws tv av kr kp kf ka w)(ht:∀ k,k<W0.heap.size→t0 k<10):Fr [] W0 w:=by
 obtain⟨x,pb,A,code,tag,-,-,h⟩:=h;exact⟨h.K.os,h.K.tape,h.K.output,h.K.size,fun k hk _=>h.K.blk k hk (ht k hk)⟩
theorem NwP.rec_ (h:NwP E W0 t0 X recs draws tv av kr kp kf ka w){s:BA}(hs:recs[kr]?=some s)(hk:kr≤1000) :
  ∃ so sc,w.cell? (Ad X 3)=some (.slice so kr sc)∧X<w.heap.size∧∀ W2,Fr [] w W2→AppQ X 3 22 9 kr [.string s] so sc W2 (NwP E W0 t0 X recs draws tv av (kr+1) kp kf ka):=by
 obtain⟨x,pb,A,code,tag,e1,e2,h⟩:=h;have o:=h.row;obtain⟨so,sc,hv⟩:=own_form (show w.ownsRow 0 9 1 x.rv kr _ from (h.S.rows 14 rfl).1);refine⟨so,sc,by rw[← hv];exact own_cell o rfl,(o.lt X rfl).2,fun W2 F=>?_⟩;have:=h.rec_ F hs hk;rw[hv] at this;exact this.q fun v W5 ⟨t5,h5⟩=>⟨{ x with rv:=v },_,_,_,t5,e1,e2,h5⟩
theorem NwP.cod_ (h:NwP E W0 t0 X recs draws tv av kr kp kf ka w)(hk:kf≤1000) :
  ∃ so sc,w.cell? (Ad X 2)=some (.slice so kf sc)∧X<w.heap.size∧∀ W2 (l:List Stp) (g cap:Nat),Fr [] w W2→w.heap.size≤g→(∀ tag:NN,tag g=9→CodeM E.mo W2 tag kf (.slice (some (Ad g 0)) l.length cap) l)→AppQ X 2 130 143 kf [iA (Mach.parOf E.mo kf:Nat),.slice (some (Ad g 0)) l.length cap] so sc W2 (NwP E W0 t0 X recs draws tv av kr kp (kf+1) ka):=by
 obtain⟨x,pb,A,code,tag,e1,e2,h⟩:=h;have o:=h.row;obtain⟨so,sc,hv⟩:=own_form (show w.ownsRow 0 143 2 x.fv kf _ from (h.S.rows 16 rfl).1);refine⟨so,sc,by rw[← hv];exact own_cell o rfl,(o.lt X rfl).2,fun W2 l g cap F h1 h2=>?_⟩;have:=h.cod_ F (c:=(.slice (some (Ad g 0)) l.length cap,l)) rfl (h2 _ (newTag_new h1)) hk;rw[hv] at this;exact this.q fun v W5 ⟨t5,c',h5⟩=>⟨{ x with fv:=v },_,_,_,t5,e1,e2,h5⟩
theorem NwP.av9 (h:NwP E W0 t0 X recs draws tv av kr kp kf ka w):∃ o cap,av=.slice o E.mo.arrs.toNat cap∧w.cell? (Ad X 9)=some av∧X<w.heap.size∧(0<E.mo.arrs.toNat→∃ ga,o=some (Ad ga 0)∧X≠ga∧ga<w.heap.size∧∀ i,i<E.mo.arrs.toNat*2→(∃ u,w.cell? (Ad ga i)=some u)∧w.frozen? (Ad ga i)=false):=by
 obtain⟨x,pb,A,code,tag,e1,rfl,h⟩:=h;have o:=h.row;obtain⟨o13,t13⟩:=h.S.rows 13 rfl;have o13:w.ownsRow 0 146 2 x.av E.mo.arrs.toNat (rng E.mo.arrs.toNat (avN ka A)):=o13;have t13:Tg tag x.av 13:=t13;obtain⟨so,sc,hv⟩:=own_form o13;refine⟨so,sc,hv,own_cell o rfl,(o.lt X rfl).2,fun h0=>?_⟩;obtain⟨ga,cap,e,-,hg⟩:=own_some o13 h0;rw[e] at hv o13;cases hv;refine⟨ga,rfl,?_,hg,fun i hi=>⟨?_,own_thaw o13 i⟩⟩
 ·rintro rfl;have h1:=t13 X (by rw[e];rfl);have h2:tag X=10:=(h.S.rows 10 rfl).2 X rfl;omega
 have hl:=o13.1;exact⟨_,own_cell o13 (Lge (show i<_ by rw[hl];exact hi))⟩
theorem NwP.arr_ (h:NwP E W0 t0 X recs draws tv av kr kp kf ka w){ga cap b:Nat}(F:Fr [] w W2)(hb:w.heap.size≤b)(hM:MapAt W2 b [])(hav:av=.slice (some (Ad ga 0)) E.mo.arrs.toNat cap)(hk:ka<E.mo.arrs.toNat) :
  NwP E W0 t0 X recs draws tv av kr kp kf (ka+1) ((W2.setCell ⟨ga,ka*2,none⟩ (.map (some b))).setCell ⟨ga,ka*2+1,none⟩ (.slice none 0 0)):=by
 obtain⟨x,pb,A,code,tag,e1,rfl,h⟩:=h;obtain⟨t5,A',h5⟩:=h.arr_ F hb hM hav hk;exact⟨_,_,_,_,t5,e1,rfl,h5⟩
end
theorem oper_makeB {o:Oper}{a:Act}{w w':WL}{K:Act→WL→Prop}{Q:Exit→Act→WL→Prop} (t:TypeId) (x y:Operand) (ho:o.op=.makeSlice t x y) (u v r:Value) (hx:a.eval x=u) (hy:a.eval y=v) (hrun:(Instr.makeSlice t u v).run prog w=.ok r w')
  (h:K (a.put o.dst r) w'):o.wp prog a w K Q:=by
 unfold Oper.wp execOp;simp only[ho,Sem.run_bind,Sem.run_pure,Result.andThen_ok,hx,hy,hrun];exact h
theorem alloc_has {W W1:WL}{o:Obj} (h:W.alloc o=W1):W1.heap[W.heap.size]?=some o∧Fr [] W W1∧W.heap.size<W1.heap.size:=by
 subst h;exact⟨wan W o,(Fr.refl [] W).alloc _,by simp⟩
theorem build79 (o1 o2 o3 o4:OA)(l1 k1 l2 k2 l3 k3 l4 k4:Nat)(w:WL):(Instr.build 135 #[(0,.slice o1 l1 k1),(4,.slice o2 l2 k2),(7,.slice o3 l3 k3),(8,.slice o4 l4 k4)]).run prog w=.ok (.agg (nwC ⟨.slice o1 l1 k1,.slice none 0 0,.slice none 0 0,.slice none 0 0,.slice o2 l2 k2,.slice o3 l3 k3,.slice o4 l4 k4⟩).toArray) w:=by
 kernel_rfl
theorem build87 (p:Int)(o:OA)(n c:Nat)(w:WL):(Instr.build 143 #[(0,iA p),(1,.slice o n c)]).run prog w=.ok (.agg #[iA p,.slice o n c]) w:=by
 kernel_rfl
theorem buildS22 (s:BA)(w:WL):(Instr.buildSlice 22 1 #[(0,.string s)]).run prog w=.ok (.slice (some (Ad w.heap.size 0)) 1 1) (w.alloc (.cells #[.string s] 9)):=by
 kernel_rfl
theorem buildS74 (p:Int)(o:OA)(n c:Nat)(w:WL):(Instr.buildSlice 130 1 #[(0,.agg #[iA p,.slice o n c])]).run prog w=.ok (.slice (some (Ad w.heap.size 0)) 1 1) (w.alloc (.cells #[iA p,.slice o n c] 143)):=by
 kernel_rfl
section
variable {m:Mo}{t0:NN}{W:WL}{recs:LY}{draws:List Int}
def M5 (b:Nat) (v0 v1 v2 v3 v4:Value) (V:WL):Prop:=V.cell? ⟨b,0,none⟩=some v0∧V.cell? ⟨b,1,none⟩=some v1∧V.cell? ⟨b,2,none⟩=some v2∧V.cell? ⟨b,3,none⟩=some v3∧V.cell? ⟨b,4,none⟩=some v4
theorem new_any {gn an:Nat}(hb:Base W)(ht0:∀ k,k<W.heap.size→t0 k<10){a0 a1 a4:OA}{n0 c0 c1 c4:Nat} (eg:m.globs=(gn:Nat)) (ea:m.arrs=(an:Nat)) (hg1:gn≤1000) (ha1:an≤1000) (hp0:m.pats.length=0) (hf1:m.fns.length≤1000) (hf3:3≤m.fns.length)
  (hFn:∀ V k x,Fr [] W V→m.fns[k]?=some x→∃ g off,a4=some (Ad g off)∧V.cell? (Ad g (off+k*3))=some (iA (Mach.parOf m k:Nat))∧V.cell? (Ad g (off+k*3+1))=some (iA x.locs)∧V.cell? (Ad g (off+k*3+2))=some (.string x.code))
  (hCo:∀ V k,Fr [] W V→k<m.fns.length→Calls prog 60 #[.agg #[.slice a0 n0 c0,.slice a1 m.pats.length c1,iA gn,iA an,.slice a4 m.fns.length c4],iA (k:Nat)] V fun e w'=>∃ g cap l,e=.returned (.tuple #[.slice (some (Ad g 0)) (l:List Stp).length cap,iA 0,iA 0])∧Fr [] V w'∧V.heap.size≤g∧∀ tag:NN,tag g=9→CodeM m w' tag k (.slice (some (Ad g 0)) l.length cap) l)
  (htv:RoL W t0 (.slice a0 n0 c0) (m.texts.map .string)) {ro do_:OA}{rc dc nr nd:Nat} (hr:ArgL W (.slice ro nr rc) (recs.map .string)) (hd:ArgL W (.slice do_ nd dc) (draws.map (.int .i64))) (hs:Scr recs draws) :
  Calls prog 33 #[.agg #[.slice a0 n0 c0,.slice a1 m.pats.length c1,iA gn,iA an,.slice a4 m.fns.length c4],.slice ro nr rc,.slice do_ nd dc] W fun e w=>∃ X g tag,e=.returned (ptr X)∧MM (envP m) X g (ms0 m recs draws) w tag∧g.en=0∧Kp t0 tag W w:=by
 have hm:=hmX
 obtain⟨W1,hW1⟩:=eXi (W.alloc (.cells #[.slice a0 n0 c0,.slice a1 m.pats.length c1,iA gn,iA an,.slice a4 m.fns.length c4] 70));have F1:=frA hW1
 have k1:W1.heap[W.heap.size]?=some (.cells #[.slice a0 n0 c0,.slice a1 m.pats.length c1,iA gn,iA an,.slice a4 m.fns.length c4] 70):=by rw[← hW1];exact wan W _
 have l1:=(Age.1 k1).1;have HT:Hid (∀ k,k<W1.heap.size→newTag t0 W.heap.size 9 k<10):=fun k hk=>by
  rcases Nat.lt_or_ge k W.heap.size with c | c
  ·rw[newTag_old c];exact ht0 k c
  rw[newTag_new c];decide
 have K1:Kp t0 (newTag t0 W.heap.size 9) W W1:=Kp.of_fr F1 fun k hk=>newTag_old hk;have HO:Hid (∀ V,Fr [] W1 V→M5 W.heap.size (.slice a0 n0 c0) (.slice a1 m.pats.length c1) (iA gn) (iA an) (.slice a4 m.fns.length c4) V):=fun V F=>(cells5F ((F.block _ l1 (by simp)).trans k1)).1;obtain⟨hrl,hdl,hrs,hds⟩:=hs;have HD:Hid (∀ V,Fr [] W1 V→Calls prog 57 #[.slice do_ nd dc] V fun e w=>∃ v',e=.returned v'∧w.ownsRow V.heap.size 3 1 v' draws.length (draws.map (.int .i64))∧Fr [] V w):=fun V F=>cloneI_any V hdl (hd.fr (F1.trans F));have HR:Hid (∀ V k s,Fr [] W1 V→recs[k]?=some s→s.size≤100∧∃ g off,ro=some (Ad g off)∧V.cell? (Ad g (off+k))=some (.string s)):=fun V k s F hk=>by
  refine⟨by
   by_cases c:s.size≤100
   ·exact c
   exact absurd ⟨s,List.mem_of_getElem? hk,show 100<s.size by omega⟩ hrs,?_⟩
  have hkl:=(Lgs.1 hk).1;obtain⟨o,c,e1,e2,e3,e4⟩:=hr.fr (F1.trans F);obtain⟨g,off,e5,e6,e7⟩:=e4 (by rw[List.length_map];omega);cases e1;exact⟨g,off,e5,e7 k _ (by rw[List.getElem?_map,hk];rfl)⟩
 have hnr:nr=recs.length:=by
  obtain⟨o,c,e1,-⟩:=hr;cases e1;simp
 subst hnr;have egn:(envP m).mo.globs.toNat=gn:=by show m.globs.toNat=gn;omega
 have ean:(envP m).mo.arrs.toNat=an:=by show m.arrs.toNat=an;omega
 have HP0:Hid (m.pats.length=0):=hp0;have HF:Hid (∀ V k x,Fr [] W1 V→m.fns[k]?=some x→∃ g off,a4=some (Ad g off)∧V.cell? (Ad g (off+k*3))=some (iA (Mach.parOf m k:Nat))∧V.cell? (Ad g (off+k*3+1))=some (iA x.locs)∧V.cell? (Ad g (off+k*3+2))=some (.string x.code)):=fun V k x F hk=>hFn V k x (F1.trans F) hk;have HG:Hid (∀ V k,Fr [] W1 V→k<m.fns.length→Calls prog 60 #[.agg #[.slice a0 n0 c0,.slice a1 m.pats.length c1,iA gn,iA an,.slice a4 m.fns.length c4],iA (k:Nat)] V fun e w'=>∃ g cap l,e=.returned (.tuple #[.slice (some (Ad g 0)) (l:List Stp).length cap,iA 0,iA 0])∧Fr [] V w'∧V.heap.size≤g∧∀ tag:NN,tag g=9→CodeM m w' tag k (.slice (some (Ad g 0)) l.length cap) l):=fun V k F hk=>hCo V k (F1.trans F) hk;have HE:Hid (∀ V X av,NwP (envP m) W1 (newTag t0 W.heap.size 9) X recs draws (.slice a0 n0 c0) av recs.length m.pats.length m.fns.length an V→Calls prog 62 #[ptr X,iA (0:Nat)] V fun e w'=>e=.returned unit∧∃ g tag',MM (envP m) X g (ms0 m recs draws) w' tag'∧g.en=0∧Kp t0 tag' W w'):=fun V X av h=>by
  obtain⟨x,pb,A,code,tag,e1,e2,h⟩:=h;rw[← ean] at h;refine (h.begin_ (hb.fr F1) HT.out (by rw[e1];exact htv.kp K1) hf3 hf1 (by show m.pats.length≤1000;omega) (by rw[ean];exact ha1)).mono ?_;rintro e w' ⟨he,g,tag',h1,h2,h3⟩;exact⟨he,g,tag',h1,h2,K1.trans h3⟩
 have h25:=HO.out W1 (Fr.refl [] W1);have HL1:Hid _:=AI F1 l1;clear hb ht0 hFn hCo htv hr hd hrs hds k1 K1 F1 l1 eg ea hdl hp0;go_enter func33,ntmps33;go_upto_region 1 with fail
 go_cut[7] from 21 to 32 (fun q wx=>∃ X av,q=ptr X∧Hid (NwP (envP m) W1 (newTag t0 W.heap.size 9) X recs draws (.slice a0 n0 c0) av 0 0 0 0 wx))
 case first=>
  refine wp_region_heldD (M5 W.heap.size (.slice a0 n0 c0) (.slice a1 m.pats.length c1) (iA gn) (iA an) (.slice a4 m.fns.length c4)) hm ?_;have hS:=HO.out W1.drew (Fr.refl [] W1).drew;refine wpAnyH_takes (fun _ _ _ _ _ h=>h) hS [0,1,2,4,5,7,8] (by kernel_rfl) ?_
  iterate 7
   refine Yls.cons (v:=?_) rfl (.inl ⟨rfl,fun w1 hS1=>?_⟩) ?_;rotate_left
   ·obtain⟨p0,p1,p2,p3,p4⟩:=hS1;go_simp
    first | rfl | (refine (if_neg (by omega)).trans ?_;rfl)
   simp only[Act.put,Zp,Zq]
  refine Yls.nil ?_;obtain⟨WD,hWD⟩:=eXi (W1.drew);have FD:Fr [] W1 WD:=by rw[← hWD];exact (Fr.refl [] W1).drew
  rw[hWD];have hDs:=FD.size;have hbd:=@build79;clear hW1 hWD hS h25 HR HF HG HE
  iterate 3
   all_goals
    first
     | (refine wpAnyH_ready (rs:=[3,6,9]) (by decide +kernel) (by simp) ?_
        refine AllReadyH.cons rfl (fun K hK=>?_) (AllReadyH.cons rfl (fun K hK=>?_) (AllReadyH.cons rfl (fun K hK=>?_) AllReadyH.nil)))
     | (first | refine wpAnyH_ready (rs:=[6,9]) (by decide +kernel) (by simp) ?_ | refine wpAnyH_ready (rs:=[3,9]) (by decide +kernel) (by simp) ?_ | refine wpAnyH_ready (rs:=[3,6]) (by decide +kernel) (by simp) ?_
        refine AllReadyH.cons rfl (fun K hK=>?_) (AllReadyH.cons rfl (fun K hK=>?_) AllReadyH.nil))
     | (first | refine wpAnyH_ready (rs:=[9]) (by decide +kernel) (by simp) ?_ | refine wpAnyH_ready (rs:=[6]) (by decide +kernel) (by simp) ?_ | refine wpAnyH_ready (rs:=[3]) (by decide +kernel) (by simp) ?_
        refine AllReadyH.cons rfl (fun K hK=>?_) AllReadyH.nil)
   all_goals
    first
     | (refine oper_makeB 127 (.tmp 26) (.tmp 26) rfl _ _ _ rfl rfl (mkGlobs gn (by omega) _) ?_
        generalize hV:World.alloc _ _=V;obtain⟨kk,G,s1⟩:=alloc_has hV
        (try replace ka:=(G.block _ (by omega) (by simp)).trans ka)
        (try replace od:=own_of_block od fun g hg=>G.block g (od.lt g hg).2 (by simp))
        have kg:=kk)
     | (refine oper_makeB 128 (.tmp 29) (.tmp 29) rfl _ _ _ rfl rfl (mkArrs an (by omega) _) ?_
        generalize hV:World.alloc _ _=V;obtain⟨kk,G,s1⟩:=alloc_has hV
        (try replace kg:=(G.block _ (by omega) (by simp)).trans kg)
        (try replace od:=own_of_block od fun g hg=>G.block g (od.lt g hg).2 (by simp))
        have ka:=kk)
     | (go_simp
        refine Calls.mono (HD.out _ FD) ?_;rintro e V ⟨v',rfl,ow,G⟩;obtain⟨vo,vc,rfl⟩:=own_form ow;have nd:=ow.lt;have od:=own_low ow FD.size;have s1:=G.size;have kk:=True.intro;have hV:=True.intro
        (try replace kg:=(G.block _ (by omega) (by simp)).trans kg)
        (try replace ka:=(G.block _ (by omega) (by simp)).trans ka)
        clear ow)
    replace FD:=FD.trans G;refine hK _ _ (HO.out _ FD) ?_;clear hK K hV kk G;intro _
    try simp only[Act.put,Zp,Zq]
  all_goals
   refine rd1 (r:=10) (by kernel_rfl) rfl fun K hK=>?_;go_simp;refine hK _ _ (HO.out _ FD) ?_;clear hK K;intro _
   try simp only[Act.put,Zp,Zq]
   refine rd1 (r:=11) (by kernel_rfl) rfl fun K hK=>?_;go_simp;generalize hV:World.alloc _ _=V;obtain⟨kX,G,s2⟩:=alloc_has hV;replace ka:=(G.block _ (by omega) (by simp)).trans ka;replace kg:=(G.block _ (by omega) (by simp)).trans kg;replace od:=own_of_block od fun g hg=>G.block g (od.lt g hg).2 (by simp);replace FD:=FD.trans G;refine hK _ _ (HO.out _ FD) ?_;clear hK K hV G;intro _
   try simp only[Act.put,Zp,Zq]
   refine rd1 (r:=12) (by kernel_rfl) rfl fun K hK=>?_;go_simp;refine hK _ _ (HO.out _ FD) ?_;clear hK K;intro _
   try simp only[Act.put,Zp,Zq]
   refine wpAnyH_done (by kernel_rfl) ?_ _;have HFin:Hid _:=nw_start (E:=envP m) (t0:=newTag t0 W.heap.size 9) (recs:=recs) egn ean FD hg1 ha1 kX kg ka od (by omega) (by omega) (by omega) (by omega) (by omega) (by omega) (fun g hg=>by have:=nd g hg;omega);clear kX kg ka od nd s1 s2 hDs hbd FD;go_wp2_with fail;go_meet;exact⟨_,_,rfl,_,_,_,_,_,rfl,rfl,HFin.out⟩
 case rest=>
  obtain⟨X,av,rfl,HN⟩:=hcut;clear h25 hW1;go_wp2_with fail
  go_loopw [35] (fun q wr=>∃ k:Nat,k≤recs.length∧q=iA k∧Hid (NwP (envP m) W1 (newTag t0 W.heap.size 9) X recs draws (.slice a0 n0 c0) av k 0 0 0 wr)) (fun q _=>recs.length-(intOf q).toNat)
  case atStart=>exact⟨0,by omega,rfl,HN⟩
  case round=>
   clear HN;obtain⟨k,hk,rfl,J⟩:=hrel;by_cases hlt:k<recs.length
   ·have g1:(k:Int)<(recs.length:Int):=by omega
    have g2:IntKind.i64.wrap ((k:Int)+1)=((k+1:Nat):Int):=by rw[IntKind.wrap_i64];omega
    obtain⟨s,hs⟩:∃ s,recs[k]?=some s:=⟨_,Lge hlt⟩;obtain⟨hs1,g,off,rfl,e1⟩:=HR.out wr k s (J.out.old HT.out) hs;obtain⟨so,sc,e3,hXl,HA⟩:=J.out.rec_ hs (by omega);obtain⟨WD,hWD⟩:=eXi (wr.drew);have FD:Fr [] wr WD:=by rw[← hWD];exact (Fr.refl [] wr).drew
    have HQ:Hid (∀ V,Fr [] WD V→V.cell? (Ad X 3)=some (.slice so k sc)):=fun V F=>((FD.trans F).cell (p:=Ad X 3) hXl (by simp)).trans e3;have HA1:Hid (∀ V,Fr [] WD V→AppQ X 3 22 9 k [.string s] so sc V (NwP (envP m) W1 (newTag t0 W.heap.size 9) X recs draws (.slice a0 n0 c0) av (k+1) 0 0 0)):=fun V F=>HA V (FD.trans F);have HC:Hid (∀ V,Calls prog 58 #[.string s] V fun e w'=>e=.returned (.string s)∧Fr [] V w'):=fun V=>clone_any s V (by omega);have hbs:=buildS22 s;clear HA FD J HR HF HG HE HD HO hs hs1 e3 hXl;generalize recs.length=nr at *;go_wp2_with fail;refine wp_region_L (fun V=>Fr [] WD V) 8 hm ?_;rw[hWD];have hS:Fr [] WD WD:=Fr.refl _ _;refine wpAnyL_takesU (fuel:=8) [0,1,2,3] (by kernel_rfl) (fun _ _ _ _ _ h=>h) (.inr hS) ?_
    iterate 4
     refine Yls.cons (v:=?_) rfl (.inl ⟨rfl,fun w1 hS1=>?_⟩) ?_;rotate_left
     ·skip;go_simp
      first | rfl | (refine (if_neg (by omega)).trans ?_;rfl)
     simp only[Act.put,Zp,Zq]
    refine Yls.nil ?_;refine wpAnyL_takes (fuel:=6) [4,5] (by kernel_rfl) (fun _ _ _ _ _ h=>h) hS ?_
    iterate 2
     refine Yls.cons (v:=?_) rfl (.inl ⟨rfl,fun w1 hS1=>?_⟩) ?_;rotate_left
     ·have s0:=HQ.out _ hS1;go_simp
      first | rfl | (refine (if_neg (by omega)).trans ?_;rfl)
     simp only[Act.put,Zp,Zq]
    refine Yls.nil ?_;refine wpAnyL_ready (rs:=[6]) (by kernel_rfl) (by simp) ?_;refine AllReadyL.cons rfl (fun K hK=>?_) AllReadyL.nil;go_simp;refine Calls.mono (HC.out WD) ?_;rintro e V ⟨rfl,FV⟩;refine hK _ _ (.inr FV) ?_;clear hK K
    try simp only[Act.put,Zp,Zq]
    refine wpAnyL_ready (rs:=[7]) (by kernel_rfl) (by simp) ?_;refine AllReadyL.cons rfl (fun K hK=>?_) AllReadyL.nil;obtain⟨vo,vc,W4,hr4,q1,q2,hN⟩:=HA1.out V FV;have Hr4:Hid _:=hr4;have HN:Hid _:=hN;have HFA:Hid (Fr [] WD (V.alloc (.cells #[.string s] 9))):=FV.alloc _;clear hr4 hN HA1 HC FV;go_simp;refine hK _ _ (.inr HFA.out) ?_;clear hK K
    try simp only[Act.put,Zp,Zq]
    refine wpAnyL_ready (rs:=[8]) (by kernel_rfl) (by simp) ?_;refine AllReadyL.cons rfl (fun K hK=>?_) AllReadyL.nil;refine oper_appendB (.tmp 43) (.tmp 46) 22 rfl _ _ _ rfl rfl Hr4.out ?_;refine hK _ _ (.inl rfl) ?_;clear hK K
    try simp only[Act.put,Zp,Zq]
    refine wpAnyL_takesU (fuel:=1) [9,10] (by kernel_rfl) (fun _ _ _ _ _ h=>h) (.inl rfl) ?_
    iterate 2
     refine Yls.cons (v:=?_) rfl (.inl ⟨rfl,fun w1 hS1=>?_⟩) ?_;rotate_left
     ·skip;go_simp
      first | rfl | (refine (if_neg (by omega)).trans ?_;rfl)
     simp only[Act.put,Zp,Zq]
    refine Yls.nil ?_;refine wpAnyL_ready (rs:=[11]) (by kernel_rfl) (by simp) ?_;refine AllReadyL.cons rfl (fun K hK=>?_) AllReadyL.nil;go_simp;refine hK _ _ (.inl rfl) ?_;clear hK K
    try simp only[Act.put,Zp,Zq]
    refine wpAnyL_done (by kernel_rfl) ?_ _;refine NoPanic.normal ?_;go_wp2;exact⟨⟨k+1,by omega,by go_num,HN⟩,by simp[intOf];omega⟩
   have e0:k=recs.length:=by omega
   have g1:¬ (k:Int)<(recs.length:Int):=by omega
   subst e0;obtain⟨p0,p1,p2,p3,p4⟩:=HO.out wr (J.out.old HT.out);have HN:Hid _:=J;clear J HR HD;go_wp2_with fail
   go_loopw [54] (fun q wr=>∃ k:Nat,k≤m.pats.length∧q=iA k∧Hid (NwP (envP m) W1 (newTag t0 W.heap.size 9) X recs draws (.slice a0 n0 c0) av recs.length k 0 0 wr)) (fun q _=>m.pats.length-(intOf q).toNat)
   case atStart=>exact⟨0,by omega,rfl,HN.out⟩
   case round=>
    clear HN p0 p1 p2 p3 p4;obtain⟨k,hk,rfl,J⟩:=hrel;by_cases hlt:k<m.pats.length
    ·have h0:=HP0.out;exfalso;omega
    have e0:k=m.pats.length:=by omega
    have g1:¬ (k:Int)<(m.pats.length:Int):=by omega
    subst e0;obtain⟨p0,p1,p2,p3,p4⟩:=HO.out wr (J.out.old HT.out);have HN:Hid _:=J;clear J;go_wp2_with fail
    go_loopw [78] (fun q wr=>∃ k:Nat,k≤m.fns.length∧q=iA k∧Hid (NwP (envP m) W1 (newTag t0 W.heap.size 9) X recs draws (.slice a0 n0 c0) av recs.length m.pats.length k 0 wr)) (fun q _=>m.fns.length-(intOf q).toNat)
    case atStart=>exact⟨0,by omega,rfl,HN.out⟩
    case round=>
     clear HN p0 p1 p2 p3 p4;obtain⟨k,hk,rfl,J⟩:=hrel;by_cases hlt:k<m.fns.length
     ·have g1:(k:Int)<(m.fns.length:Int):=by omega
      have g2:IntKind.i64.wrap ((k:Int)+1)=((k+1:Nat):Int):=by rw[IntKind.wrap_i64];omega
      obtain⟨x,hx⟩:∃ x,m.fns[k]?=some x:=⟨_,Lge hlt⟩;obtain⟨g,off,rfl,e0,e1,e2⟩:=HF.out wr k x (J.out.old HT.out) hx;obtain⟨so,sc,e3,hXl,HA⟩:=J.out.cod_ (by omega);obtain⟨V1,hV1⟩:=eXi (wr.alloc (.cells #[iA (Mach.parOf m k:Nat),iA x.locs,.string x.code] 112));obtain⟨kf,F1,s1⟩:=alloc_has hV1;have HM:Hid _:=AI kf s1;obtain⟨p0,p1,p2,p3,p4⟩:=HO.out V1 ((J.out.old HT.out).trans F1);have HC:Hid _:=HG.out V1 k ((J.out.old HT.out).trans F1) hlt;have HA1:Hid _:=AI HA (AI e3 (AI hXl F1));clear HA J HF HG HE HO hx e3 hXl F1 kf s1;generalize hnf:m.fns.length=nf at *;go_wp2_with fail;refine Calls.mono HC.out ?_;rintro e V ⟨cg,cc,l,rfl,FV,hcg,hCM⟩;obtain⟨HA,e3,hXl,F1⟩:=HA1.out;obtain⟨kf,s1⟩:=HM.out;have FV1:=F1.trans FV;have e4:V.cell? (Ad X 2)=some (.slice so k sc):=(FV1.cell (p:=Ad X 2) hXl (by simp)).trans e3;have e5:V.cell? (Ad wr.heap.size 0)=some (iA (Mach.parOf m k:Nat)):=(FV.cell (p:=Ad wr.heap.size 0) s1 (by simp)).trans (cof kf rfl);have l5:wr.heap.size<V.heap.size:=Nll s1 FV.size;have l6:X<V.heap.size:=Nll hXl FV1.size;obtain⟨WD,hWD⟩:=eXi (V.drew);have FD:Fr [] V WD:=by rw[← hWD];exact (Fr.refl [] V).drew
      have HQ:Hid (∀ U,Fr [] WD U→U.cell? (Ad X 2)=some (.slice so k sc)∧U.cell? (Ad wr.heap.size 0)=some (iA (Mach.parOf m k:Nat))):=fun U F=>⟨((FD.trans F).cell (p:=Ad X 2) l6 (by simp)).trans e4,((FD.trans F).cell (p:=Ad wr.heap.size 0) l5 (by simp)).trans e5⟩;have hCM2:∀ tag:NN,tag cg=9→CodeM (envP m).mo WD tag k (.slice (some (Ad cg 0)) l.length cc) l:=fun tag ht=>(hCM tag ht).kp (tag':=tag) (Kp.of_fr FD fun _ _=>rfl);obtain⟨vo,vc,W4,hr4,q1,q2,hN⟩:=HA WD l cg cc (FV1.trans FD) (Nat.le_trans F1.size hcg) hCM2;have Hr4:Hid _:=hr4;have HN:Hid _:=hN;have HFA:Hid (Fr [] WD (WD.alloc (.cells #[iA (Mach.parOf m k:Nat),.slice (some (Ad cg 0)) l.length cc] 143))):=(Fr.refl [] WD).alloc _;have hbd:=build87 (Mach.parOf m k:Nat) (some (Ad cg 0)) l.length cc;have hbs:=buildS74 (Mach.parOf m k:Nat) (some (Ad cg 0)) l.length cc;clear hCM hCM2 HA e3 hXl F1 kf s1 FV FV1 FD e4 e5 l5 l6 hr4 hN HA1 HM HC p0 p1 p2 p3 p4 hcg e0 e1 e2 hV1 HT hlt;go_wp2_with fail;refine wp_region_L (fun V=>Fr [] WD V) 10 hm ?_;rw[hWD];have hS:Fr [] WD WD:=Fr.refl _ _;refine wpAnyL_takesU (fuel:=8) [0,1,2,3,5,7] (by kernel_rfl) (fun _ _ _ _ _ h=>h) (.inr hS) ?_
      iterate 6
       refine Yls.cons (v:=?_) rfl (.inl ⟨rfl,fun w1 hS1=>?_⟩) ?_;rotate_left
       ·skip;go_simp
        first | rfl | (refine (if_neg (by omega)).trans ?_;rfl)
       simp only[Act.put,Zp,Zq]
      refine Yls.nil ?_;refine wpAnyL_takes (fuel:=5) [4,6,8] (by kernel_rfl) (fun _ _ _ _ _ h=>h) hS ?_
      iterate 3
       refine Yls.cons (v:=?_) rfl (.inl ⟨rfl,fun w1 hS1=>?_⟩) ?_;rotate_left
       ·obtain⟨s0,s1⟩:=HQ.out _ hS1;go_simp
        first | rfl | (refine (if_neg (by omega)).trans ?_;rfl)
       simp only[Act.put,Zp,Zq]
      refine Yls.nil ?_;refine wpAnyL_ready (rs:=[9]) (by kernel_rfl) (by simp) ?_;refine AllReadyL.cons rfl (fun K hK=>?_) AllReadyL.nil;go_simp;refine hK _ _ (.inr HFA.out) ?_;clear hK K
      try simp only[Act.put,Zp,Zq]
      refine wpAnyL_ready (rs:=[10]) (by kernel_rfl) (by simp) ?_;refine AllReadyL.cons rfl (fun K hK=>?_) AllReadyL.nil;refine oper_appendB (.tmp 94) (.tmp 99) 130 rfl _ _ _ rfl rfl Hr4.out ?_;refine hK _ _ (.inl rfl) ?_;clear hK K
      try simp only[Act.put,Zp,Zq]
      refine wpAnyL_takesU (fuel:=1) [11,12] (by kernel_rfl) (fun _ _ _ _ _ h=>h) (.inl rfl) ?_
      iterate 2
       refine Yls.cons (v:=?_) rfl (.inl ⟨rfl,fun w1 hS1=>?_⟩) ?_;rotate_left
       ·skip;go_simp
        first | rfl | (refine (if_neg (by omega)).trans ?_;rfl)
       simp only[Act.put,Zp,Zq]
      refine Yls.nil ?_;refine wpAnyL_ready (rs:=[13]) (by kernel_rfl) (by simp) ?_;refine AllReadyL.cons rfl (fun K hK=>?_) AllReadyL.nil;go_simp;refine hK _ _ (.inl rfl) ?_;clear hK K
      try simp only[Act.put,Zp,Zq]
      refine wpAnyL_done (by kernel_rfl) ?_ _;refine NoPanic.normal ?_;go_wp2;exact⟨⟨k+1,by omega,by go_num,HN⟩,by simp[intOf];omega⟩
     have e0:k=m.fns.length:=by omega
     have g1:¬ (k:Int)<(m.fns.length:Int):=by omega
     subst e0;obtain⟨ao,ac,hav,e9,hXl,-⟩:=J.out.av9;rw[ean] at hav;subst hav;have HN:Hid _:=J;clear J HF HG HO hXl;go_wp2_with fail
     go_loopw [109] (fun q wr=>∃ k:Nat,k≤an∧q=iA k∧Hid (NwP (envP m) W1 (newTag t0 W.heap.size 9) X recs draws (.slice a0 n0 c0) (.slice ao an ac) recs.length m.pats.length m.fns.length k wr)) (fun q _=>an-(intOf q).toNat)
     case atStart=>exact⟨0,by omega,rfl,HN.out⟩
     case round=>
      clear HN e9;obtain⟨k,hk,rfl,J⟩:=hrel;by_cases hlt:k<an
      ·have g1:(k:Int)<(an:Int):=by omega
       have g2:IntKind.i64.wrap ((k:Int)+1)=((k+1:Nat):Int):=by rw[IntKind.wrap_i64];omega
       obtain⟨ao',ac',hav,e9,hXl,hx⟩:=J.out.av9;rw[ean] at hav hx;cases hav;obtain⟨ga,rfl,hXg,hgl,hcl⟩:=hx (by omega);obtain⟨⟨u0,hu0⟩,z0⟩:=hcl (k*2) (by omega);obtain⟨⟨u1,hu1⟩,z1⟩:=hcl (k*2+1) (by omega);obtain⟨WD,hWD⟩:=eXi (wr.drew);have FD:Fr [] wr WD:=by rw[← hWD];exact (Fr.refl [] wr).drew
       have HQ:Hid (∀ V,Fr [] WD V→V.cell? (Ad ga (k*2))=some u0∧V.cell? (Ad ga (k*2+1))=some u1∧V.frozen? (Ad ga (k*2))=false∧V.frozen? (Ad ga (k*2+1))=false):=fun V F=>⟨((FD.trans F).cell (p:=Ad ga (k*2)) hgl (by simp)).trans hu0,((FD.trans F).cell (p:=Ad ga (k*2+1)) hgl (by simp)).trans hu1,((FD.trans F).frozen (p:=Ad ga (k*2)) hgl (by simp)).trans z0,((FD.trans F).frozen (p:=Ad ga (k*2+1)) hgl (by simp)).trans z1⟩;have HX:Hid (∀ V,Fr [] WD V→V.cell? (Ad X 9)=some (.slice (some (Ad ga 0)) an ac)):=fun V F=>((FD.trans F).cell (p:=Ad X 9) hXl (by simp)).trans e9;have HC:Hid (∀ V b,Fr [] WD V→WD.heap.size≤b→MapAt V b []→NwP (envP m) W1 (newTag t0 W.heap.size 9) X recs draws (.slice a0 n0 c0) (.slice (some (Ad ga 0)) an ac) recs.length m.pats.length m.fns.length (k+1) ((V.setCell ⟨ga,k*2,none⟩ (.map (some b))).setCell ⟨ga,k*2+1,none⟩ (.slice none 0 0))):=fun V b F hb hM=>J.out.arr_ (FD.trans F) (Nat.le_trans FD.size hb) hM (by rw[ean]) (by rw[ean];exact hlt);have HXg:Hid _:=hXg;clear FD J HE HT hgl hcl hu0 hu1 z0 z1 hXl e9 hXg hx;go_wp2_with fail;refine wp_region_heldD (fun V=>V.cell? (Ad X 9)=some (.slice (some (Ad ga 0)) an ac)) hm ?_;rw[hWD];have hS:WD.cell? (Ad X 9)=some (.slice (some (Ad ga 0)) an ac):=HX.out WD (Fr.refl _ _);refine wpAnyH_takes (fun _ _ _ _ _ h=>h) hS [0,1,2,3,4] (by kernel_rfl) ?_
       iterate 5
        refine Yls.cons (v:=?_) rfl (.inl ⟨rfl,fun w1 hS1=>?_⟩) ?_;rotate_left
        ·skip;go_simp
         first | rfl | (refine (if_neg (by omega)).trans ?_;rfl)
        simp only[Act.put,Zp,Zq]
       refine Yls.nil ?_;refine rd1 (r:=5) (by kernel_rfl) rfl fun K hK=>?_;go_simp;refine Calls.mono (newArray_any WD) ?_;rintro e V ⟨b,rfl,hb,hM,FV⟩;obtain⟨y0,y1,y2,y3⟩:=HQ.out V FV;have hN:=HC.out V b FV hb hM;have HN:Hid _:=hN;refine hK _ _ (HX.out V FV) ?_;have hS5:((V.setCell ⟨ga,k*2,none⟩ (.map (some b))).setCell ⟨ga,k*2+1,none⟩ (.slice none 0 0)).cell? (Ad X 9)=some (.slice (some (Ad ga 0)) an ac):=by
        rw[setCell_far (Ne.symm HXg.out),setCell_far (Ne.symm HXg.out)];exact HX.out V FV
       have hS2:=HX.out V FV;clear hK K HC HQ hb hM FV hN;intro _
       try simp only[Act.put,Zp,Zq]
       refine wpAnyH_takes (fun _ _ _ _ _ h=>h) hS2 [6] (by kernel_rfl) ?_
       iterate 1
        refine Yls.cons (v:=?_) rfl (.inl ⟨rfl,fun w1 hS1=>?_⟩) ?_;rotate_left
        ·skip;go_simp
         first | rfl | (refine (if_neg (by omega)).trans ?_;rfl)
        simp only[Act.put,Zp,Zq]
       refine Yls.nil ?_;refine rd1 (r:=7) (by kernel_rfl) rfl fun K hK=>?_;go_simp;refine hK _ _ hS5 ?_;clear hK K;intro _
       try simp only[Act.put,Zp,Zq]
       refine wpAnyH_done (by kernel_rfl) ?_ _;go_wp2_with fail;exact⟨⟨k+1,by omega,by go_num,HN⟩,by simp[intOf];omega⟩
      have e0:k=an:=by omega
      have g1:¬ (k:Int)<(an:Int):=by omega
      subst e0;have HC:Hid _:=HE.out wr X _ J.out;clear J HE HT;go_wp2_with fail;refine Calls.mono HC.out ?_;rintro e V ⟨rfl,g,tag,h1,h2,h3⟩;have HZ:Hid _:=AI h1 (AI h2 h3);clear h1 h2 h3 HC;go_wp2_with fail;go_ret;exact⟨X,g,tag,rfl,HZ.out.1,HZ.out.2.1,HZ.out.2.2⟩
end
namespace Mach
open Wire Flow
section
variable {E:Env}{n:Nat}{S:St}{w w':Wd}{f at_:Nat}{locs locs':List Val}{rest top top':List Cell}{c:Int}{u:Nat}{i:Stp}{go:Option Nat}
theorem Steps.op (h:Steps E n S ⟨w,[⟨f,at_,locs,rest++top⟩],0,c,u⟩)(hE:SmE E)(hM:ModOk E.mo)(hd:decodeL E.mo f (locsOf E.mo f) (codeOf E.mo f) at_=.inr i)(hl:top.length=(want (parOf E.mo) i.op i.a).length)(hop:(i.op==50 || i.op==51 || i.op==52)=false)(he:eff E w locs i.op i.a i.b top=⟨w',locs',top',0,0,go⟩) :
  Steps E (n+1) S ⟨w',[⟨f,go.getD i.nx,locs',rest++top'⟩],0,c,u+1⟩:=by
 have h2:=h.next hE hM rfl (low:=[]) (fr:=⟨f,at_,locs,rest++top⟩) rfl hd rfl hl;simp only[Bool.or_eq_false_iff,beq_eq_false_iff_ne] at hop;unfold Mach.does at h2;rw[if_neg hop.1.1,if_neg hop.1.2,if_neg hop.2] at h2;simp only[he] at h2;exact h2
theorem Steps.fault (h:Steps E n S ⟨w,[⟨f,at_,locs,rest++top⟩],0,c,u⟩)(hE:SmE E)(hM:ModOk E.mo)(hd:decodeL E.mo f (locsOf E.mo f) (codeOf E.mo f) at_=.inr i)(hl:top.length=(want (parOf E.mo) i.op i.a).length)(hop:(i.op==50 || i.op==51 || i.op==52)=false){st:Nat}{code:Int} (hst:st≠0) (he:eff E w locs i.op i.a i.b top=⟨w',locs',top',st,code,go⟩) :
  Steps E (n+1) S ⟨w',[⟨f,at_,locs,rest++top⟩],st,code,u+1⟩:=by
 have h2:=h.next hE hM rfl (low:=[]) (fr:=⟨f,at_,locs,rest++top⟩) rfl hd rfl hl;simp only[Bool.or_eq_false_iff,beq_eq_false_iff_ne] at hop;unfold Mach.does at h2;rw[if_neg hop.1.1,if_neg hop.1.2,if_neg hop.2] at h2;simp only[he,ne_eq,hst,not_false_eq_true,if_true] at h2;exact h2
theorem Steps.over_last (h:Steps E n S ⟨w,[⟨f,at_,[],[]⟩],0,c,u⟩)(hE:SmE E)(hM:ModOk E.mo){nx:Nat}(hd:decodeL E.mo f (locsOf E.mo f) (codeOf E.mo f) at_=.inr ⟨at_,nx,52,0,0⟩)(hf:f≠2)(hl:w.recs.drop w.nr=[]) :
  Steps E (n+1) S ⟨w,[enter E.mo 2 []],0,c,u+1⟩:=by
 have en:=next_none hl;have h2:=h.next hE hM rfl (low:=[]) (fr:=⟨f,at_,[],[]⟩) rfl hd (rest:=[]) (top:=[]) rfl rfl;unfold Mach.does at h2;rw[if_neg (show ¬ (52:Nat)=50 by decide),if_neg (show ¬ (52:Nat)=51 by decide),if_pos (show (52:Nat)=52 from rfl)] at h2;unfold over at h2;simp only[en,if_neg hf] at h2;exact h2
theorem Steps.over_end (h:Steps E n S ⟨w,[⟨2,at_,[],[]⟩],0,c,u⟩)(hE:SmE E)(hM:ModOk E.mo){nx:Nat}(hd:decodeL E.mo 2 (locsOf E.mo 2) (codeOf E.mo 2) at_=.inr ⟨at_,nx,52,0,0⟩) :
  Steps E (n+1) S ⟨w,[⟨2,at_,[],[]⟩],1,c,u+1⟩:=by
 have h2:=h.next hE hM rfl (low:=[]) (fr:=⟨2,at_,[],[]⟩) rfl hd (rest:=[]) (top:=[]) rfl rfl;exact h2
end
end Mach
end Go.Proofs.YtmolfmgchbjnbaaGreatDoor
