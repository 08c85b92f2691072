import Derived.Test.YtmolfmgchbjnbaaGreatDoorRows
import Derived.WalkSpells
import Derived.WalkLawsBesides
import Derived.BigQuiet
import Derived.Deep.Onto
import Derived.Deep.RegionWith
import Derived.Test.YtmolfmgchbjnbaaGreatDoorM03
import Derived.Test.YtmolfmgchbjnbaaGreatDoorM00
set_option linter.unusedSimpArgs false
set_option linter.unusedVariables false
set_option linter.unusedSectionVars false
set_option maxRecDepth 100000
set_option maxHeartbeats 40000000
open _root_.Go.Proofs.Tryz
namespace Go.Proofs.YtmolfmgchbjnbaaGreatDoor
open Go.RowKit
open Wire
def numV (l:LB):Nat:=match num l with
 | none=>0
 | some p=>p.1
def numK (l:LB):Nat:=match num l with
 | none=>0
 | some p=>l.length-p.2.length
theorem getD_bl (c:BA)(i:Nat)(h:i<c.size):(bl c).getD i 0=c[i]:=by
 have:i<(bl c).length:=by rw[bl_length];exact h
 rw[List.getD_eq_getElem?_getD,Lge this];simp only[bl,Option.getD_some,Array.getElem_toList];rfl
theorem wraps_u64 (n:Int)(h₀:0≤n)(h₁:n<18446744073709551616):IntKind.u64.wrap n=n:=by rw[IntKind.wrap_u64];omega
theorem pow7 (k:Nat)(hk:k<5):(2:Nat) ^ (7*k)≤268435456:=by
 have:(2:Nat) ^ (7*k)≤2 ^ 28:=Nat.pow_le_pow_right (by omega) (by omega);omega
theorem or_fact (A x k B:Nat)(hx:x<256)(hk:k<5)(hA:A<128 ^ k)(hB:A ||| ((x &&& 127) <<< (7*k))=B) :
  bits .or .u64 (A:Int) (IntKind.u64.wrap (IntKind.u64.wrap (bits .and .u8 (x:Int) 127)*2 ^ (7*k)))=(B:Int):=by
 have h1:bits .and .u8 (x:Int) 127=((x &&& 127:Nat):Int):=(bits_nat .u8 8 (by decide) (fun n a b=>wraps_u8 n a b) x 127 (by omega) (by omega)).1;have h2:x &&& 127≤127:=Nat.and_le_right;have h3:=pow7 k hk;have h4:(x &&& 127)*2 ^ (7*k)≤127*268435456:=Nat.mul_le_mul h2 h3;have h5:(((x &&& 127:Nat):Int)*2 ^ (7*k))=(((x &&& 127)*2 ^ (7*k):Nat):Int):=by push_cast;rfl
 have h6:(128:Nat) ^ k≤128 ^ 5:=Nat.pow_le_pow_right (by omega) (by omega);rw[h1,wraps_u64 (((x &&& 127:Nat):Int)) (by omega) (by omega),h5,wraps_u64 _ (by omega) (by omega),bits_or_u64_nat _ _ (by omega) (by omega),← hB,Nat.shiftLeft_eq]
theorem accN_small (c:LB)(k:Nat)(h:k≤5):accN c k<34359738368:=by
 have h6:(128:Nat) ^ k≤128 ^ 5:=Nat.pow_le_pow_right (by omega) (by omega);have:=accN_lt c k;have:=pow5;omega
theorem numRead_any (c:BA)(hs:c.size≤40000)(w:WL) :
  Calls prog 188 #[.string c] w fun e w'=>e=.returned (.tuple #[iA (numV (bl c)),iA (numK (bl c))])∧w'=w:=by
 have hL:=bl_length c;obtain⟨V,hV⟩:=eXi (numV (bl c));obtain⟨K,hK⟩:=eXi (numK (bl c));rw[hV,hK];have HV:Hid _:=hV;have HK:Hid _:=hK;clear hV hK;go_enter func188,ntmps188;go_wp2
 all_goals
  go_loop [4,5,10] (fun a i j=>∃ k:Nat,k≤5∧k≤c.size∧a=uA (accN (bl c) k)∧j=iA k∧∀ m,m<k→128≤((bl c).getD m 0).toNat) (fun _ _ i=>5-(intOf i).toNat)
  case atStart=>exact⟨0,by omega,by omega,rfl,rfl,by omega⟩
  case round=>
   obtain⟨k,hk5,hk,rfl,rfl,hall⟩:=hrel;have ha:=accN_lt (bl c) k;have ho:=accN_or (bl c) k;by_cases hlt:k<5∧k<c.size
   ·have g1:(k:Int)<c.size:=by omega
    have g2:(k:Int)<5:=by omega
    have gk:=getD_bl c k hlt.2;have hsm:=accN_small (bl c) (k+1) (by omega);have hst:=fun h0=>num_stop (c:=bl c) (i:=k) hlt.1 (by omega) hall h0;have hdl:((bl c).drop (k+1)).length=c.size-(k+1):=by rw[List.length_drop,hL]
    have hxl:=c[k].toNat_lt;rw[gk] at ho hst;obtain⟨A,hA⟩:=eXi (accN (bl c) k);obtain⟨B,hB⟩:=eXi (accN (bl c) (k+1));obtain⟨x,hx⟩:=eXi (c[k].toNat);rw[hA] at ha ho;rw[hB] at ho hsm hst;rw[hx] at ho hst hxl;simp only[hA];have hor:=or_fact A x k B (by omega) hlt.1 ha ho;have HB:Hid _:=hB;have Hst:Hid _:=hst;have Hall:Hid _:=hall;have Hgk:Hid _:=gk;clear hA ho hB hst hall ha gk;by_cases hx1:128≤x
    ·have g3:(128:Int)≤x:=by omega
     go_wp2
     go_round
     case rel=>
      refine⟨k+1,by omega,by omega,by rw[HB.out],by go_num,fun m hm=>?_⟩;by_cases e:m=k
      ·subst e;rw[Hgk.out,hx];exact hx1
      exact Hall.out m (by omega)
     case measure=>simp[intOf];omega
    have g3:¬ (128:Int)≤x:=by omega
    have hst:=Hst.out (by omega);clear Hst;by_cases hz:0<k∧x=0
    ·rw[if_pos hz] at hst;have g4:(0:Int)<k:=by omega
     have g5:(x:Int)=0:=by omega
     have g6:((x:Int)==0)=true:=by simp;omega
     obtain rfl:V=0:=by rw[← HV.out];simp only[numV,hst]
     obtain rfl:K=0:=by rw[← HK.out];simp only[numK,hst]
     obtain rfl:x=0:=hz.2;clear hst hz;go_wp2;go_ret2;exact⟨rfl,rfl⟩
    rw[if_neg hz] at hst;obtain rfl:V=B:=by rw[← HV.out];simp only[numV,hst]
    obtain rfl:K=k+1:=by rw[← HK.out];simp only[numK,hst,hdl,hL];omega
    clear hst HB;by_cases hk0:k=0
    ·have g4:¬ ((0:Int)<k):=by omega
     clear hk0;go_wp2;go_ret2;exact⟨rfl,rfl⟩
    have g4:(0:Int)<k:=by omega
    have g6:((x:Int)==0)=false:=by simp;omega
    have g5:¬ ((x:Int)=0):=by omega
    go_wp2;go_ret2;exact⟨rfl,rfl⟩
   have hst:=num_end (c:=bl c) (i:=k) hk5 (by omega) hall (by omega);obtain rfl:V=0:=by rw[← HV.out];simp only[numV,hst]
   obtain rfl:K=0:=by rw[← HK.out];simp only[numK,hst]
   clear hst ha ho;by_cases hks:(k:Int)<5
   ·have g1:¬ ((k:Int)<c.size):=by omega
    first
    | (exfalso;omega)
    | (go_wp2
       go_ret2;exact⟨rfl,rfl⟩)
   ·first
    | (exfalso;omega)
    | (have g1:¬ ((k:Int)<c.size):=by omega
       go_wp2;go_ret2;exact⟨rfl,rfl⟩)
    | (go_wp2
       go_ret2;exact⟨rfl,rfl⟩)
theorem infoB:(prog.info? 5).map (fun i=>(i.zero,i.size,i.bytes))=some (some (.int .u8 0),1,1):=by kernel_rfl
structure OwnB (w0:WL) (l:LB) (v:Value) (W:WL):Prop where
 own:W.ownsRow w0.heap.size 5 1 v l.length (Lib.byteCells l)
 fr:Fr [] w0 W
structure Grew (v:Value) (w:WL) (v':Value) (w':WL):Prop where
 by_:w.grownBy w' v.ownBlock
 blk:v'.ownBlock=v.ownBlock∨∃ g,v'.ownBlock=some g∧w.heap.size≤g
theorem grownBy_refl (w:WL)(r:Option Nat):w.grownBy w r:=⟨rfl,rfl,rfl,Nat.le_refl _,fun _ _ _=>rfl⟩
theorem Grew.refl (v:Value)(w:WL):Grew v w v w:=⟨grownBy_refl _ _,.inl rfl⟩
theorem Grew.trans {v v1 v2:Value}{w w1 w2:WL} (h:Grew v w v1 w1) (k:Grew v1 w1 v2 w2):Grew v w v2 w2:=by
 refine⟨⟨k.by_.os.trans h.by_.os,k.by_.tape.trans h.by_.tape,k.by_.output.trans h.by_.output,Nat.le_trans h.by_.size k.by_.size,fun b hb hn=>?_⟩,?_⟩
 ·rw[k.by_.block b (Nll hb h.by_.size) ?_,h.by_.block b hb hn];rcases h.blk with e | ⟨g,e,hg⟩
  ·rw[e];exact hn
  rw[e];intro e2;cases e2;omega
 have hs:=h.by_.size;rcases k.blk with e | ⟨g,e,hg⟩
 ·rcases h.blk with e2 | ⟨g2,e2,hg2⟩
  ·exact .inl (e.trans e2)
  exact .inr ⟨g2,e.trans e2,hg2⟩
 exact .inr ⟨g,e,by omega⟩
theorem Grew.alloc {v:Value}{w:WL} (o:Obj):Grew v w v (w.alloc o):=⟨⟨rfl,rfl,rfl,by simp,fun k hk _=>Below.heap_alloc _ _ _ hk⟩,.inl rfl⟩
theorem OwnB.start (w0:WL):OwnB w0 [] (.slice none 0 0) w0:=⟨World.ownsRow_nil _ _ _ _,Fr.refl _ _⟩
theorem Fr.grew {w w':WL}(h:Fr [] w w')(r:Option Nat):w.grownBy w' r:=⟨h.os,h.tape,h.output,h.size,fun k hk _=>h.block k hk (by simp)⟩
theorem OwnB.kept {w0:WL}{l:LB}{v:Value}{W W':WL} (h:OwnB w0 l v W) (hf:Fr [] W W'):OwnB w0 l v W':=
 ⟨h.own.kept (hf.grew none) (by cases hv:v.ownBlock <;> simp),h.fr.trans hf⟩
theorem OwnB.grown {w0:WL}{l l':LB}{v v':Value}{W W':WL} (h:OwnB w0 l v W) (hown:W'.ownsRow w0.heap.size 5 1 v' (l.length+l'.length) (Lib.byteCells l++Lib.byteCells l')) (hg:W.grownBy W' v.ownBlock):OwnB w0 (l++l') v' W':=by
 refine⟨by rw[Lla,Lib.byteCells,List.map_append];exact hown,?_⟩;refine⟨hg.os.trans h.fr.os,hg.tape.trans h.fr.tape,hg.output.trans h.fr.output,Nat.le_trans h.fr.size hg.size,fun k hk _=>?_⟩;have h1:=h.fr.size;rw[hg.block k (by omega) (fun e=>by have:=(h.own.lt k e.symm).1;omega),h.fr.block k hk (by simp)]
theorem bits_or_u8 (a b:Nat)(ha:a<256)(hb:b<256):bits .or .u8 (a:Int) (b:Int)=((a ||| b:Nat):Int):=
 (bits_nat .u8 8 (by decide) (fun n a b=>wraps_u8 n a b) a b (by omega) (by omega)).2
theorem or128 (n:Nat):bits .or .u8 ((n:Int) % 256) 128=(((UInt8.ofNat (128+n % 128)).toNat:Nat):Int):=by
 have h1:(n:Int) % 256=((n % 256:Nat):Int):=by omega
 rw[h1,show (128:Int)=((128:Nat):Int) by rfl,bits_or_u8 _ _ (by omega) (by omega)];have e:(UInt8.ofNat (128+n % 128)).toNat=128+n % 128:=by simp[UInt8.toNat_ofNat];omega
 rw[e];congr 1;have h2:n % 256=n % 128∨n % 256=128+n % 128:=by omega
 have h3:∀ m,m<128→m ||| 128=128+m:=fun m hm=>by
  have:=Nat.two_pow_add_eq_or_of_lt (i:=7) (b:=m) (by omega) 1;rw[Nat.or_comm];exact this.symm
 have h4:∀ m,m<128→(128+m) ||| 128=128+m:=fun m hm=>by
  rw[← h3 m hm,Nat.or_assoc,Nat.or_self]
 rcases h2 with h | h <;> rw[h]
 ·exact h3 _ (by omega)
 exact h4 _ (by omega)
theorem low8 (n:Nat)(h:n<128):n=(UInt8.ofNat n).toNat:=by
 have e:(UInt8.ofNat n).toNat=n:=by simp[UInt8.toNat_ofNat];omega
 exact e.symm
theorem one_byte (x:Int):∀ u ∈ [Value.int .u8 x],u.oneCell'=true:=by intro u hu;simp at hu;subst hu;rfl
theorem le_alloc {b:Nat}{w:WL} (o:Obj) (h:b≤w.heap.size):b≤(w.alloc o).heap.size:=by simp;omega
theorem le_maxLen {n m:Nat}(h:n+m≤4000000000):n+m≤maxLen:=by unfold maxLen;omega
theorem le_bytes {n m:Nat}(h:n+m≤4000000000):(n+m)*1≤140737488355328:=by omega
theorem digsF_len (f n:Nat):(digsF f n).length≤f:=by
 induction f generalizing n with
 | zero=>simp[digsF]
 | succ f ih=>
  simp only[digsF];split
  ·simp
  have:=ih (n / 128);simp;omega
theorem digs_len (n:Nat):(digs n).length≤10:=digsF_len 10 n
theorem numAppend_any (w0:WL)(l:LB)(v:Value)(n:Nat)(w:WL)(hn:n<9223372036854775808)(hl:l.length≤1000000000)(h:OwnB w0 l v w) :
  Calls prog 100 #[v,iA n] w fun e w'=>∃ v',e=.returned v'∧OwnB w0 (l++digs n) v' w'∧Grew v w v' w':=by
 obtain⟨i0,hi,hz0,hz1,hz2⟩:=info_parts infoB;have hDl:=digs_len n;obtain⟨D,hD⟩:=eXi (digs n);rw[hD] at hDl ⊢;have HD:Hid (l++digs n=l++D):=by rw[hD];exact rfl
 clear hD;have hDL:(l++D).length≤1000000010:=by rw[Lla];omega
 generalize l++D=E at *;clear hDl;go_enter func100,ntmps100;go_wp2
 go_loopw [0,1] (fun u m wr=>∃ (q:LB) (k:Nat),m=iA k∧k≤n∧Hid (q++digs k=E)∧OwnB w0 q u wr∧Grew v w u wr) (fun _ m _=>(intOf m).toNat)
 case atStart=>exact⟨l,n,rfl,by omega,HD,h,Grew.refl _ _⟩
 case round=>
  obtain⟨q,k,rfl,hk,hD,J,G⟩:=hrel;clear HD h;have hll:q.length≤1000000010:=by have:=congrArg List.length hD.out;rw[Lla] at this;omega
  have hown:=J.own;have hsz:=J.fr.size;by_cases h128:128≤k
  ·have g1:(127:Int)<k:=by omega
   have hor:=or128 k;have hd:=digs_ge h128 (by have:=pow9;omega);obtain⟨c,hc⟩:=eXi (UInt8.ofNat (128+k % 128));rw[hc] at hor hd;have Hd:Hid _:=hd;clear hc hd;go_wp2_with (at_builtin;refine wpList_append_own_at _ rfl _ _ 92 rfl w0.heap.size 5 i0 (.int .u8 0) 1 1 underlying92 hi hz0 hz1 hz2 rfl (by decide) _ _ _ rfl (hown.alloc _) (Ad wr.heap.size 0) 1 1 [.int .u8 c.toNat] rfl rfl (cell_one_new _ _ _) (one_byte _) (le_maxLen (by omega)) (le_bytes (by omega)) (le_alloc _ hsz) ?_);intro v' w3 hown' hgrow _ hat;have J3:=(J.kept ((Fr.refl [] wr).alloc _)).grown (l':=[c]) hown' hgrow;have G3:Grew v w v' w3:=(G.trans (Grew.alloc _)).trans ⟨hgrow,hat.elim .inl (fun e=>.inr ⟨_,e,by simp⟩)⟩;clear hown hown' hgrow hat J G;go_wp2;refine⟨⟨q++[c],k / 128,?_,by omega,?_,J3,G3⟩,?_⟩
   ·congr 1
   ·have:=hD.out;rw[Hd.out] at this;have e:q++[c]++digs (k / 128)=E:=by rw[← this];simp
    exact e
   simp[intOf];omega
  have g1:¬ (127:Int)<k:=by omega
  have hlow:=low8 k (by omega);have hd:=digs_lt (n:=k) (by omega);obtain⟨c,hc⟩:=eXi (UInt8.ofNat k);rw[hc] at hlow hd;have Hd:Hid _:=hd;clear hc hd;subst hlow;go_wp2_with (at_builtin;refine wpList_append_own_at _ rfl _ _ 92 rfl w0.heap.size 5 i0 (.int .u8 0) 1 1 underlying92 hi hz0 hz1 hz2 rfl (by decide) _ _ _ rfl (hown.alloc _) (Ad wr.heap.size 0) 1 1 [.int .u8 c.toNat] rfl rfl (cell_one_new _ _ _) (one_byte _) (le_maxLen (by omega)) (le_bytes (by omega)) (le_alloc _ hsz) ?_);intro v' w3 hown' hgrow _ hat;have J3:=(J.kept ((Fr.refl [] wr).alloc _)).grown (l':=[c]) hown' hgrow;have G3:Grew v w v' w3:=(G.trans (Grew.alloc _)).trans ⟨hgrow,hat.elim .inl (fun e=>.inr ⟨_,e,by simp⟩)⟩;clear hown hown' hgrow hat J G;have e:q++[c]=E:=by rw[← Hd.out];exact hD.out
  rw[e] at J3;go_wp2;go_ret;exact⟨v',rfl,J3,G3⟩
def StrsIn (W:WL) (v:Value) (L:LY):Prop:=
 ∃ (a0:OA) (cap g off:Nat),v=.slice a0 L.length cap∧L.length≤cap∧(0<L.length→a0=some ⟨g,off,none⟩∧g<W.heap.size) ∧
  ∀ (i:Nat) (x:BA),L[i]?=some x→W.cell? ⟨g,off+i,none⟩=some (.string x)
def FnsIn (W:WL) (v:Value) (L:List Wire.Fn):Prop:=
 ∃ (a0:OA) (cap g off:Nat),v=.slice a0 L.length cap∧L.length≤cap∧(0<L.length→a0=some ⟨g,off,none⟩∧g<W.heap.size) ∧
  ∀ (i:Nat) (x:Wire.Fn),L[i]?=some x→W.cell? ⟨g,off+i*3,none⟩=some (.int .i64 x.params)∧W.cell? ⟨g,off+i*3+1,none⟩=some (.int .i64 x.locs)∧W.cell? ⟨g,off+i*3+2,none⟩=some (.string x.code)
theorem StrsIn.fr {W W':WL}{v:Value}{L:LY} (h:StrsIn W v L) (hf:Fr [] W W'):StrsIn W' v L:=by
 obtain⟨a0,cap,g,off,hv,hc,ha,hx⟩:=h;refine⟨a0,cap,g,off,hv,hc,fun h0=>⟨(ha h0).1,Nll (ha h0).2 hf.size⟩,fun i x hi=>?_⟩;have h0:0<L.length:=by have:=(Lgs.1 hi).1;omega
 exact (hf.cell (p:=Ad g (off+i)) (ha h0).2 (by simp)).trans (hx i x hi)
theorem FnsIn.fr {W W':WL}{v:Value}{L:List Wire.Fn} (h:FnsIn W v L) (hf:Fr [] W W'):FnsIn W' v L:=by
 obtain⟨a0,cap,g,off,hv,hc,ha,hx⟩:=h;refine⟨a0,cap,g,off,hv,hc,fun h0=>⟨(ha h0).1,Nll (ha h0).2 hf.size⟩,fun i x hi=>?_⟩;have h0:0<L.length:=by have:=(Lgs.1 hi).1;omega
 obtain⟨x0,x1,x2⟩:=hx i x hi;exact⟨(hf.cell (p:=Ad g (off+i*3)) (ha h0).2 (by simp)).trans x0,(hf.cell (p:=Ad g (off+i*3+1)) (ha h0).2 (by simp)).trans x1,(hf.cell (p:=Ad g (off+i*3+2)) (ha h0).2 (by simp)).trans x2⟩
theorem strCells_bl (s:BA):Lib.strCells s=Lib.byteCells (bl s):=by
 simp[Lib.strCells,Lib.byteCells,bl]
theorem appendText_any (w0:WL)(l:LB)(v:Value)(s:BA)(w:WL)(hs:s.size≤100000)(hl:l.length≤900000000)(h:OwnB w0 l v w) :
  Calls prog 152 #[v,.string s] w fun e w'=>∃ v',e=.returned v'∧OwnB w0 (l++textB s) v' w':=by
 obtain⟨i0,hi,hz0,hz1,hz2⟩:=info_parts infoB;have hA:=numAppend_any w0 l v s.size w (by omega) (by omega) h;have hdl:=digs_len s.size;have hE:textB s=digs s.size++bl s:=rfl;have HE:Hid _:=hE;have hlen:(l++digs s.size).length≤900000010:=by rw[Lla];omega
 clear hE h;go_enter func152,ntmps152;go_wp2_with fail;refine hA.mono ?_;rintro e w1 ⟨v1,rfl,J,G⟩;clear hA G;obtain⟨q,hq⟩:=eXi (l++digs s.size);rw[hq] at hlen J;have hown:=J.own;have hsz:=J.fr.size;go_wp2_with (at_builtin;refine Lib.wpList_append_own_string _ rfl _ _ 92 9 rfl w0.heap.size 5 i0 underlying92 underlying9 hi hz0 hz1 hz2 _ _ _ rfl hown s rfl (by unfold maxLen;omega) (by omega) hsz ?_);intro v' w3 hown' hgrow _;rw[strCells_bl] at hown';have J3:=J.grown (l':=bl s) (by rw[bl_length];exact hown') hgrow;rw[← hq,List.append_assoc,← HE.out] at J3;clear hown hown' hgrow J;go_wp2;go_ret;exact⟨v',rfl,J3⟩
theorem textsB_take (L:LY)(k:Nat)(h:k<L.length):textsB (L.take (k+1))=textsB (L.take k)++textB L[k]:=by
 rw[List.take_succ_eq_append_getElem h];unfold textsB;rw[List.flatMap_append];simp
theorem textB_len (s:BA):(textB s).length≤10+s.size:=by
 have:=digs_len s.size;rw[textB,Lla,bl_length];omega
theorem textsB_len (L:LY)(n:Nat)(h:∀ s ∈ L,s.size≤n):(textsB L).length≤L.length*(10+n):=by
 induction L with
 | nil=>simp[textsB]
 | cons s L ih=>
  have h1:=ih (fun x hx=>h x (by simp[hx]));have h2:=textB_len s;have h3:=h s (by simp);have e:textsB (s :: L)=textB s++textsB L:=by simp[textsB]
  rw[e,Lla,List.length_cons,Nat.add_mul];omega
theorem appendTexts_any (tv:Value)(L:LY)(w:WL)(hs:∀ s ∈ L,s.size≤100)(hn:L.length≤1000)(hL:StrsIn w tv L) :
  Calls prog 99 #[.slice none 0 0,tv] w fun e w'=>∃ v',e=.returned v'∧OwnB w (listing L) v' w':=by
 obtain⟨a0,cap,g,off,rfl,hcap,ha,hx⟩:=hL;have hA:=numAppend_any w [] (.slice none 0 0) L.length w (by omega) (by simp) (OwnB.start w);have hdl:=digs_len L.length;have HE:Hid (listing L=digs L.length++textsB L):=rfl;obtain⟨d,hd⟩:=eXi (digs L.length);rw[List.nil_append,hd] at hA;rw[hd] at hdl HE;clear hd;have Hs:Hid _:=hs;have Hx:Hid _:=hx;have Ha:Hid _:=ha;clear hs hx ha;go_enter func99,ntmps99;go_wp2_with fail;refine hA.mono ?_;rintro e w1 ⟨v1,rfl,J,G⟩;clear hA G;go_wp2
 go_loopw [0,13] (fun u i wr=>∃ k:Nat,k≤L.length∧i=iA k∧OwnB w (d++textsB (L.take k)) u wr) (fun _ i _=>L.length-(intOf i).toNat)
 case atStart=>exact⟨0,by omega,rfl,by simpa [textsB] using J⟩
 case round=>
  clear J;obtain⟨k,hk,rfl,J⟩:=hrel;by_cases hlt:k<L.length
  ·obtain⟨rfl,hg⟩:=Ha.out (by omega);have g1:(k:Int)<L.length:=by omega
   have c1:wr.cell? (Ad g (off+k))=some (.string L[k]):=(J.fr.cell (p:=Ad g (off+k)) hg (by simp)).trans (Hx.out k _ (Lge hlt));have hsz:=Hs.out L[k] (List.getElem_mem hlt);have htl:=textsB_len (L.take k) 100 (fun s hs=>Hs.out s (List.mem_of_mem_take hs));have htk:(L.take k).length≤1000:=by rw[List.length_take];omega
   have hT:=appendText_any w (d++textsB (L.take k)) u0 L[k] wr (by omega) (by rw[Lla];omega) J;have htake:=textsB_take L k hlt;obtain⟨s,hsk⟩:=eXi (L[k]);rw[hsk] at c1 hT htake;rw[List.append_assoc,← htake] at hT;clear htake htl htk hsz J;go_wp2_with fail;refine hT.mono ?_;rintro e w3 ⟨v3,rfl,J3⟩;clear hT;go_wp2;exact⟨⟨k+1,by omega,by go_num,J3⟩,by simp[intOf];omega⟩
  obtain rfl:k=L.length:=by omega
  have g1:¬ ((L.length:Int)<L.length):=by omega
  rw[List.take_length,← HE.out] at J;go_wp2;go_ret;exact⟨u0,rfl,J⟩
theorem fnsB_take (L:List Wire.Fn)(k:Nat)(h:k<L.length):fnsB (L.take (k+1))=fnsB (L.take k)++fnB L[k]:=by
 rw[List.take_succ_eq_append_getElem h];unfold fnsB;rw[List.flatMap_append];simp
theorem fnB_len (f:Wire.Fn)(h:f.code.size≤20000):(fnB f).length≤20030:=by
 have h1:=digs_len f.params.toNat;have h2:=digs_len f.locs.toNat;have h3:=textB_len f.code;rw[fnB,Lla,Lla];omega
theorem fnsB_len (L:List Wire.Fn)(h:∀ s ∈ L,s.code.size≤20000):(fnsB L).length≤L.length*20030:=by
 induction L with
 | nil=>simp[fnsB]
 | cons s L ih=>
  have h1:=ih (fun x hx=>h x (by simp[hx]));have h2:=fnB_len s (h s (by simp));have e:fnsB (s :: L)=fnB s++fnsB L:=by simp[fnsB]
  rw[e,Lla,List.length_cons,Nat.add_mul];omega
theorem appendFuncs_any (tv:Value)(L:List Wire.Fn)(w:WL)(hs:∀ s ∈ L,s.code.size≤20000∧0≤s.params∧s.params≤100∧0≤s.locs∧s.locs≤100)(hn:L.length≤1000)(hL:FnsIn w tv L) :
  Calls prog 101 #[.slice none 0 0,tv] w fun e w'=>∃ v',e=.returned v'∧OwnB w (fnsL L) v' w':=by
 obtain⟨a0,cap,g,off,rfl,hcap,ha,hx⟩:=hL;have hA:=numAppend_any w [] (.slice none 0 0) L.length w (by omega) (by simp) (OwnB.start w);have hdl:=digs_len L.length;have HE:Hid (fnsL L=digs L.length++fnsB L):=rfl;obtain⟨d,hd⟩:=eXi (digs L.length);rw[List.nil_append,hd] at hA;rw[hd] at hdl HE;clear hd;have Hs:Hid _:=hs;have Hx:Hid _:=hx;have Ha:Hid _:=ha;clear hs hx ha;go_enter func101,ntmps101;go_wp2_with fail;refine hA.mono ?_;rintro e w1 ⟨v1,rfl,J,G⟩;clear hA G;go_wp2
 go_loopw [0,13] (fun u i wr=>∃ k:Nat,k≤L.length∧i=iA k∧OwnB w (d++fnsB (L.take k)) u wr) (fun _ i _=>L.length-(intOf i).toNat)
 case atStart=>exact⟨0,by omega,rfl,by simpa [fnsB] using J⟩
 case round=>
  clear J;obtain⟨k,hk,rfl,J⟩:=hrel;by_cases hlt:k<L.length
  ·obtain⟨rfl,hg⟩:=Ha.out (by omega);have g1:(k:Int)<L.length:=by omega
   obtain⟨x0,x1,x2⟩:=Hx.out k _ (Lge hlt);have c0:=(J.fr.cell (p:=Ad g (off+k*3)) hg (by simp)).trans x0;have c1:=(J.fr.cell (p:=Ad g (off+k*3+1)) hg (by simp)).trans x1;have c2:=(J.fr.cell (p:=Ad g (off+k*3+2)) hg (by simp)).trans x2;obtain⟨hsz,hp0,hp1,hl0,hl1⟩:=Hs.out L[k] (List.getElem_mem hlt);have htl:=fnsB_len (L.take k) (fun s hs=>(Hs.out s (List.mem_of_mem_take hs)).1);have htk:(L.take k).length≤1000:=by rw[List.length_take];omega
   have hq:(d++fnsB (L.take k)).length≤30000000:=by rw[Lla];omega
   have htake:=fnsB_take L k hlt;have HF:Hid (d++fnsB (L.take (k+1))=(((d++fnsB (L.take k))++digs L[k].params.toNat)++digs L[k].locs.toNat)++textB L[k].code):=by
    show _=_;rw[htake];simp[fnB]
   obtain⟨⟨p,lc,co⟩,hsk⟩:∃ s,L[k]=s:=⟨_,rfl⟩;rw[hsk] at c0 c1 c2 HF hsz hp0 hp1 hl0 hl1;simp only at c0 c1 c2 HF hsz hp0 hp1 hl0 hl1;generalize d++fnsB (L.take k)=q at J HF hq;clear htake htl htk hsk x0 x1 x2;obtain⟨pn,rfl⟩:=Int.eq_ofNat_of_zero_le hp0;obtain⟨ln,rfl⟩:=Int.eq_ofNat_of_zero_le hl0;simp only[Int.toNat_natCast] at HF;have hd1:=digs_len pn;have hd2:=digs_len ln;obtain⟨F,hF⟩:=eXi (d++fnsB (L.take (k+1)));rw[hF] at HF;have HFF:Hid _:=hF;clear hF;have hub:∀ g,u0.ownBlock=some g→g<wr.heap.size:=fun g hg=>(J.own.lt g hg).2;have hW:=(Grew.alloc (v:=u0) (w:=wr) (.cells #[iA pn,iA ln,Value.string co] 112));have JW:=J.kept ((Fr.refl [] wr).alloc (.cells #[iA pn,iA ln,Value.string co] 112));have hnew:=wan wr (.cells #[iA pn,iA ln,Value.string co] 112);have hlt2:wr.heap.size<(wr.alloc (.cells #[iA pn,iA ln,Value.string co] 112)).heap.size:=by simp
   go_wp2_with fail;obtain⟨W,hWW⟩:=eXi (wr.alloc (.cells #[iA pn,iA ln,Value.string co] 112));rw[hWW] at hW JW hnew hlt2 ⊢;clear hWW J;have kept:∀ {v':Value}{W':WL},Grew u0 W v' W'→W'.heap[wr.heap.size]?=some (.cells #[iA pn,iA ln,Value.string co] 112):=fun G=>by
    rw[G.by_.block _ hlt2 (fun e=>by have:=hub _ e.symm;omega),hnew]
   have Hkept:Hid _:=@kept;clear kept hnew;refine (numAppend_any w q u0 pn W (by omega) (by omega) JW).mono ?_;rintro e w3 ⟨v3,rfl,J3,G3⟩;have c3:w3.cell? (Ad wr.heap.size 1)=some (iA ln):=by unfold World.cell?;rw[Hkept.out G3];rfl
   clear JW c0 c1 c2;go_wp2_with fail;refine (numAppend_any w _ v3 ln w3 (by omega) (by rw[Lla];omega) J3).mono ?_;rintro e w4 ⟨v4,rfl,J4,G4⟩;have c4:w4.cell? (Ad wr.heap.size 2)=some (.string co):=by unfold World.cell?;rw[Hkept.out (G3.trans G4)];rfl
   clear J3 c3;go_wp2_with fail;refine (appendText_any w _ v4 co w4 (by omega) (by rw[Lla,Lla];omega) J4).mono ?_;rintro e w5 ⟨v5,rfl,J5⟩;rw[← HF.out,← HFF.out] at J5;clear J4 c4;go_wp2;exact⟨⟨k+1,by omega,by go_num,J5⟩,by simp[intOf];omega⟩
  obtain rfl:k=L.length:=by omega
  have g1:¬ ((L.length:Int)<L.length):=by omega
  rw[List.take_length,← HE.out] at J;go_wp2;go_ret;exact⟨u0,rfl,J⟩
theorem OwnB.row {w0:WL}{l:LB}{v:Value}{W:WL} (h:OwnB w0 l v W) (hl:l≠[]):∃ g cap,v=.slice (some (Ad g 0)) l.length cap∧w0.heap.size≤g∧g<W.heap.size ∧
  ∀ j u,(Lib.byteCells l)[j]?=some u→W.cell? (((Ad g 0):Addr).add j)=some u:=by
 rcases h.own.2 with ⟨hv,h0⟩ | ⟨g,cap,cur,hv,hb,hg,hn,_⟩
 ·exact absurd (List.eq_nil_of_length_eq_zero h0) hl
 exact⟨g,cap,hv,hb,(Age.1 hg).1,h.own.cells (g:=g) (by rw[hv];rfl)⟩
theorem bytes_one (l:LB):∀ u ∈ Lib.byteCells l,u.oneCell'=true:=by
 intro u hu;obtain⟨b,_,rfl⟩:=List.mem_map.1 hu;rfl
theorem appendSection_any (w0:WL)(l:LB)(v:Value)(k:Nat)(c:LB)(g cap:Nat)(w:WL)(hk:k<256)(hl:l.length≤500000000)(hc:c.length≤100000000)(h:OwnB w0 l v w)
  (hg:g<w.heap.size) (hne:v.ownBlock≠some g) (hcell:∀ j u,(Lib.byteCells c)[j]?=some u→w.cell? (((Ad g 0):Addr).add j)=some u) :
  Calls prog 98 #[v,.int .u8 k,.slice (some (Ad g 0)) c.length cap] w fun e w'=>∃ v',e=.returned v'∧OwnB w0 (l++sect k c) v' w'∧Grew v w v' w':=by
 obtain⟨i0,hi,hz0,hz1,hz2⟩:=info_parts infoB;have hown:=h.own;have hsz:=h.fr.size;have hkk:(k:Int)=((UInt8.ofNat k).toNat:Int):=by simp[UInt8.toNat_ofNat];omega
 have HE:Hid (sect k c=UInt8.ofNat k :: (digs c.length++c)):=rfl;obtain⟨b,hb⟩:=eXi (UInt8.ofNat k);rw[hb] at hkk HE;obtain⟨S,hS⟩:=eXi (sect k c);rw[hS] at HE ⊢;rw[hkk];clear hb hkk hS;go_enter func98,ntmps98;go_wp2_with (at_builtin;refine wpList_append_own_at _ rfl _ _ 92 rfl w0.heap.size 5 i0 (.int .u8 0) 1 1 underlying92 hi hz0 hz1 hz2 rfl (by decide) _ _ _ rfl (hown.alloc _) (Ad w.heap.size 0) 1 1 [.int .u8 b.toNat] rfl rfl (cell_one_new _ _ _) (one_byte _) (le_maxLen (by omega)) (le_bytes (by omega)) (le_alloc _ hsz) ?_);intro v' w3 hown' hgrow _ hat;have J3:=(h.kept ((Fr.refl [] w).alloc _)).grown (l':=[b]) hown' hgrow;have G3:Grew v w v' w3:=(Grew.alloc _).trans ⟨hgrow,hat.elim .inl (fun e=>.inr ⟨_,e,by simp⟩)⟩;clear hown hown' hgrow hat h;go_wp2_with fail;refine (numAppend_any w0 _ v' c.length w3 (by omega) (by rw[Lla];simp;omega) J3).mono ?_;rintro e w4 ⟨v4,rfl,J4,G4⟩;have G:=G3.trans G4;have c4:∀ j u,(Lib.byteCells c)[j]?=some u→w4.cell? (((Ad g 0):Addr).add j)=some u:=fun j u hj=>
  (World.cell?_of_block (w:=w) (a:=((Ad g 0):Addr).add j) (by rw[show (((Ad g 0):Addr).add j).block=g from by cases j <;> simp[Addr.add]];exact G.by_.block g hg (fun e=>hne e.symm))).trans (hcell j u hj)
 have hdl:=digs_len c.length;have hE:S=[b]++digs c.length++c:=HE.out;obtain⟨q,hq⟩:=eXi (l++[b]++digs c.length);rw[hq] at J4;have hql:q.length≤500000011:=by rw[← hq,Lla,Lla];simp;omega
 have HE2:Hid (l++S=q++c):=by show _=_;rw[hE,← hq];simp
 have hown:=J4.own;have hsz4:=J4.fr.size;clear J3 G3 G4 hE hq hcell HE;go_wp2_with (at_builtin;refine wpList_append_own_at _ rfl _ _ 92 rfl w0.heap.size 5 i0 (.int .u8 0) 1 1 underlying92 hi hz0 hz1 hz2 rfl (by decide) _ _ _ rfl hown (Ad g 0) c.length cap (Lib.byteCells c) rfl (by simp[Lib.byteCells]) c4 (bytes_one _) (le_maxLen (by omega)) (le_bytes (by omega)) hsz4 ?_);intro v5 w5 hown' hgrow _ hat;have J5:=J4.grown (l':=c) hown' hgrow;rw[← HE2.out] at J5;have G5:Grew v w v5 w5:=G.trans ⟨hgrow,hat.elim .inl (fun e=>.inr ⟨_,e,Nat.le_refl _⟩)⟩;clear hown hown' hgrow hat J4 c4 HE2 G;go_wp2;go_ret;exact⟨v5,rfl,J5,G5⟩
def Full (w0:WL) (l:LB) (v:Value) (W:WL):Prop:=
 ∃ g:Nat,v=.slice (some ⟨g,0,none⟩) l.length l.length∧w0.heap.size≤g∧g<W.heap.size∧(∀ j u,(Lib.byteCells l)[j]?=some u→W.cell? ((⟨g,0,none⟩:Addr).add j)=some u)∧Fr [] w0 W
theorem Full.kept {w0:WL}{l:LB}{v:Value}{W W':WL} (h:Full w0 l v W) (hf:Fr [] W W'):Full w0 l v W':=by
 obtain⟨g,hv,h0,h1,hc,hw⟩:=h;refine⟨g,hv,h0,Nll h1 hf.size,fun j u hj=>?_,hw.trans hf⟩;rw[← hc j u hj];exact World.cell?_of_block (w:=W) (by rw[show (((Ad g 0):Addr).add j).block=g from by cases j <;> simp[Addr.add]];exact hf.block g h1 (by simp))
theorem appendSection_full (w0:WL)(l:LB)(v:Value)(k:Nat)(c:LB)(g cap:Nat)(w:WL)(hk:k<256)(hl:l.length≤500000000)(hc:c.length≤100000000)(h:Full w0 l v w)
  (hg:g<w.heap.size) (hne:v.ownBlock≠some g) (hcell:∀ j u,(Lib.byteCells c)[j]?=some u→w.cell? (((Ad g 0):Addr).add j)=some u) :
  Calls prog 98 #[v,.int .u8 k,.slice (some (Ad g 0)) c.length cap] w fun e w'=>∃ v',e=.returned v'∧OwnB w0 (l++sect k c) v' w'∧Grew v w v' w':=by
 obtain⟨i0,hi,hz0,hz1,hz2⟩:=info_parts infoB;obtain⟨gv,rfl,hgv0,hgv1,hvc,hvf⟩:=h;have hsz:=hvf.size;have hvc2:∀ b:Addr,(some (Ad gv 0):OA)=some b→∀ j u,(Lib.byteCells l)[j]?=some u→(w.alloc (.cells #[Value.int .u8 (UInt8.ofNat k).toNat] 5)).cell? (b.add j)=some u:=fun b hb j u hj=>by
  cases hb;rw[← hvc j u hj];exact World.cell?_of_block (w:=w) (by rw[show (((Ad gv 0):Addr).add j).block=gv from by cases j <;> simp[Addr.add]];exact Below.heap_alloc _ _ _ hgv1)
 have hkk:(k:Int)=((UInt8.ofNat k).toNat:Int):=by simp[UInt8.toNat_ofNat];omega
 have HE:Hid (sect k c=UInt8.ofNat k :: (digs c.length++c)):=rfl;obtain⟨b,hb⟩:=eXi (UInt8.ofNat k);rw[hb] at hkk HE hvc2;obtain⟨S,hS⟩:=eXi (sect k c);rw[hS] at HE ⊢;rw[hkk];clear hb hkk hS;go_enter func98,ntmps98;go_wp2_with (at_builtin;refine wpList_append_grows _ rfl _ _ 92 rfl 5 i0 (.int .u8 0) 1 1 underlying92 hi hz0 hz1 hz2 rfl (by decide) (some (Ad gv 0)) l.length l.length (Lib.byteCells l) rfl (fun h=>by cases h) (by simp[Lib.byteCells]) hvc2 (Ad w.heap.size 0) 1 1 [.int .u8 b.toNat] rfl rfl (cell_one_new _ _ _) (one_byte _) (by omega) (le_maxLen (by omega)) (le_bytes (by omega)) ?_);intro v' w3 hown' hgrow;have J3:OwnB w0 (l++[b]) v' w3:=by
  refine⟨?_,?_⟩
  ·rw[Lla,Lib.byteCells,List.map_append];exact World.ownsRow.mono hown' (by omega)
  exact⟨hgrow.os.trans hvf.os,hgrow.tape.trans hvf.tape,hgrow.output.trans hvf.output,Nat.le_trans (le_alloc _ hsz) hgrow.size,fun k hk hn=>
   (hgrow.block k (Nll hk (le_alloc _ hsz)) (by simp)).trans ((Below.heap_alloc _ _ _ (by omega)).trans (hvf.block k hk hn))⟩
 have G3:Grew (.slice (some (Ad gv 0)) l.length l.length) w v' w3:=(Grew.alloc _).trans ⟨⟨hgrow.os,hgrow.tape,hgrow.output,hgrow.size,fun k hk _=>hgrow.block k hk (by simp)⟩,by
  cases hv:v'.ownBlock with
  | none=>
   exfalso;rcases hown'.2 with ⟨rfl,h0⟩ | ⟨g',cap',cur',rfl,_⟩
   ·omega
   cases hv
  | some g'=>exact .inr ⟨g',rfl,by have:=(hown'.lt g' hv).1;simp;omega⟩⟩
 clear hown' hgrow hvc hvc2 hvf;go_wp2_with fail;refine (numAppend_any w0 _ v' c.length w3 (by omega) (by rw[Lla];simp;omega) J3).mono ?_;rintro e w4 ⟨v4,rfl,J4,G4⟩;have G:=G3.trans G4;have c4:∀ j u,(Lib.byteCells c)[j]?=some u→w4.cell? (((Ad g 0):Addr).add j)=some u:=fun j u hj=>
  (World.cell?_of_block (w:=w) (a:=((Ad g 0):Addr).add j) (by rw[show (((Ad g 0):Addr).add j).block=g from by cases j <;> simp[Addr.add]];exact G.by_.block g hg (fun e=>hne e.symm))).trans (hcell j u hj)
 have hdl:=digs_len c.length;have hE:S=[b]++digs c.length++c:=HE.out;obtain⟨q,hq⟩:=eXi (l++[b]++digs c.length);rw[hq] at J4;have hql:q.length≤500000011:=by rw[← hq,Lla,Lla];simp;omega
 have HE2:Hid (l++S=q++c):=by show _=_;rw[hE,← hq];simp
 have hown:=J4.own;have hsz4:=J4.fr.size;clear J3 G3 G4 hE hq hcell HE;go_wp2_with (at_builtin;refine wpList_append_own_at _ rfl _ _ 92 rfl w0.heap.size 5 i0 (.int .u8 0) 1 1 underlying92 hi hz0 hz1 hz2 rfl (by decide) _ _ _ rfl hown (Ad g 0) c.length cap (Lib.byteCells c) rfl (by simp[Lib.byteCells]) c4 (bytes_one _) (le_maxLen (by omega)) (le_bytes (by omega)) hsz4 ?_);intro v5 w5 hown' hgrow _ hat;have J5:=J4.grown (l':=c) hown' hgrow;rw[← HE2.out] at J5;have G5:Grew (.slice (some (Ad gv 0)) l.length l.length) w v5 w5:=G.trans ⟨hgrow,hat.elim .inl (fun e=>.inr ⟨_,e,Nat.le_refl _⟩)⟩;clear hown hown' hgrow hat J4 c4 HE2 G;go_wp2;go_ret;exact⟨v5,rfl,J5,G5⟩
structure ModIn (W:WL) (v:Value) (m:Mo):Prop where
 is:∃ tv pv fv,v=.agg #[tv,pv,.int .i64 m.globs,.int .i64 m.arrs,fv]∧StrsIn W tv m.texts∧StrsIn W pv m.pats∧FnsIn W fv m.fns
theorem ModIn.fr {W W':WL}{v:Value}{m:Mo} (h:ModIn W v m) (hf:Fr [] W W'):ModIn W' v m:=by
 obtain⟨tv,pv,fv,h1,h2,h3,h4⟩:=h.is;exact⟨tv,pv,fv,h1,h2.fr hf,h3.fr hf,h4.fr hf⟩
theorem digs_ne (n:Nat)(h:n<9223372036854775808):digs n≠[]:=by
 by_cases hl:n<128
 ·rw[digs_lt hl];simp
 rw[digs_ge (by omega) (by have:=pow9;omega)];simp
theorem listing_len (L:LY)(h:∀ s ∈ L,s.size≤100)(hn:L.length≤1000):(listing L).length≤200000∧listing L≠[]:=by
 have h1:=digs_len L.length;have h2:=textsB_len L 100 h;exact⟨by rw[listing,Lla];omega,List.append_ne_nil_of_left_ne_nil (digs_ne _ (by omega)) _⟩
theorem fnsL_len (L:List Wire.Fn)(h:∀ s ∈ L,s.code.size≤20000)(hn:L.length≤1000):(fnsL L).length≤30000000∧fnsL L≠[]:=by
 have h1:=digs_len L.length;have h2:=fnsB_len L h;exact⟨by rw[fnsL,Lla];omega,List.append_ne_nil_of_left_ne_nil (digs_ne _ (by omega)) _⟩
theorem lawfulAll_mem (L:List Wire.Fn)(i:Nat)(h:lawfulAll L i=true):∀ s ∈ L,s.code.size≤20000∧0≤s.params∧s.params≤100∧0≤s.locs∧s.locs≤100:=by
 induction L generalizing i with
 | nil=>simp
 | cons f L ih=>
  simp only[lawfulAll,Bool.and_eq_true] at h;intro s hs;cases List.mem_cons.1 hs with
  | inl e=>
   subst e;have:=lawful_iff.1 h.1;omega
  | inr e=>exact ih _ h.2 s e
theorem sect_len (k:Nat)(c:LB):(sect k c).length≤c.length+11:=by
 have:=digs_len c.length;rw[sect_length];omega
theorem content_far {w0 W W':WL}{l c:LB}{v v':Value} (h:OwnB w0 l v W) (hc:OwnB W c v' W') (hne:c≠[]):∃ g cap,v'=.slice (some (Ad g 0)) c.length cap∧g<W'.heap.size∧v.ownBlock≠some g ∧
  ∀ j u,(Lib.byteCells c)[j]?=some u→W'.cell? (((Ad g 0):Addr).add j)=some u:=by
 obtain⟨g,cap,hv,hb,hlt,hx⟩:=hc.row hne;exact⟨g,cap,hv,hlt,fun e=>by have:=(h.own.lt g e).2;omega,hx⟩
theorem section_step {w0 W W2:WL}{q c:LB}{u v2:Value}{k:Nat}{kI:Int} (hkI:kI=(k:Int)) (hk:k<256) (hJ:OwnB w0 q u W) (hc:OwnB W c v2 W2) (hne:c≠[]) (hq:q.length≤500000000) (hl:c.length≤100000000) :
  Calls prog 98 #[u,.int .u8 kI,v2] W2 fun e w'=>∃ v',e=.returned v'∧OwnB w0 (q++sect k c) v' w'∧Grew u W v' w':=by
 subst hkI;obtain⟨g,cap,rfl,hg,hn,hx⟩:=content_far hJ hc hne;refine (appendSection_any w0 q u k c g cap W2 hk hq hl (hJ.kept hc.fr) hg hn hx).mono ?_;rintro e w' ⟨v',rfl,J,G⟩;exact⟨v',rfl,J,Grew.trans ⟨hc.fr.grew _,.inl rfl⟩ G⟩
theorem section_step_full {w0 W W2:WL}{q c:LB}{u v2:Value}{k:Nat}{kI:Int} (hkI:kI=(k:Int)) (hk:k<256) (hJ:Full w0 q u W) (hc:OwnB W c v2 W2) (hne:c≠[]) (hq:q.length≤500000000) (hl:c.length≤100000000) :
  Calls prog 98 #[u,.int .u8 kI,v2] W2 fun e w'=>∃ v',e=.returned v'∧OwnB w0 (q++sect k c) v' w'∧Grew u W v' w':=by
 subst hkI;obtain⟨g,cap,rfl,hb,hg,hx⟩:=hc.row hne;have hn:u.ownBlock≠some g:=by
  obtain⟨gu,rfl,_,h1,_⟩:=hJ;intro e;have e2:gu=g:=by simpa [Value.ownBlock] using e
  omega
 refine (appendSection_full w0 q u k c g cap W2 hk hq hl (hJ.kept hc.fr) hg hn hx).mono ?_;rintro e w' ⟨v',rfl,J,G⟩;exact⟨v',rfl,J,Grew.trans ⟨hc.fr.grew _,.inl rfl⟩ G⟩
theorem appendSections_any (w0:WL)(l:LB)(v mv:Value)(m:Mo)(ip:BA→Bool)(w:WL)(hl:l.length≤100)(h:Full w0 l v w)(hM:ModIn w0 mv m)(hw:within ip m=true) :
  Calls prog 42 #[v,mv] w fun e w'=>∃ v',e=.returned v' ∧
   OwnB w0 (l++sect 1 (listing m.texts)++sect 2 (listing m.pats)++sect 3 (digs m.globs.toNat)++sect 4 (digs m.arrs.toNat)++sect 5 (fnsL m.fns)) v' w':=by
 obtain⟨tv,pv,fv,rfl,hT,hP,hF⟩:=hM.is;obtain⟨q1,q2,q3,q4,q5,q6,q7,q8,q9,q10,q11⟩:=Wire.within_iff.1 hw;have f11:=lawfulAll_mem _ _ q11;obtain⟨texts,pats,globs,arrs,fns⟩:=m;simp only at *;obtain⟨gn,rfl⟩:=Int.eq_ofNat_of_zero_le q5;obtain⟨an,rfl⟩:=Int.eq_ofNat_of_zero_le q7;simp only[Int.toNat_natCast];obtain⟨l1,n1⟩:=listing_len texts q9 q1;obtain⟨l2,n2⟩:=listing_len pats (fun s hs=>by have:=(q10 s hs).1;omega) q2;have l3:=digs_len gn;have l4:=digs_len an;have n3:=digs_ne gn (by omega);have n4:=digs_ne an (by omega);obtain⟨l5,n5⟩:=fnsL_len fns (fun s hs=>(f11 s hs).1) q4;have s1:=sect_len 1 (listing texts);have s2:=sect_len 2 (listing pats);have s3:=sect_len 3 (digs gn);have s4:=sect_len 4 (digs an);have a1:=fun (W:WL) (f:Fr [] w0 W)=>appendTexts_any tv texts W q9 q1 (hT.fr f);have a2:=fun (W:WL) (f:Fr [] w0 W)=>appendTexts_any pv pats W (fun s hs=>by have:=(q10 s hs).1;omega) q2 (hP.fr f);have a5:=fun (W:WL) (f:Fr [] w0 W)=>appendFuncs_any fv fns W f11 q4 (hF.fr f);obtain⟨ta,tc,tg,tz,rfl,-⟩:=id hT;obtain⟨pa,pc,pg,po,rfl,-⟩:=id hP;obtain⟨fa,fc,fg,fo,rfl,-⟩:=id hF;have A1:Hid _:=a1;have A2:Hid _:=a2;have A5:Hid _:=a5;generalize listing texts=c1 at *;generalize listing pats=c2 at *;have a3:=fun (W:WL)=>numAppend_any W [] (.slice none 0 0) gn W (by omega) (by simp) (OwnB.start W);have a4:=fun (W:WL)=>numAppend_any W [] (.slice none 0 0) an W (by omega) (by simp) (OwnB.start W);simp only[List.nil_append] at a3 a4;have A3:Hid _:=a3;have A4:Hid _:=a4;generalize digs gn=c3 at *;generalize digs an=c4 at *;generalize fnsL fns=c5 at *;clear a1 a2 a3 a4 a5 hT hP hF hw hM q3 q6 q8 q9 q10 q11 f11;go_enter func42,ntmps42;have hub:∀ g,v.ownBlock=some g→g<w.heap.size:=fun g hg=>by
  obtain⟨gv,rfl,_,h1,_⟩:=h;cases hg;exact h1
 have JW:=h.kept ((Fr.refl [] w).alloc (.cells #[Value.slice ta texts.length tc,Value.slice pa pats.length pc,iA gn,iA an,Value.slice fa fns.length fc] 70));have hnew:=wan w (.cells #[Value.slice ta texts.length tc,Value.slice pa pats.length pc,iA gn,iA an,Value.slice fa fns.length fc] 70);have hlt2:w.heap.size<(w.alloc (.cells #[Value.slice ta texts.length tc,Value.slice pa pats.length pc,iA gn,iA an,Value.slice fa fns.length fc] 70)).heap.size:=by simp
 go_wp2_with fail;obtain⟨W,hWW⟩:=eXi (w.alloc (.cells #[Value.slice ta texts.length tc,Value.slice pa pats.length pc,iA gn,iA an,Value.slice fa fns.length fc] 70));rw[hWW] at JW hnew hlt2 ⊢;clear hWW h;have kept:∀ {v':Value}{W':WL},Grew v W v' W'→W'.heap[w.heap.size]?=some (.cells #[Value.slice ta texts.length tc,Value.slice pa pats.length pc,iA gn,iA an,Value.slice fa fns.length fc] 70):=fun G=>by
  rw[G.by_.block _ hlt2 (fun e=>by have:=hub _ e.symm;omega),hnew]
 have Hkept:Hid _:=@kept;clear kept hnew;have JWf:Fr [] w0 W:=by
  obtain⟨_,_,_,_,_,hf⟩:=JW;exact hf
 refine (A1.out W JWf).mono ?_;rintro e w1 ⟨x1,rfl,C1⟩;go_wp2_with fail;refine (section_step_full (k:=1) rfl (by omega) JW C1 n1 (by omega) (by omega)).mono ?_;rintro e w2 ⟨v2,rfl,J2,G2⟩;have e2:w2.cell? (Ad w.heap.size 1)=some (Value.slice pa pats.length pc):=by unfold World.cell?;rw[Hkept.out G2];rfl
 clear JW C1;go_wp2_with fail;refine (A2.out w2 J2.fr).mono ?_;rintro e w3 ⟨x3,rfl,C3⟩;go_wp2_with fail;refine (section_step (k:=2) rfl (by omega) J2 C3 n2 (by rw[Lla];omega) (by omega)).mono ?_;rintro e w4 ⟨v4,rfl,J4,G4⟩;have G4:=G2.trans G4;have e4:w4.cell? (Ad w.heap.size 2)=some (iA gn):=by unfold World.cell?;rw[Hkept.out G4];rfl
 clear J2 C3 G2 e2;go_wp2_with fail;refine (A3.out w4).mono ?_;rintro e w5 ⟨x5,rfl,C5,-⟩;go_wp2_with fail;refine (section_step (k:=3) rfl (by omega) J4 C5 n3 (by rw[Lla,Lla];omega) (by omega)).mono ?_;rintro e w6 ⟨v6,rfl,J6,G6⟩;have G6:=G4.trans G6;have e6:w6.cell? (Ad w.heap.size 3)=some (iA an):=by unfold World.cell?;rw[Hkept.out G6];rfl
 clear J4 C5 G4 e4;go_wp2_with fail;refine (A4.out w6).mono ?_;rintro e w7 ⟨x7,rfl,C7,-⟩;go_wp2_with fail;refine (section_step (k:=4) rfl (by omega) J6 C7 n4 (by rw[Lla,Lla,Lla];omega) (by omega)).mono ?_;rintro e w8 ⟨v8,rfl,J8,G8⟩;have G8:=G6.trans G8;have e8:w8.cell? (Ad w.heap.size 4)=some (Value.slice fa fns.length fc):=by unfold World.cell?;rw[Hkept.out G8];rfl
 clear J6 C7 G6 e6;go_wp2_with fail;refine (A5.out w8 J8.fr).mono ?_;rintro e w9 ⟨x9,rfl,C9⟩;go_wp2_with fail;refine (section_step (k:=5) rfl (by omega) J8 C9 n5 (by rw[Lla,Lla,Lla,Lla];omega) (by omega)).mono ?_;rintro e w10 ⟨v10,rfl,J10,G10⟩;clear J8 C9 e8;go_wp2;go_ret;exact⟨v10,rfl,J10⟩
theorem conv_bytes (W:WL)(g cap n:Nat)(l:LB)(hl:l.length=n)(hc:∀ j (hj:j<l.length),W.cell? (Ad g j)=some (.int .u8 (l[j].toNat:Int))) :
  (convert 92 9 (.slice (some (Ad g 0)) n cap)).run prog W=.ok (.string ⟨l.toArray⟩) W:=by
 subst hl;exact run_convert_bytes_back (P:=prog) W 92 9 5 (Ad g 0) cap l underlying92 underlying5 underlying9 (fun j hj=>by rcases j with _ | j <;> simpa [Addr.add] using hc _ hj)
theorem sumStep_val (m:Nat)(c:UInt8):sumStep m c=(m*257+c.toNat+1) % 1000003:=by
 unfold sumStep;rw[Nat.mul_comm]
theorem sum_any (b:BA)(w:WL)(hb:b.size≤1000000000):Calls prog 43 #[.string b] w fun e w'=>e=.returned (.string ⟨(sum3 (bl b)).toArray⟩)∧Fr [] w w':=by
 have hL:=bl_length b;obtain⟨S,hS⟩:=eXi (sum3 (bl b));rw[hS];have HS:Hid _:=hS;clear hS;go_enter func43,ntmps43;go_wp2
 go_loop [3,7] (fun s i=>∃ (k m:Nat),k≤b.size∧m<1000003∧s=.int .u32 m∧i=iA k∧Hid (m=sumFrom 1 ((bl b).take k))) (fun _ i=>b.size-(intOf i).toNat)
 case atStart=>exact⟨0,1,by omega,by omega,rfl,rfl,rfl⟩
 case round=>
  obtain⟨k,m,hk,hm,rfl,rfl,hM⟩:=hrel;by_cases hlt:k<b.size
  ·have g1:(k:Int)<b.size:=by omega
   have hu:=b[k].toNat_lt;have ht:=sumFrom_take 1 (bl b) k (by omega);rw[← hM.out,sumStep_val] at ht;have hk2:(bl b)[k]'(by omega)=b[k]:=by simp[bl];rfl
   rw[hk2] at ht;have Ht:Hid _:=ht;clear ht hk2;go_wp2;refine⟨⟨k+1,(m*257+b[k].toNat+1) % 1000003,by omega,by omega,by go_num,by go_num,Ht.out.symm⟩,by simp[intOf];omega⟩
  obtain rfl:k=b.size:=by omega
  have g1:¬ ((b.size:Int)<b.size):=by omega
  have hN:sumN (bl b)=m:=by
   rw[hM.out,← hL,List.take_length];rfl
  have hSS:S=[UInt8.ofNat (m % 256),UInt8.ofNat (m / 256 % 256),UInt8.ofNat (m / 65536)]:=by
   rw[← HS.out,sum3,hN]
  have H:Hid _:=hSS;clear hSS hN HS;go_wp2;rw[conv_bytes _ _ _ 3 [UInt8.ofNat (m % 256),UInt8.ofNat (m / 256 % 256),UInt8.ofNat (m / 65536)] rfl (by
   intro j hj;have hj3:j<3:=by simpa using hj
   obtain rfl | rfl | rfl:j=0∨j=1∨j=2:=by omega
   ·simp
   ·simp
   simp;omega)]
  simp only[Result.andThen];rw[Oper.upon_value];go_wp2;go_ret;rw[← H.out];exact⟨rfl,(Fr.refl [] w).alloc _⟩
def ipF (_:BA):Bool:=false
theorem isBetween_any (a b c:Int)(w:WL):Calls prog 96 #[iA a,iA b,iA c] w fun e w'=>e=.returned (.bool (decide (b≤a) && decide (a≤c)))∧w'=w:=by
 by_cases h1:b≤a
 ·by_cases h2:a≤c
  ·go_enter func96,ntmps96;go_wp2;go_ret;exact⟨by simp[h1,h2],rfl⟩
  go_enter func96,ntmps96;go_wp2;go_ret;exact⟨by simp[h1,h2],rfl⟩
 go_enter func96,ntmps96;go_wp2;go_ret;exact⟨by simp;omega,rfl⟩
theorem maxParams_any (i:Nat)(w:WL):Calls prog 151 #[iA i] w fun e w'=>e=.returned (iA (if i<3 then 0 else 8))∧w'=w:=by
 by_cases h:i<3
 ·have g:(i:Int)<3:=by omega
  rw[if_pos h];go_enter func151,ntmps151;go_wp2;go_ret;exact⟨rfl,rfl⟩
 have g:¬ (i:Int)<3:=by omega
 rw[if_neg h];go_enter func151,ntmps151;go_wp2;go_ret;exact⟨rfl,rfl⟩
theorem all_take {α:Type}(f:α→Bool)(L:List α)(k:Nat)(h:k<L.length)(ha:(L.take k).all f=true):(L.take (k+1)).all f=f L[k]:=by
 rw[List.take_succ_eq_append_getElem h,List.all_append,ha];simp
theorem all_stop {α:Type}(f:α→Bool)(L:List α)(k:Nat)(h:k<L.length)(ha:f L[k]=false):L.all f=false:=by
 rw[List.all_eq_false];exact⟨L[k],List.getElem_mem h,by simp[ha]⟩
def okTexts (L:LY):Bool:=decide (L.length≤1000) && L.all (fun s=>decide (s.size≤100))
def okPats (L:LY):Bool:=decide (L.length≤1000) && L.all ipF
def okFns (L:List Wire.Fn):Bool:=decide (3≤L.length) && decide (L.length≤1000) && lawfulAll L 0
theorem areTexts_any (tv:Value)(L:LY)(w:WL)(hn:L.length≤maxLen)(hs:∀ s ∈ L,s.size≤maxLen)(hL:StrsIn w tv L) :
  Calls prog 94 #[tv] w fun e w'=>e=.returned (.bool (okTexts L))∧w'=w:=by
 obtain⟨a0,cap,g,off,rfl,hcap,ha,hx⟩:=hL;unfold okTexts;by_cases h1:L.length≤1000
 ·have g1:¬ (1000:Int)<L.length:=by omega
  have HA:Hid (∀ k (hk:k<L.length),(L.take k).all (fun s=>decide (s.size≤100))=true→(L.take (k+1)).all (fun s=>decide (s.size≤100))=decide (L[k].size≤100)):=fun k hk ha=>all_take _ L k hk ha;have HB:Hid (∀ k (hk:k<L.length),decide (L[k].size≤100)=false→L.all (fun s=>decide (s.size≤100))=false):=fun k hk ha=>all_stop _ L k hk ha;rw[decide_eq_true h1,Bool.true_and];obtain⟨r,hr⟩:=eXi (L.all (fun s=>decide (s.size≤100)));rw[hr];have Hr:Hid _:=hr;have Hx:Hid _:=hx;have Ha:Hid _:=ha;have Hs:Hid _:=hs;clear hr hx ha hs;go_enter func94,ntmps94;go_wp2
  go_loop [10] (fun i=>∃ k:Nat,k≤L.length∧i=iA k∧Hid ((L.take k).all (fun s=>decide (s.size≤100))=true)) (fun i=>L.length-(intOf i).toNat)
  case atStart=>exact⟨0,by omega,rfl,by show _=_;simp⟩
  case round=>
   obtain⟨k,hk,rfl,hall⟩:=hrel;by_cases hlt:k<L.length
   ·obtain⟨rfl,hg⟩:=Ha.out (by omega);have g2:(k:Int)<L.length:=by omega
    have c1:=Hx.out k _ (Lge hlt);have e1:=HA.out k hlt hall.out;have e2:=HB.out k hlt;have e3:=Hs.out L[k] (List.getElem_mem hlt);obtain⟨s,hsk⟩:=eXi (L[k]);rw[hsk] at c1 e1 e2 e3;have E1:Hid _:=e1;have E2:Hid _:=e2;unfold maxLen at e3;clear e1 e2;by_cases h2:s.size≤100
    ·have g3:¬ (100:Int)<s.size:=by omega
     go_wp2;refine⟨⟨k+1,by omega,by go_num,?_⟩,by simp[intOf];omega⟩;show _=_;rw[E1.out];simp[h2]
    have g3:(100:Int)<s.size:=by omega
    have e4:r=false:=by rw[← Hr.out];exact E2.out (by simp;omega)
    subst e4;go_wp2;go_ret;exact⟨rfl,rfl⟩
   obtain rfl:k=L.length:=by omega
   have g2:¬ ((L.length:Int)<L.length):=by omega
   have e4:r=true:=by rw[← Hr.out,← hall.out,List.take_length]
   subst e4;go_wp2;go_ret;exact⟨rfl,rfl⟩
 have g1:(1000:Int)<L.length:=by omega
 rw[decide_eq_false h1,Bool.false_and];unfold maxLen at hn;go_enter func94,ntmps94;go_wp2;go_ret;exact⟨rfl,rfl⟩
theorem arePatterns_any (tv:Value)(w:WL)(hL:StrsIn w tv []) :
  Calls prog 95 #[tv] w fun e w'=>e=.returned (.bool (okPats []))∧Fr [] w w':=by
 obtain⟨a0,cap,g,off,rfl,hcap,ha,hx⟩:=hL;show Calls prog 95 _ w fun e w'=>e=.returned (.bool true)∧Fr [] w w';clear ha hx;go_enter func95,ntmps95;go_wp2
 go_loopw [10] (fun i wr=>i=iA 0∧wr=w) (fun i _=>0)
 case atStart=>exact⟨rfl,rfl⟩
 case round=>
  obtain⟨rfl,rfl⟩:=hrel;go_wp2;go_ret;exact⟨rfl,Fr.refl _ _⟩
theorem lawfulAll_app (A:List Wire.Fn)(x:Wire.Fn)(i:Nat):lawfulAll (A++[x]) i=(lawfulAll A i && lawful x (i+A.length)):=by
 induction A generalizing i with
 | nil=>simp[lawfulAll]
 | cons a A ih=>
  simp only[List.cons_append,lawfulAll,ih,Bool.and_assoc,List.length_cons];rw[show i+1+A.length=i+(A.length+1) by omega]
theorem lawfulAll_take (L:List Wire.Fn)(k:Nat)(h:k<L.length)(ha:lawfulAll (L.take k) 0=true):lawfulAll (L.take (k+1)) 0=lawful L[k] k:=by
 rw[List.take_succ_eq_append_getElem h,lawfulAll_app,ha,List.length_take,Nat.min_eq_left (by omega)];simp
theorem lawfulAll_at (L:List Wire.Fn)(i k:Nat)(h:k<L.length)(ha:lawfulAll L i=true):lawful L[k] (i+k)=true:=by
 induction L generalizing i k with
 | nil=>simp at h
 | cons a L ih=>
  simp only[lawfulAll,Bool.and_eq_true] at ha;cases k with
  | zero=>simpa using ha.1
  | succ k=>
   have:=ih (i+1) k (by simpa using h) ha.2;simpa [show i+1+k=i+(k+1) by omega] using this
theorem lawfulAll_stop (L:List Wire.Fn)(k:Nat)(h:k<L.length)(ha:lawful L[k] k=false):lawfulAll L 0=false:=by
 cases hl:lawfulAll L 0 with
 | false=>rfl
 | true=>have:=lawfulAll_at L 0 k h hl;rw[Nat.zero_add,ha] at this;cases this
theorem lawful_eq (f:Wire.Fn)(i:Nat):lawful f i=true↔(0≤f.params∧f.params≤(if i<3 then 0 else 8))∧(f.params≤f.locs∧f.locs≤16)∧f.code.size≤20000:=by
 rw[lawful_iff];by_cases h:i<3
 ·rw[if_pos h];omega
 rw[if_neg h];omega
theorem areFuncs_any (tv:Value)(L:List Wire.Fn)(w:WL)(hn:L.length≤maxLen)(hs:∀ s ∈ L,s.code.size≤maxLen)(hL:FnsIn w tv L) :
  Calls prog 97 #[tv] w fun e w'=>e=.returned (.bool (okFns L))∧Fr [] w w':=by
 obtain⟨a0,cap,g,off,rfl,hcap,ha,hx⟩:=hL;unfold okFns;have hb:=isBetween_any L.length 3 1000 w;by_cases h1:3≤L.length∧L.length≤1000
 ·have e0:(decide ((3:Int)≤L.length) && decide ((L.length:Int)≤1000))=true:=by simp;omega
  rw[e0] at hb;have HA:Hid (∀ k (hk:k<L.length),lawfulAll (L.take k) 0=true→lawfulAll (L.take (k+1)) 0=lawful L[k] k):=fun k hk ha=>lawfulAll_take L k hk ha;have HB:Hid (∀ k (hk:k<L.length),lawful L[k] k=false→lawfulAll L 0=false):=fun k hk ha=>lawfulAll_stop L k hk ha;rw[decide_eq_true h1.1,decide_eq_true h1.2,Bool.true_and,Bool.true_and];obtain⟨r,hr⟩:=eXi (lawfulAll L 0);rw[hr];have Hr:Hid _:=hr;have Hx:Hid _:=hx;have Ha:Hid _:=ha;have Hs:Hid _:=hs;clear hr hx ha hs e0;go_enter func97,ntmps97;go_wp2_with fail;refine hb.mono ?_;rintro e w ⟨rfl,rfl⟩;clear hb;go_wp2
  go_loopw [11] (fun i wr=>∃ k:Nat,k≤L.length∧i=iA k∧Hid (lawfulAll (L.take k) 0=true)∧Fr [] w wr) (fun i _=>L.length-(intOf i).toNat)
  case atStart=>exact⟨0,by omega,rfl,by show _=_;simp[lawfulAll],Fr.refl _ _⟩
  case round=>
   obtain⟨k,hk,rfl,hall,hF⟩:=hrel;by_cases hlt:k<L.length
   ·obtain⟨rfl,hg⟩:=Ha.out (by omega);have g2:(k:Int)<L.length:=by omega
    obtain⟨x0,x1,x2⟩:=Hx.out k _ (Lge hlt);have c0:=(hF.cell (p:=Ad g (off+k*3)) hg (by simp)).trans x0;have c1:=(hF.cell (p:=Ad g (off+k*3+1)) hg (by simp)).trans x1;have c2:=(hF.cell (p:=Ad g (off+k*3+2)) hg (by simp)).trans x2;have e1:=HA.out k hlt hall.out;have e2:=HB.out k hlt;have e3:=Hs.out L[k] (List.getElem_mem hlt);have e5:=lawful_eq L[k] k;obtain⟨⟨p,lc,co⟩,hsk⟩:∃ s,L[k]=s:=⟨_,rfl⟩;rw[hsk] at c0 c1 c2 e1 e2 e3 e5;simp only at c0 c1 c2 e3 e5;have E1:Hid _:=e1;have E2:Hid _:=e2;have hmp:=maxParams_any k;unfold maxLen at e3;obtain⟨M,hM⟩:∃ M:Int,(if k<3 then 0 else 8)=M:=⟨_,rfl⟩;rw[hM] at e5;simp only[hM] at hmp;have E5:Hid _:=e5;have Hmp:Hid _:=hmp;have hb1:=isBetween_any p 0 M;have hb2:=isBetween_any lc p 16;clear e1 e2 e5 hmp hM x0 x1 x2 hsk;by_cases q1:0≤p∧p≤M
    ·have t1:(decide (0≤p) && decide (p≤M))=true:=by simp;exact q1
     simp only[t1] at hb1;by_cases q2:p≤lc∧lc≤16
     ·have t2:(decide (p≤lc) && decide (lc≤16))=true:=by simp;exact q2
      simp only[t2] at hb2;have Hb1:Hid _:=hb1;have Hb2:Hid _:=hb2;clear hb1 hb2 t1 t2;by_cases q3:co.size≤20000
      ·have g3:decide ((20000:Int)<co.size)=false:=by simp;omega
       have e4:lawful ⟨p,lc,co⟩ k=true:=E5.out.2 ⟨q1,q2,q3⟩;have E4:Hid _:=E1.out.trans e4;clear E1 E2 E5 e4 q1 q2;go_wp2;go_quiet (first | (go_at_call 151;refine Calls.quiet_of_same (Hmp.out _)) | (go_at_call_of 96 (Value.int IntKind.i64 lc);refine Calls.quiet_of_same (Hb2.out _)) | (go_at_call 96;refine Calls.quiet_of_same (Hb1.out _)))
       go_wp2;refine⟨⟨k+1,by omega,by go_num,E4,?_⟩,by simp[intOf];omega⟩;exact (hF.alloc _).drewN _
      have g3:decide ((20000:Int)<co.size)=true:=by simp;omega
      have e4:r=false:=by
       rw[← Hr.out];refine E2.out (Bool.eq_false_iff.2 fun h=>?_);exact q3 (E5.out.1 h).2.2
      subst e4;clear E1 E2 E5 q1 q2;go_wp2;go_quiet (first | (go_at_call 151;refine Calls.quiet_of_same (Hmp.out _)) | (go_at_call_of 96 (Value.int IntKind.i64 lc);refine Calls.quiet_of_same (Hb2.out _)) | (go_at_call 96;refine Calls.quiet_of_same (Hb1.out _)))
      go_wp2;go_ret;exact⟨rfl,(hF.alloc _).drewN _⟩
     have t2:(decide (p≤lc) && decide (lc≤16))=false:=by
      simp only[Bool.and_eq_false_iff,decide_eq_false_iff_not];omega
     simp only[t2] at hb2;have Hb1:Hid _:=hb1;have Hb2:Hid _:=hb2;have e4:r=false:=by
      rw[← Hr.out];refine E2.out (Bool.eq_false_iff.2 fun h=>?_);exact q2 (E5.out.1 h).2.1
     subst e4;clear hb1 hb2 t1 t2 E1 E2 E5 q1 q2;go_wp2;go_quiet (first | (go_at_call 151;refine Calls.quiet_of_same (Hmp.out _)) | (go_at_call_of 96 (Value.int IntKind.i64 lc);refine Calls.quiet_of_same (Hb2.out _)) | (go_at_call 96;refine Calls.quiet_of_same (Hb1.out _)))
     go_wp2;go_ret;exact⟨rfl,(hF.alloc _).drewN _⟩
    have t1:(decide (0≤p) && decide (p≤M))=false:=by
     simp only[Bool.and_eq_false_iff,decide_eq_false_iff_not];omega
    simp only[t1] at hb1;have Hb1:Hid _:=hb1;have Hb2:Hid _:=hb2;have e4:r=false:=by
     rw[← Hr.out];refine E2.out (Bool.eq_false_iff.2 fun h=>?_);exact q1 (E5.out.1 h).1
    subst e4;clear hb1 hb2 t1 E1 E2 E5 q1;go_wp2;go_quiet (first | (go_at_call 151;refine Calls.quiet_of_same (Hmp.out _)) | (go_at_call_of 96 (Value.int IntKind.i64 lc);refine Calls.quiet_of_same (Hb2.out _)) | (go_at_call 96;refine Calls.quiet_of_same (Hb1.out _)))
    go_wp2;go_ret;exact⟨rfl,(hF.alloc _).drewN _⟩
   obtain rfl:k=L.length:=by omega
   have g2:¬ ((L.length:Int)<L.length):=by omega
   have e4:r=true:=by rw[← Hr.out,← hall.out,List.take_length]
   subst e4;go_wp2;go_ret;exact⟨rfl,hF⟩
 have e0:(decide ((3:Int)≤L.length) && decide ((L.length:Int)≤1000))=false:=by simp;omega
 rw[e0] at hb;have e1:(decide (3≤L.length) && decide (L.length≤1000) && lawfulAll L 0)=false:=by
  have:(decide (3≤L.length) && decide (L.length≤1000))=false:=by simp;omega
  rw[this];rfl
 rw[e1];clear e0 e1;unfold maxLen at hn;go_enter func97,ntmps97;go_wp2_with fail;refine hb.mono ?_;rintro e w ⟨rfl,rfl⟩;clear hb;go_wp2;go_ret;exact⟨rfl,Fr.refl _ _⟩
structure ModSz (m:Mo):Prop where
 t:m.texts.length≤maxLen
 ts:∀ s ∈ m.texts,s.size≤maxLen
 p:m.pats.length≤maxLen
 ps:∀ s ∈ m.pats,s.size≤maxLen
 f:m.fns.length≤maxLen
 fs:∀ s ∈ m.fns,s.code.size≤maxLen
theorem okAll (m:Mo):within ipF m=(okTexts m.texts && (okPats m.pats && ((decide (0≤m.globs) && decide (m.globs≤1000)) && ((decide (0≤m.arrs) && decide (m.arrs≤1000)) && okFns m.fns)))):=by
 rw[Bool.eq_iff_iff,Wire.within_iff];simp only[okTexts,okPats,okFns,Bool.and_eq_true,decide_eq_true_eq,List.all_eq_true];constructor
 ·rintro ⟨a,b,c,d,e,f,g,h,i,j,k⟩;exact⟨⟨a,i⟩,⟨b,fun s hs=>(j s hs).2⟩,⟨e,f⟩,⟨g,h⟩,⟨⟨c,d⟩,k⟩⟩
 rintro ⟨⟨a,i⟩,⟨b,j⟩,⟨e,f⟩,⟨g,h⟩,⟨⟨c,d⟩,k⟩⟩;refine⟨a,b,c,d,e,f,g,h,i,fun s hs=>⟨?_,j s hs⟩,k⟩;exact absurd (j s hs) (by simp[ipF])
theorem isWithin_any (mv:Value)(m:Mo)(w:WL)(hM:ModIn w mv m)(hz:ModSz m)(hp:m.pats=[])(hT:Tab w):Calls prog 41 #[mv] w fun e w'=>e=.returned (.bool (within ipF m))∧Fr [] w w':=by
 obtain⟨tv,pv,fv,rfl,hT1,hP,hF⟩:=hM.is;rw[okAll];obtain⟨z1,z2,z3,z4,z5,z6⟩:=hz;obtain⟨texts,pats,globs,arrs,fns⟩:=m;simp only at *;have a1:=fun (W:WL) (f:Fr [] w W)=>areTexts_any tv texts W z1 z2 (hT1.fr f);have a2:∀ (W:WL),Fr [] w W→Calls prog 95 #[pv] W fun e w'=>e=.returned (.bool (okPats pats))∧Fr [] W w':=fun W f=>by
  subst hp;exact arePatterns_any pv W (hP.fr f)
 clear hp;have a3:=isBetween_any globs 0 1000;have a4:=isBetween_any arrs 0 1000;have a5:=fun (W:WL) (f:Fr [] w W)=>areFuncs_any fv fns W z5 z6 (hF.fr f);obtain⟨ta,tc,tg,tz,rfl,-⟩:=id hT1;obtain⟨pa,pc,pg,po,rfl,-⟩:=id hP;obtain⟨fa,fc,fg,fo,rfl,-⟩:=id hF;have A1:Hid _:=a1;have A2:Hid _:=a2;have A3:Hid _:=a3;have A4:Hid _:=a4;have A5:Hid _:=a5;generalize okTexts texts=b1 at *;generalize okPats pats=b2 at *;generalize (decide (0≤globs) && decide (globs≤1000))=b3 at *;generalize (decide (0≤arrs) && decide (arrs≤1000))=b4 at *;generalize okFns fns=b5 at *;clear a1 a2 a3 a4 a5 hT1 hP hF hM z1 z2 z3 z4 z5 z6 hT;have f0:Fr [] w (w.alloc (.cells #[Value.slice ta texts.length tc,Value.slice pa pats.length pc,iA globs,iA arrs,Value.slice fa fns.length fc] 70)):=(Fr.refl [] w).alloc _;have hnew:=wan w (.cells #[Value.slice ta texts.length tc,Value.slice pa pats.length pc,iA globs,iA arrs,Value.slice fa fns.length fc] 70);have hlt2:w.heap.size<(w.alloc (.cells #[Value.slice ta texts.length tc,Value.slice pa pats.length pc,iA globs,iA arrs,Value.slice fa fns.length fc] 70)).heap.size:=by simp
 go_enter func41,ntmps41;go_wp2_with fail;obtain⟨W,hWW⟩:=eXi (w.alloc (.cells #[Value.slice ta texts.length tc,Value.slice pa pats.length pc,iA globs,iA arrs,Value.slice fa fns.length fc] 70));rw[hWW] at f0 hnew hlt2 ⊢;clear hWW;have kept:∀ {W':WL},Fr [] W W'→W'.heap[w.heap.size]?=some (.cells #[Value.slice ta texts.length tc,Value.slice pa pats.length pc,iA globs,iA arrs,Value.slice fa fns.length fc] 70):=fun G=>by
  rw[G.block _ hlt2 (by simp),hnew]
 have Hkept:Hid _:=@kept;clear kept hnew;refine (A1.out W f0).mono ?_;rintro e w1 ⟨rfl,rfl⟩;cases b1 with
 | false=>
  go_wp2;go_ret;exact⟨rfl,f0⟩
 | true=>
  simp only[Bool.true_and];have e1:w1.cell? (Ad w.heap.size 1)=some (Value.slice pa pats.length pc):=by unfold World.cell?;rw[Hkept.out (Fr.refl _ _)];rfl
  go_wp2_with fail;refine (A2.out w1 f0).mono ?_;rintro e w2 ⟨rfl,f2⟩;cases b2 with
  | false=>
   go_wp2;go_ret;exact⟨rfl,f0.trans f2⟩
  | true=>
   simp only[Bool.true_and];have e2:w2.cell? (Ad w.heap.size 2)=some (iA globs):=by unfold World.cell?;rw[Hkept.out f2];rfl
   have e3:w2.cell? (Ad w.heap.size 3)=some (iA arrs):=by unfold World.cell?;rw[Hkept.out f2];rfl
   have e4:w2.cell? (Ad w.heap.size 4)=some (Value.slice fa fns.length fc):=by unfold World.cell?;rw[Hkept.out f2];rfl
   clear e1;go_wp2_with fail;refine (A3.out w2).mono ?_;rintro e w2 ⟨rfl,rfl⟩;cases b3 with
   | false=>
    go_wp2;go_ret;exact⟨rfl,f0.trans f2⟩
   | true=>
    simp only[Bool.true_and];go_wp2_with fail;refine (A4.out _).mono ?_;rintro e w2 ⟨rfl,rfl⟩;cases b4 with
    | false=>
     go_wp2;go_ret;exact⟨rfl,f0.trans f2⟩
    | true=>
     simp only[Bool.true_and];go_wp2_with fail;refine (A5.out _ (f0.trans f2)).mono ?_;rintro e w3 ⟨rfl,f3⟩;clear e2 e3 e4;cases b5 with
     | false=>
      go_wp2;go_ret;exact⟨rfl,(f0.trans f2).trans f3⟩
     | true=>
      go_wp2;go_ret;exact⟨rfl,(f0.trans f2).trans f3⟩
end Go.Proofs.YtmolfmgchbjnbaaGreatDoor
