import Derived.Test.YtmolfmgchbjnbaaGreatDoorM14
import Derived.Test.YtmolfmgchbjnbaaGreatDoorM06
set_option linter.unusedSimpArgs false
set_option linter.unusedVariables false
set_option linter.unusedSectionVars false
set_option maxRecDepth 100000
set_option maxHeartbeats 40000000
open _root_.Go.Proofs.Tryz
namespace Go.Proofs.YtmolfmgchbjnbaaGreatDoor
open Go.RowKit
open Wire
namespace Tok
def IntsIn (W:WL) (v:Value) (L:List Int):Prop:=
 ∃ (a0:OA) (cap g off:Nat),v=.slice a0 L.length cap∧L.length≤cap∧(0<L.length→a0=some ⟨g,off,none⟩∧g<W.heap.size)∧∀ (k:Nat) x,L[k]?=some x→W.cell? ⟨g,off+k,none⟩=some (.int .i64 x)
theorem equal_any {u v:Value}{A B:List Int}{w:WL} (hu:IntsIn w u A) (hv:IntsIn w v B) (hn:A.length≤1000000) :
  Calls prog 261 #[u,v] w fun e w'=>e=.returned (.bool (decide (A=B)))∧Fr [] w w':=by
 obtain⟨a0,ac,ag,ao,rfl,ha1,ha2,ha3⟩:=hu;obtain⟨b0,bc,bg,bo,rfl,hb1,hb2,hb3⟩:=hv;by_cases hl:A.length=B.length
 ·obtain⟨r,hr⟩:=eXi (decide (A=B));obtain⟨n,hna⟩:=eXi (A.length);have hnb:B.length=n:=by omega
  rw[hna] at ha1 ha2 hn;rw[hnb] at hb1 hb2;rw[hr,hna,hnb];have g0:((n:Int)!=(n:Int))=false:=by simp
  have HNA:Hid _:=hna;have HNB:Hid _:=hnb;have HR:Hid _:=hr;have HA:Hid _:=ha3;have HB:Hid _:=hb3;have HA2:Hid _:=ha2;have HB2:Hid _:=hb2;clear hr ha3 hb3 ha2 hb2 hna hnb hl;go_enter func261,ntmps261;go_wp2
  go_loopw [13] (fun i wr=>∃ k:Nat,k≤n∧i=iA k∧(∀ j,j<k→A[j]?=B[j]?)∧Fr [] w wr) (fun i _=>n-(intOf i).toNat)
  case atStart=>exact⟨0,by omega,rfl,fun j h=>by omega,Fr.refl _ _⟩
  case round=>
   obtain⟨k,hk,rfl,hall,hF⟩:=hrel;have HAll:Hid _:=hall;clear hall;by_cases hlt:k<n
   ·obtain⟨rfl,hg1⟩:=HA2.out (by omega);obtain⟨rfl,hg2⟩:=HB2.out (by omega);obtain⟨x,hx⟩:∃ x,A[k]?=some x:=⟨_,Lge (by have:=HNA.out;omega)⟩;obtain⟨y,hy⟩:∃ y,B[k]?=some y:=⟨_,Lge (by have:=HNB.out;omega)⟩;have c1:=(hF.cell (p:=Ad ag (ao+k)) hg1 (by simp)).trans (HA.out k x hx);have c2:=(hF.cell (p:=Ad bg (bo+k)) hg2 (by simp)).trans (HB.out k y hy);have g1:(k:Int)<n:=by omega
    by_cases hxy:x=y
    ·subst hxy;have g2:(x != x)=false:=by simp
     have HX:Hid _:=hx.trans hy.symm;clear hx hy;go_wp2;go_quiet (fail);go_wp2;exact⟨⟨k+1,by omega,by go_num,fun j hj=>by
      by_cases e:j=k
      ·rw[e];exact HX.out
      exact HAll.out j (by omega),hF.drewN _⟩,by simp[intOf];omega⟩
    have g2:(x != y)=true:=by simpa using hxy
    have e4:r=false:=by
     rw[← HR.out];refine decide_eq_false fun e=>hxy ?_;rw[e,hy] at hx;exact (Option.some.inj hx).symm
    subst e4;clear hx hy;go_wp2;go_quiet (fail);go_wp2;go_ret;exact⟨rfl,hF.drewN _⟩
   obtain rfl:k=n:=by omega
   have g1:¬ (k:Int)<k:=by omega
   have e4:r=true:=by
    rw[← HR.out];refine decide_eq_true (List.ext_getElem? fun j=>?_);rcases Nat.lt_or_ge j k with q | q
    ·exact HAll.out j q
    rw[List.getElem?_eq_none (by have:=HNA.out;omega),List.getElem?_eq_none (by have:=HNB.out;omega)]
   subst e4;go_wp2;go_ret;exact⟨rfl,hF⟩
 have g0:((A.length:Int)!=(B.length:Int))=true:=by simp;omega
 rw[decide_eq_false (fun e=>hl (by rw[e]))];clear ha2 ha3 hb2 hb3;go_enter func261,ntmps261;go_wp2;go_ret;exact⟨rfl,Fr.refl _ _⟩
end Tok
open Go.RowKit
open Wire
namespace Tok
theorem IntsIn.fr {W W':WL}{v:Value}{L:List Int} (h:IntsIn W v L) (F:Fr [] W W'):IntsIn W' v L:=by
 obtain⟨a0,cap,g,off,rfl,h1,h2,h3⟩:=h;refine⟨a0,cap,g,off,rfl,h1,fun h=>⟨(h2 h).1,Nll (h2 h).2 F.size⟩,fun k x hx=>?_⟩;have hk:=(Lgs.1 hx).1;exact (F.cell (p:=Ad g (off+k)) (h2 (by omega)).2 (by simp)).trans (h3 k x hx)
abbrev Ln:=Nat × List Int
def dgI (z:Int):LB:=if z<0 then [UInt8.ofNat (z % 256).toNat] else digs z.toNat
theorem dgI_len (z:Int):(dgI z).length≤10:=by
 unfold dgI;split
 ·simp
 exact digs_len _
theorem dgI_nat (n:Nat):dgI (n:Int)=digs n:=by unfold dgI;rw[if_neg (by omega),Int.toNat_natCast]
def LnOk (x:Ln):Prop:=x.1<256∧x.2.length≤2∧∀ z ∈ x.2,z<(9223372036854775808:Int)
def lnB (x:Ln):LB:=UInt8.ofNat x.1 :: x.2.flatMap dgI
def LineIn (W:WL) (g off:Nat) (x:Ln):Prop:=W.cell? ⟨g,off,none⟩=some (.int .u8 (x.1:Nat))∧(∃ v,W.cell? ⟨g,off+1,none⟩=some v∧IntsIn W v x.2)∧W.cell? ⟨g,off+2,none⟩=some (.int .i64 (-1))
def BodyIn (W:WL) (p:Addr) (L:List Ln):Prop:=
 ∃ (a0:OA) (cap g off:Nat),W.cell? p=some (.slice a0 L.length cap)∧L.length≤cap∧(0<L.length→a0=some ⟨g,off,none⟩∧g<W.heap.size)∧∀ (k:Nat) x,L[k]?=some x→LineIn W g (off+k*3) x
theorem LineIn.fr {W W':WL}{g off:Nat}{x:Ln} (h:LineIn W g off x) (hg:g<W.heap.size) (F:Fr [] W W'):LineIn W' g off x:=by
 obtain⟨h1,⟨v,h2,h3⟩,h4⟩:=h;exact⟨(F.cell (p:=Ad g off) hg (by simp)).trans h1,⟨v,(F.cell (p:=Ad g (off+1)) hg (by simp)).trans h2,h3.fr F⟩,(F.cell (p:=Ad g (off+2)) hg (by simp)).trans h4⟩
theorem BodyIn.fr {W W':WL}{p:Addr}{L:List Ln} (h:BodyIn W p L) (F:Fr [] W W'):BodyIn W' p L:=by
 obtain⟨a0,cap,g,off,h1,h2,h3,h4⟩:=h;refine⟨a0,cap,g,off,(F.cell (lt_of_cell h1) (by simp)).trans h1,h2,fun h=>⟨(h3 h).1,Nll (h3 h).2 F.size⟩,fun k x hx=>?_⟩;have hk:=(Lgs.1 hx).1;exact (h4 k x hx).fr (h3 (by omega)).2 F
def standsF:Nat→List Ln→LN
 | _,[]=>[]
 | n,x :: L=>n :: standsF (n+(lnB x).length) L
theorem standsF_len:∀ (n:Nat)(L:List Ln),(standsF n L).length=L.length
 | _,[]=>rfl
 | n,x :: L=>by simp[standsF,standsF_len (n+(lnB x).length) L]
theorem standsF_app:∀ (n:Nat)(A:List Ln)(x:Ln),standsF n (A++[x])=standsF n A++[n+(A.flatMap lnB).length]
 | n,[],x=>by simp[standsF]
 | n,a :: A,x=>by
  simp only[List.cons_append,standsF,standsF_app (n+(lnB a).length) A x,List.flatMap_cons,Lla]
  rw[Nat.add_assoc]
theorem lnB_len {x:Ln}(h:LnOk x):(lnB x).length≤21:=by
 obtain⟨_,h1,_⟩:=h
 obtain⟨a,l⟩:=x
 simp only[lnB,List.length_cons]
 simp only at h1
 match l,h1 with
 | [],_=>simp
 | [n],_=>have:=dgI_len n;simp;omega
 | [n,m],_=>have:=dgI_len n;have:=dgI_len m;simp;omega
theorem lines_len:∀ {L:List Ln},(∀ x ∈ L,LnOk x)→(L.flatMap lnB).length≤21*L.length
 | [],_=>by simp
 | x :: L,h=>by
  have h1:=lnB_len (h x (by simp))
  have h2:=lines_len (L:=L) fun y hy=>h y (by simp[hy])
  rw[List.flatMap_cons,Lla,List.length_cons]
  omega
structure Wr (w0:WL) (l:LB) (S:LN) (u v:Value) (W:WL):Prop where
 out:OwnB w0 l u W
 st:W.ownsRow w0.heap.size 3 1 v S.length (S.map fun n=>.int .i64 (n:Nat))
 ne:∀ g,u.ownBlock=some g→v.ownBlock≠some g
theorem Wr.kept {w0:WL}{l:LB}{S:LN}{u v:Value}{W W':WL} (h:Wr w0 l S u v W) (F:Fr [] W W'):Wr w0 l S u v W':=
 ⟨h.out.kept F,own_fr h.st F (by simp),h.ne⟩
theorem Wr.grew {w0:WL}{l l':LB}{S:LN}{u u' v:Value}{W W':WL} (h:Wr w0 l S u v W) (ho:OwnB w0 l' u' W') (hg:Grew u W u' W'):Wr w0 l' S u' v W':=by
 refine⟨ho,h.st.kept hg.by_ ?_,fun g hu hv=>?_⟩
 ·cases hv:v.ownBlock with
  | none=>exact .inl rfl
  | some g=>exact .inr fun e=>h.ne g e.symm hv
 rcases hg.blk with e | ⟨g',e,hl⟩
 ·exact h.ne g (e ▸ hu) hv
 rw[e] at hu;cases hu;have:=(h.st.lt g hv).2;omega
theorem Wr.stood {w0:WL}{l:LB}{S:LN}{u v v':Value}{W W':WL}{n:Nat} (h:Wr w0 l S u v W) (ho:W'.ownsRow w0.heap.size 3 1 v' (S.length+1) ((S.map fun n=>iA (n:Nat))++[iA (n:Nat)])) (hg:W.grownBy W' v.ownBlock) (hb:v'.ownBlock=v.ownBlock∨∃ g,v'.ownBlock=some g∧W.heap.size≤g):Wr w0 l (S++[n]) u v' W':=by
 have F:Fr [] w0 W':=⟨hg.os.trans h.out.fr.os,hg.tape.trans h.out.fr.tape,hg.output.trans h.out.fr.output,Nat.le_trans h.out.fr.size hg.size,fun k hk _=>by
  have h1:=h.out.fr.size;rw[hg.block k (by omega) (fun e=>by have:=(h.st.lt k e.symm).1;omega),h.out.fr.block k hk (by simp)]⟩
 refine⟨⟨h.out.own.kept hg ?_,F⟩,by simpa using ho,fun g hu hv=>?_⟩
 ·cases hu:u.ownBlock with
  | none=>exact .inl rfl
  | some g=>exact .inr fun e=>h.ne g hu e.symm
 rcases hb with e | ⟨g',e,hl⟩
 ·exact h.ne g hu (e ▸ hv)
 rw[e] at hv;cases hv;have:=(h.out.own.lt g hu).2;omega
end Tok
open Go.RowKit
open Wire
namespace Tok
theorem infoI:(prog.info? 3).map (fun i=>(i.zero,i.size,i.bytes))=some (some (iA 0),1,8):=by kernel_rfl
theorem mkInts (n:Nat)(hn:n≤100000)(W:WL):(Instr.makeSlice 46 (iA 0) (iA (n:Int))).run prog W=.ok (.slice (some (Ad W.heap.size 0)) 0 n) (W.alloc (.cells (madeCells #[iA 0] n) 3)):=by
 obtain⟨i0,hi,hz0,hz1,hz2⟩:=info_parts infoI;have:=run_make (P:=prog) W 46 3 i0 _ underlying46 hi hz0 .i64 .i64 0 n (by omega) (by omega) (by rw[hz2];omega) (by omega);simp only[Int.toNat_natCast,hz1,Nat.mul_one,Int.toNat_zero] at this;exact this
theorem own_mk (W:WL)(n:Nat)(hn:n≤100000){B:Nat}(hB:B≤W.heap.size):(W.alloc (.cells (madeCells #[iA 0] n) 3)).ownsRow B 3 1 (.slice (some (Ad W.heap.size 0)) 0 n) 0 []:=
 ⟨rfl,.inr ⟨W.heap.size,n,_,rfl,hB,wan W _,Nat.zero_le _,by unfold maxLen;omega,by rw[size_madeCells,Nat.mul_one],by simp⟩⟩
theorem one_int (n:Nat):∀ u ∈ [iA (n:Nat)],u.oneCell'=true:=by intro u hu;simp at hu;subst hu;rfl
theorem ownB_form {w0:WL}{l:LB}{v:Value}{W:WL} (h:OwnB w0 l v W):∃ a0 cap,v=.slice a0 l.length cap:=by
 rcases h.own.2 with ⟨rfl,hz⟩ | ⟨g,cap,cur,rfl,_⟩
 ·exact⟨none,0,by simp_all⟩
 exact⟨_,cap,rfl⟩
theorem ofNat_u8 {n:Nat}(h:n<256):n=(UInt8.ofNat n).toNat:=by
 have e:(UInt8.ofNat n).toNat=n:=by simp[UInt8.toNat_ofNat];omega
 exact e.symm
def upTo (L:List Ln) (k:Nat) (c:UInt8) (os:List Int) (j:Nat):LB:=((L.take k).flatMap lnB++[c])++(os.take j).flatMap dgI
theorem upTo_succ {L:List Ln}{k:Nat}{c:UInt8}{os:List Int}{j:Nat}{y:Int} (h:os[j]?=some y):upTo L k c os (j+1)=upTo L k c os j++dgI y:=by
 obtain⟨hj,e⟩:=Lgs.1 h;unfold upTo;rw[List.take_succ_eq_append_getElem hj,List.flatMap_append,e];simp
theorem upTo_done {L:List Ln}{k:Nat}{x:Ln} (h:L[k]?=some x):upTo L k (UInt8.ofNat x.1) x.2 x.2.length=(L.take (k+1)).flatMap lnB:=by
 obtain⟨hj,e⟩:=Lgs.1 h;unfold upTo;rw[List.take_succ_eq_append_getElem hj,List.flatMap_append,e,List.take_length];simp[lnB]
theorem upTo_len {L:List Ln}{k:Nat}{x:Ln} (h:L[k]?=some x) (j:Nat):(upTo L k (UInt8.ofNat x.1) x.2 j).length≤(L.flatMap lnB).length:=by
 have e1:=upTo_done h;have h1:(upTo L k (UInt8.ofNat x.1) x.2 j).length≤(upTo L k (UInt8.ofNat x.1) x.2 x.2.length).length:=by
  unfold upTo;simp only[Lla,List.take_length];have:((x.2.take j).flatMap dgI).length≤(x.2.flatMap dgI).length:=by
   conv=>rhs;rw[← List.take_append_drop j x.2,List.flatMap_append,Lla]
   omega
  omega
 rw[e1] at h1;have h2:((L.take (k+1)).flatMap lnB).length≤(L.flatMap lnB).length:=by
  conv=>rhs;rw[← List.take_append_drop (k+1) L,List.flatMap_append,Lla]
  omega
 omega
theorem stood {L:List Ln}{k:Nat}{x:Ln} (h:L[k]?=some x):standsF 0 (L.take k)++[((L.take k).flatMap lnB).length]=standsF 0 (L.take (k+1)):=by
 obtain⟨hj,e⟩:=Lgs.1 h;rw[List.take_succ_eq_append_getElem hj,standsF_app,Nat.zero_add]
theorem numAppendI (w0:WL)(l:LB)(v:Value)(z:Int)(w:WL)(hn:z<9223372036854775808)(hl:l.length≤1000000000)(h:OwnB w0 l v w) :
  Calls prog 100 #[v,iA z] w fun e w'=>∃ v',e=.returned v'∧OwnB w0 (l++dgI z) v' w'∧Grew v w v' w':=by
 by_cases hz:z<0
 ·obtain⟨i0,hi,hz0,hz1,hz2⟩:=info_parts infoB;have hown:=h.own;have hsz:=h.fr.size;have g1:¬ (127:Int)<z:=by omega
  obtain⟨c,hc⟩:=eXi (UInt8.ofNat (z % 256).toNat);have e1:z % 256=((c.toNat:Nat):Int):=by
   rw[← hc];have e:(UInt8.ofNat (z % 256).toNat).toNat=(z % 256).toNat:=by simp[UInt8.toNat_ofNat];omega
   rw[e];omega
  have hd:dgI z=[c]:=by unfold dgI;rw[if_pos hz,hc]
  rw[hd];have H:Hid _:=h;clear hc hd h;go_enter func100,ntmps100;go_wp2
  go_loopw [0,1] (fun u m wr=>u=v∧m=iA z∧wr=w) (fun _ m _=>0)
  case atStart=>exact⟨rfl,rfl,rfl⟩
  case round=>
   obtain⟨rfl,rfl,rfl⟩:=hrel;go_wp2_with (at_builtin;refine wpList_append_own_at _ rfl _ _ 92 rfl w0.heap.size 5 i0 (.int .u8 0) 1 1 underlying92 hi hz0 hz1 hz2 rfl (by decide) _ _ _ rfl (hown.alloc _) (Ad wr.heap.size 0) 1 1 [.int .u8 c.toNat] rfl rfl (cell_one_new _ _ _) (one_byte _) (le_maxLen (by omega)) (le_bytes (by omega)) (le_alloc _ hsz) ?_);intro v' w3 hown' hgrow _ hat;have J3:=(H.out.kept ((Fr.refl [] wr).alloc _)).grown (l':=[c]) hown' hgrow;have G3:Grew u0 wr v' w3:=(Grew.alloc _).trans ⟨hgrow,hat.elim .inl (fun e=>.inr ⟨_,e,by simp⟩)⟩;clear hown hown' hgrow hat;go_wp2;go_ret;exact⟨v',rfl,J3,G3⟩
 obtain⟨n,rfl⟩:=Int.eq_ofNat_of_zero_le (show 0≤z by omega);have:=numAppend_any w0 l v n w (by omega) hl h;rw[← dgI_nat] at this;exact this
theorem write_any {w:WL}{pb po:Nat}{L:List Ln} (hB:BodyIn w (Ad pb po) L) (hL:L.length≤1000) (hok:∀ x ∈ L,LnOk x) (pv:Value) :
  Calls prog 260 #[.pointer (some (Ad pb po)),pv] w fun e w'=>∃ u v,e=.returned (.tuple #[u,v])∧Wr w (L.flatMap lnB) (standsF 0 L) u v w':=by
 obtain⟨i0,hi,hz0,hz1,hz2⟩:=info_parts infoB;obtain⟨j0,hj,hy0,hy1,hy2⟩:=info_parts infoI;have HBD:Hid (∀ V,Fr [] w V→BodyIn V (Ad pb po) L):=fun V F=>hB.fr F;have hlen:=lines_len hok;obtain⟨a0,cap,g,off,hc,hcap,ha,hx⟩:=hB;obtain⟨n,hn⟩:=eXi (L.length);rw[hn] at hc hcap ha hL hlen;have HN:Hid _:=hn;have HX:Hid _:=hx;have HA:Hid _:=ha;have HOK:Hid _:=hok;have hmk:=fun W=>mkInts n (by omega) W;have HLEN:Hid _:=hlen;clear hn hx ha hok hlen;have F1:Fr [] w (w.alloc (.cells (madeCells #[iA 0] n) 3)):=(Fr.refl [] w).alloc _;have o1:=own_mk w n (by omega) (Nat.le_refl _);obtain⟨W1,hW1⟩:=eXi (w.alloc (.cells (madeCells #[iA 0] n) 3));rw[hW1] at F1 o1;have hc1:=(F1.cell (p:=Ad pb po) (lt_of_cell hc) (by simp)).trans hc;have R1:Wr w [] [] (.slice none 0 0) (.slice (some (Ad w.heap.size 0)) 0 n) W1:=⟨⟨World.ownsRow_nil _ _ _ _,F1⟩,o1,fun g h=>by cases h⟩;have HR1:Hid _:=R1;clear R1 o1 F1;go_enter func260,ntmps260;go_wp2;clear hmk hW1
 go_loopw [6,7,23] (fun u v i wr=>∃ k:Nat,k≤n∧i=iA k∧Wr w ((L.take k).flatMap lnB) (standsF 0 (L.take k)) u v wr) (fun _ _ i _=>n-(intOf i).toNat)
 case atStart=>exact⟨0,by omega,rfl,HR1.out⟩
 case round=>
  clear HR1 hc1;obtain⟨k,hk,rfl,J⟩:=hrel;by_cases hlt:k<n
  ·obtain⟨rfl,hg⟩:=HA.out (by omega);have hkL:k<L.length:=by have:=HN.out;omega
   obtain⟨x,hxk⟩:=eXi (L[k]);have hxk':L[k]?=some x:=by rw[Lge hkL,hxk]
   have hF:=J.out.fr;have hxo:=HOK.out x (List.mem_of_getElem? hxk');obtain⟨z0,⟨ov,z1,x1'⟩,z2⟩:=HX.out k x hxk';have x0:=(hF.cell (p:=Ad g (off+k*3)) hg (by simp)).trans z0;have x1:=(hF.cell (p:=Ad g (off+k*3+1)) hg (by simp)).trans z1;have x2:=(hF.cell (p:=Ad g (off+k*3+2)) hg (by simp)).trans z2;clear z0 z1 z2;have hST:=stood hxk';have hUD:=upTo_done hxk';have hUL:=fun j=>Nat.le_trans (upTo_len hxk' j) HLEN.out;obtain⟨op,os⟩:=x;obtain⟨c,hc8⟩:=eXi (UInt8.ofNat op);have hop:=ofNat_u8 hxo.1;rw[hc8] at hop;simp only[hc8] at hUD hUL;simp only at x0 hop;rw[hop] at x0;obtain⟨oa,ocap,og,ooff,rfl,ho1,ho2,ho3⟩:=x1';dsimp only at ho1 ho2 ho3 x1;have HIn:Hid (∀ V,Fr [] w V→∀ j y,os[j]?=some y→oa=some (Ad og ooff)∧V.cell? (Ad og (ooff+j))=some (iA y)):=fun V F j y hy=>by
    obtain⟨e1,e2⟩:=ho2 (by have:=(Lgs.1 hy).1;omega);exact⟨e1,(F.cell (p:=Ad og (ooff+j)) e2 (by simp)).trans (ho3 j y hy)⟩
   clear ho3;have HOS:Hid (∀ y ∈ os,y<(9223372036854775808:Int)):=hxo.2.2;have HST:Hid _:=hST;have HUD:Hid _:=hUD;have HUL:Hid _:=hUL;obtain⟨n1,hn1⟩:=eXi (os.length);simp only[hn1] at ho1 ho2 x1 HUD;have HN1:Hid _:=hn1;have hn1':n1≤2:=by rw[← hn1];exact hxo.2.1
   have h0len:((L.take k).flatMap lnB).length≤21000:=by
    have:=hUL 0;simp only[upTo,List.take_zero,List.flatMap_nil,List.append_nil,Lla,List.length_singleton] at this;omega
   obtain⟨A,hA⟩:=eXi ((L.take k).flatMap lnB);have HU0:Hid (upTo L k c os 0=A++[c]):=by show _=_;unfold upTo;rw[hA];simp
   obtain⟨S,hS⟩:=eXi (standsF 0 (L.take k));rw[hA,hS] at J;rw[hA] at h0len;rw[hA,hS] at HST;have hSl:S.length≤1000:=by rw[← hS,standsF_len,List.length_take];omega
   have g1:(k:Int)<n:=by omega
   have FA:Fr [] wr (wr.alloc (.cells #[.int .u8 (c.toNat:Nat),.slice oa n1 ocap,iA (-1)] 262)):=(Fr.refl [] wr).alloc _;have kA:=wan wr (.cells #[.int .u8 (c.toNat:Nat),.slice oa n1 ocap,iA (-1)] 262);obtain⟨B,hBe⟩:=eXi (wr.heap.size);have JA:=J.kept FA;obtain⟨WA,hWA⟩:=eXi (wr.alloc (.cells #[.int .u8 (c.toNat:Nat),.slice oa n1 ocap,iA (-1)] 262));rw[hWA] at FA kA JA;have lA:Hid (WA.heap.size=B+1):=by show _=_;rw[← hWA];simp[hBe]
   rw[hBe] at kA;obtain⟨ua,ucap,rfl⟩:=ownB_form J.out;have HJ:Hid _:=JA;have hbv:(u7.ownBlock=some B)→False:=fun h=>by have:=(J.st.lt B h).2;omega
   have hbu:((Value.slice ua A.length ucap).ownBlock=some B)→False:=fun h=>by have:=(J.out.own.lt B h).2;omega
   have HBv:Hid _:=hbv;have HBu:Hid _:=hbu;have HFA:Hid _:=FA;clear hxk hxk' hxo hST hUD hUL hc8 hop hn1 hA hS J hF hbv hbu FA;go_wp2_with (at_builtin;refine wpList_append_own_at _ rfl _ _ 46 rfl w.heap.size 3 j0 (iA 0) 1 8 underlying46 hj hy0 hy1 hy2 rfl (by decide) _ _ _ rfl (HJ.out.st.alloc _) (Ad WA.heap.size 0) 1 1 [iA (A.length:Nat)] rfl rfl (cell_one_new _ _ _) (one_int _) (le_maxLen (by omega)) (by omega) (le_alloc _ HJ.out.out.fr.size) ?_);intro v2 w3 own2 grow2 _ at2;have J2:=(HJ.out.kept ((Fr.refl [] WA).alloc _)).stood (n:=A.length) own2 grow2 (at2.elim .inl fun e=>.inr ⟨_,e,by simp⟩);have hlB:B<WA.heap.size:=by have:=lA.out;omega
   have k2:w3.heap[B]?=some (.cells #[.int .u8 (c.toNat:Nat),.slice oa n1 ocap,iA (-1)] 262):=by
    rw[grow2.block B (by simp;omega) (fun e=>HBv.out e.symm),Below.heap_alloc _ _ _ hlB,kA]
   have hlB3:B<w3.heap.size:=(Age.1 k2).1;have c0:w3.cell? (Ad B 0)=some (.int .u8 (c.toNat:Nat)):=cof k2 rfl;have HJ2:Hid _:=J2;have HK2:Hid _:=k2;clear own2 grow2 at2 J2 HJ JA kA hWA x0 x1 x2 k2 lA HFA HBv;rw[HST.out] at HJ2;go_wp2_with (at_builtin;refine wpList_append_own_at _ rfl _ _ 92 rfl w.heap.size 5 i0 (.int .u8 0) 1 1 underlying92 hi hz0 hz1 hz2 rfl (by decide) _ _ _ rfl (HJ2.out.out.own.alloc _) (Ad w3.heap.size 0) 1 1 [.int .u8 (c.toNat:Nat)] rfl rfl (cell_one_new _ _ _) (one_byte _) (le_maxLen (by omega)) (le_bytes (by omega)) (le_alloc _ HJ2.out.out.fr.size) ?_);intro u2 w4 own3 grow3 _ at3;have J3:=(HJ2.out.kept ((Fr.refl [] w3).alloc _)).grew ((HJ2.out.out.kept ((Fr.refl [] w3).alloc _)).grown (l':=[c]) own3 grow3) ⟨grow3,at3.elim .inl fun e=>.inr ⟨_,e,by simp⟩⟩;rw[← HU0.out] at J3;have k3:w4.heap[B]?=some (.cells #[.int .u8 (c.toNat:Nat),.slice oa n1 ocap,iA (-1)] 262):=by
    rw[grow3.block B (by simp;omega) (fun e=>HBu.out e.symm),Below.heap_alloc _ _ _ hlB3,HK2.out]
   have hb3:u2.ownBlock=some B→False:=fun h=>by
    rcases at3 with e | e
    ·rw[e] at h;exact HBu.out h
    rw[e] at h;simp at h;omega
   have c1:w4.cell? (Ad B 1)=some (.slice oa n1 ocap):=cof k3 rfl;have HI:Hid _:=AI J3 (AI k3 hb3);clear own3 grow3 at3 J3 k3 hb3 HJ2 HK2 c0 hlB hlB3 HBu HU0 HST;clear hBe;go_wp2_with fail
   go_loopw [6,40] (fun u i wr=>∃ j:Nat,j≤n1∧i=iA j∧Hid (Wr w (upTo L k c os j) (standsF 0 (L.take (k+1))) u v2 wr∧wr.heap[B]?=some (.cells #[.int .u8 (c.toNat:Nat),.slice oa n1 ocap,iA (-1)] 262)∧(u.ownBlock=some B→False))) (fun _ i _=>n1-(intOf i).toNat)
   case atStart=>exact⟨0,by omega,rfl,HI.out⟩
   case round=>
    obtain⟨j,hj,rfl,HJ⟩:=hrel;clear HI c1;by_cases hjl:j<n1
    ·have hjo:j<os.length:=by have:=HN1.out;omega
     obtain⟨y,hy⟩:∃ y,os[j]?=some y:=⟨_,Lge hjo⟩;obtain⟨rfl,cy⟩:=HIn.out wr HJ.out.1.out.fr j y hy;have hyl:=HOS.out y (List.mem_of_getElem? hy);have g2:(j:Int)<n1:=by omega
     have hul:=HUL.out j;have hna:=numAppendI w (upTo L k c os j) u6 y wr hyl (by omega) HJ.out.1.out;rw[← upTo_succ hy] at hna;have HNA:Hid _:=fun (_:Unit)=>hna;clear hna hy hul;go_wp2_with fail;refine (HNA.out ()).mono ?_;rintro e w5 ⟨u5,rfl,J5,G5⟩;obtain⟨JJ,kB,hb⟩:=HJ.out;have lB:B<wr.heap.size:=(Age.1 kB).1;have J6:=JJ.grew J5 G5;have k6:=(G5.by_.block B lB (fun e=>hb e.symm)).trans kB;have h6:u5.ownBlock=some B→False:=fun h=>by
      rcases G5.blk with e | ⟨g',e,hl⟩
      ·exact hb (e ▸ h)
      rw[e] at h;cases h;omega
     have HI:Hid _:=AI J6 (AI k6 h6);clear HNA J5 G5 JJ kB hb J6 k6 h6 HJ;go_wp2;exact⟨⟨j+1,by omega,by go_num,HI.out⟩,by simp[intOf];omega⟩
    obtain rfl:j=n1:=by omega
    have g2:¬ (j:Int)<j:=by omega
    obtain⟨JJ,kB,hb⟩:=HJ.out;have c2:wr.cell? (Ad B 2)=some (iA (-1)):=cof kB rfl;rw[HUD.out] at JJ;have HI:Hid _:=JJ;clear JJ kB hb HJ;go_wp2;exact⟨⟨k+1,by omega,by go_num,HI.out⟩,by simp[intOf];omega⟩
  obtain rfl:k=n:=by omega
  have g1:¬ (k:Int)<k:=by omega
  rw[← HN.out,List.take_length] at J;go_wp2;go_ret2;exact⟨u6,u7,rfl,J⟩
end Tok
open Go.RowKit
open Wire
namespace Tok
theorem IntsIn.inj {W:WL}{v:Value}{A B:List Int} (ha:IntsIn W v A) (hb:IntsIn W v B):A=B:=by
 obtain⟨a0,ac,ag,ao,rfl,a1,a2,a3⟩:=ha;obtain⟨b0,bc,bg,bo,e,b1,b2,b3⟩:=hb;simp only[Value.slice.injEq] at e;obtain⟨rfl,e2,rfl⟩:=e;refine List.ext_getElem? fun i=>?_;rcases Nat.lt_or_ge i A.length with q | q
 ·obtain⟨e3,-⟩:=a2 (by omega);obtain⟨e4,-⟩:=b2 (by omega);rw[e3] at e4;cases e4;have h1:=a3 i _ (Lge q);have h2:=b3 i _ (Lge (by omega));rw[h1] at h2;simp only[Option.some.injEq,Value.int.injEq,true_and] at h2;rw[Lge q,Lge (by omega),h2]
 rw[List.getElem?_eq_none q,List.getElem?_eq_none (by omega)]
theorem ints_of {W:WL}{B:Nat}{v:Value}{S:LN} (h:W.ownsRow B 3 1 v S.length (S.map fun n=>iA (n:Nat))):IntsIn W v (S.map Int.ofNat):=by
 have h0:=h;rcases h.2 with ⟨rfl,hz⟩ | ⟨g,cap,cur,rfl,hb,hg,h1,h2,h3,h4⟩
 ·obtain rfl:=List.eq_nil_of_length_eq_zero hz;exact⟨none,0,0,0,rfl,Nat.le_refl _,by simp,by simp⟩
 refine⟨some (Ad g 0),cap,g,0,by rw[List.length_map],by rw[List.length_map];exact h1,fun _=>⟨rfl,(Age.1 hg).1⟩,fun k x hx=>?_⟩;rw[List.getElem?_map] at hx;cases hs:S[k]? with
 | none=>rw[hs] at hx;cases hx
 | some n=>
  rw[hs] at hx;cases hx;rw[Nat.zero_add];exact own_cell h0 (by rw[List.getElem?_map,hs];rfl)
theorem mkPlaces (n:Nat)(hn:n≤100000)(W:WL):(Instr.makeSlice 46 (iA (n:Int)) (iA (n:Int))).run prog W=.ok (.slice (some (Ad W.heap.size 0)) n n) (W.alloc (.cells (madeCells #[iA 0] n) 3)):=by
 obtain⟨i0,hi,hz0,hz1,hz2⟩:=info_parts infoI;have:=run_make (P:=prog) W 46 3 i0 _ underlying46 hi hz0 .i64 .i64 n n (by omega) (by omega) (by rw[hz2];omega) (by omega);simp only[Int.toNat_natCast,hz1,Nat.mul_one] at this;exact this
theorem ints_made (W:WL)(n:Nat):IntsIn (W.alloc (.cells (madeCells #[iA 0] n) 3)) (.slice (some (Ad W.heap.size 0)) n n) (List.replicate n 0):=by
 refine⟨_,n,W.heap.size,0,by rw[List.length_replicate],by rw[List.length_replicate];exact Nat.le_refl _,fun _=>⟨rfl,by simp⟩,fun k x hx=>?_⟩;rw[List.getElem?_replicate] at hx;split at hx
 ·rename_i hk
  cases hx;unfold World.cell?;rw[wan];show (madeCells #[iA 0] n)[0+k]?=_;rw[Nat.zero_add,← Array.getElem?_toList,toList_madeCells_one,List.getElem?_replicate,if_pos hk]
 cases hx
theorem code_any {w:WL}{pb po:Nat}{L:List Ln} (hB:BodyIn w (Ad pb po) L) (hL:L.length≤1000) (h0:0<L.length) (hok:∀ x ∈ L,LnOk x) :
  Calls prog 163 #[.pointer (some (Ad pb po))] w fun e w'=>e=.returned (.string ⟨(L.flatMap lnB).toArray⟩)∧Fr [] w w':=by
 have HW:Hid (∀ V pv,Fr [] w V→Calls prog 260 #[.pointer (some (Ad pb po)),pv] V fun e w'=>∃ u v,e=.returned (.tuple #[u,v])∧Wr V (L.flatMap lnB) (standsF 0 L) u v w'):=fun V pv F=>write_any (hB.fr F) hL hok pv
 obtain⟨a0,cap,g,off,hc,hcap,ha,hx⟩:=hB
 have hT:0<(L.flatMap lnB).length:=by
  match L,h0 with
  | x :: L,_=>simp[lnB]
 obtain⟨T,hTe⟩:=eXi (L.flatMap lnB)
 have hSl:=standsF_len 0 L
 obtain⟨S,hSe⟩:=eXi (standsF 0 L)
 obtain⟨n,hn⟩:=eXi (L.length)
 rw[hSe,hn] at hSl
 rw[hn] at hc hL
 simp only[hTe,hSe] at HW ⊢
 rw[hTe] at hT
 have hmk:=fun W=>mkPlaces n (by omega) W
 have hI:=ints_made w n
 have F1:Fr [] w (w.alloc (.cells (madeCells #[iA 0] n) 3)):=(Fr.refl [] w).alloc _
 obtain⟨W1,hW1⟩:=eXi (w.alloc (.cells (madeCells #[iA 0] n) 3))
 rw[hW1] at hI F1
 have HI:Hid _:=AI hI F1
 have HT:Hid _:=hT
 have HSl:Hid _:=hSl
 clear ha hx hok h0 hTe hSe hn hI F1 hT hSl hcap
 go_enter func163,ntmps163
 go_wp2
 clear hmk hW1 hc
 go_loopw [3] (fun p wr=>Hid (Fr [] w wr∧∃ P,IntsIn wr p P∧P.length=n)) (fun p wr=>(@ite Nat (IntsIn wr p (S.map Int.ofNat)) (Classical.propDecidable _) 0 1))
 case atStart=>exact⟨HI.out.2,_,HI.out.1,by simp⟩
 case round=>
  obtain⟨F,P,hP,hPl⟩:=hrel.out
  have HR:Hid _:=hrel
  clear hrel HI
  have HP:Hid _:=AI hP hPl
  have hw:=HW.out wr u3 F
  clear F hP hPl
  go_wp2_with fail
  refine hw.mono ?_
  rintro e w2 ⟨u,v,rfl,hWr⟩
  have F2:=hWr.out.fr
  have hv:=ints_of hWr.st
  have hp2:=HP.out.1.fr F2
  have heq:=equal_any hv hp2 (by rw[List.length_map];have:=HSl.out;omega)
  have HWr:Hid _:=hWr
  have HV:Hid _:=hv
  clear hw hWr F2 hv hp2
  by_cases hd:S.map Int.ofNat=P
  ·rw[decide_eq_true hd] at heq
   go_wp2_with fail
   refine heq.mono ?_
   rintro e w3 ⟨rfl,F3⟩
   have J3:=HWr.out.out.kept F3
   obtain⟨gu,cu,rfl⟩:∃ gu cu,u=.slice (some (Ad gu 0)) T.length cu:=by
    rcases J3.own.2 with ⟨_,hz⟩ | ⟨gu,cu,_,hu,_⟩
    ·have:=HT.out;omega
    ·exact⟨gu,cu,hu⟩
   have hconv:=conv_bytes w3 gu cu T.length T rfl (fun j hj=>own_cell J3.own (by simp[Lib.byteCells,List.getElem?_map,Lge hj]))
   have HF:Hid (Fr [] w w3):=(HR.out.1.trans HWr.out.out.fr).trans F3
   clear heq J3 F3
   go_wp2
   go_ret
   exact⟨rfl,HF.out⟩
  ·rw[decide_eq_false hd] at heq
   go_wp2_with fail
   refine heq.mono ?_
   rintro e w3 ⟨rfl,F3⟩
   have HF:Hid (Fr [] w w3):=(HR.out.1.trans HWr.out.out.fr).trans F3
   have hv3:=IntsIn.fr HV.out F3
   have HV3:Hid _:=hv3
   have HM:Hid ((@ite Nat (IntsIn w3 v (S.map Int.ofNat)) (Classical.propDecidable _) 0 1)<(@ite Nat (IntsIn wr u3 (S.map Int.ofNat)) (Classical.propDecidable _) 0 1)):=by
    show _<_
    rw[if_pos hv3,if_neg (fun h=>hd (h.inj HP.out.1))]
    decide
   clear heq F3 hv3
   go_wp2
   exact⟨⟨HF.out,_,HV3.out,by rw[List.length_map];exact HSl.out⟩,HM.out⟩
end Tok
open Go.RowKit
open Wire
namespace Tok
structure Tk where
 k:BA
 p:Nat
 n:Nat
 t:BA
def tkC (t:Tk):LV:=[.string t.k,.int .i64 (t.p:Nat),.int .i64 (t.n:Nat),.string t.t]
structure RC (w:WL) (r:Nat) (s:BA) (a f:Nat) (xv tv:Value):Prop where
 c0:w.cell? ⟨r,0,none⟩=some (.string s)
 c1:w.cell? ⟨r,1,none⟩=some (.int .i64 (a:Nat))
 c2:w.cell? ⟨r,2,none⟩=some (.int .i64 (f:Nat))
 c3:w.cell? ⟨r,3,none⟩=some xv
 c4:w.cell? ⟨r,4,none⟩=some tv
 f1:w.frozen? ⟨r,1,none⟩=false
 f2:w.frozen? ⟨r,2,none⟩=false
 f3:w.frozen? ⟨r,3,none⟩=false
 f4:w.frozen? ⟨r,4,none⟩=false
theorem RC.of_block {w w':WL}{r:Nat}{s:BA}{a f:Nat}{xv tv:Value} (h:RC w r s a f xv tv) (hb:w'.heap[r]?=w.heap[r]?):RC w' r s a f xv tv:=
 ⟨(World.cell?_of_block hb).trans h.c0,(World.cell?_of_block hb).trans h.c1,(World.cell?_of_block hb).trans h.c2,(World.cell?_of_block hb).trans h.c3,(World.cell?_of_block hb).trans h.c4,by have:=h.f1;unfold World.frozen? at *;rwa [hb],by have:=h.f2;unfold World.frozen? at *;rwa [hb],by have:=h.f3;unfold World.frozen? at *;rwa [hb],by have:=h.f4;unfold World.frozen? at *;rwa [hb]⟩
structure Rdr (w0:WL) (r:Nat) (s:BA) (a f:Nat) (L:List Tk) (w:WL):Prop where
 c:∃ xv tv,RC w r s a f xv tv∧w.ownsRow (r+1) 88 4 tv L.length (L.flatMap tkC)
 le:a≤s.size∧f≤a∧s.size≤100000∧L.length≤100000
 fr:Fr [] w0 w
 hr:w0.heap.size≤r
def lk (s:BA) (a:Nat):Int:=if h:a<s.size then (s[a].toNat:Int) else -1
def isBl (b:Int):Bool:=b==32 || b==9 || b==10
def isDg (b:Int):Bool:=decide (48≤b) && decide (b≤57)
def isLt (b:Int):Bool:=decide (97≤b) && decide (b≤122) || decide (65≤b) && decide (b≤90) || b==95
def isIw (b:Int):Bool:=isLt b || isDg b
theorem isBlank_any (b:Int)(w:WL):Calls prog 72 #[iA b] w fun e w'=>e=.returned (.bool (isBl b))∧w'=w:=by
 unfold isBl;cases h1:b==32 <;> cases h2:b==9 <;> cases h3:b==10 <;> (go_enter func72,ntmps72;go_wp2;go_ret;exact⟨rfl,rfl⟩)
theorem isDigit_any (b:Int)(w:WL):Calls prog 76 #[iA b] w fun e w'=>e=.returned (.bool (isDg b))∧w'=w:=by
 unfold isDg;cases h1:decide (48≤b) <;> cases h2:decide (b≤57) <;> (go_enter func76,ntmps76;go_wp2;go_ret;exact⟨rfl,rfl⟩)
theorem isLetter_any (b:Int)(w:WL):Calls prog 77 #[iA b] w fun e w'=>e=.returned (.bool (isLt b))∧w'=w:=by
 unfold isLt;cases h1:decide (97≤b) <;> cases h2:decide (b≤122) <;> cases h3:decide (65≤b) <;> cases h4:decide (b≤90) <;> cases h5:b==95 <;> (go_enter func77,ntmps77;go_wp2;go_ret;exact⟨rfl,rfl⟩)
theorem isInWord_any (b:Int)(w:WL):Calls prog 81 #[iA b] w fun e w'=>e=.returned (.bool (isIw b))∧w'=w:=by
 have h1:=isLetter_any b w;have h2:=isDigit_any b w;unfold isIw;cases e1:isLt b
 ·rw[e1] at h1;generalize isDg b=d at *;go_enter func81,ntmps81;go_wp2_with fail;refine h1.mono ?_;rintro e w1 ⟨rfl,rfl⟩;go_wp2_with fail;refine h2.mono ?_;rintro e w1 ⟨rfl,rfl⟩;go_wp2;go_ret;exact⟨rfl,rfl⟩
 rw[e1] at h1;go_enter func81,ntmps81;go_wp2_with fail;refine h1.mono ?_;rintro e w1 ⟨rfl,rfl⟩;go_wp2;go_ret;exact⟨rfl,rfl⟩
section
variable {w0 w:WL}{r:Nat}{s:BA}{a f:Nat}{L:List Tk}
theorem Rdr.heap {w':WL}(h:Rdr w0 r s a f L w)(hh:w'.heap=w.heap)(ho:w'.os=w.os)(ht:w'.tape=w.tape)(hp:w'.output=w.output):Rdr w0 r s a f L w':=by
 obtain⟨xv,tv,hc,hown⟩:=h.c;have F:Fr [] w w':=⟨ho,ht,hp,by rw[hh];exact Nat.le_refl _,fun k _ _=>by rw[hh]⟩;exact⟨⟨xv,tv,hc.of_block (by rw[hh]),own_fr hown F (by simp)⟩,h.le,h.fr.trans F,h.hr⟩
theorem look_any (h:Rdr w0 r s a f L w):Calls prog 74 #[.pointer (some (Ad r 0))] w fun e w'=>e=.returned (iA (lk s a))∧Rdr w0 r s a f L w':=by
 obtain⟨xv,tv,⟨c0,c1,c2,c3,c4,f1,f2,f3,f4⟩,hown⟩:=id h.c;have h1:=h.le;have H:Hid _:=h;unfold lk;by_cases ha:a<s.size
 ·rw[dif_pos ha];have hd:((a:Int)==(s.size:Int))=false:=by simp;omega
  have g1:(a:Int)<s.size:=by omega
  have g2:wrap64 (s[a].toNat:Int)=(s[a].toNat:Int):=by have:=s[a].toNat_lt;unfold wrap64;omega
  clear h hown;go_enter func74,ntmps74;go_wp2;go_quiet (fail);go_wp2;go_quiet (fail);go_wp2;go_ret;exact⟨congrArg (fun x=>Ending.returned (iA x)) g2,H.out.heap rfl rfl rfl rfl⟩
 rw[dif_neg ha];have hd:((a:Int)==(s.size:Int))=true:=by simp;omega
 clear h hown;go_enter func74,ntmps74;go_wp2;go_quiet (fail);go_wp2;go_ret;exact⟨rfl,H.out.heap rfl rfl rfl rfl⟩
theorem RC.at {xv tv:Value}(h:RC w r s a f xv tv)(x:Nat):RC (w.setCell ⟨r,1,none⟩ (.int .i64 (x:Nat))) r s x f xv tv:=
 ⟨(setCell_off (by decide)).trans h.c0,cell_set h.c1,(setCell_off (by decide)).trans h.c2,(setCell_off (by decide)).trans h.c3,(setCell_off (by decide)).trans h.c4,by rw[wfz];exact h.f1,by rw[wfz];exact h.f2,by rw[wfz];exact h.f3,by rw[wfz];exact h.f4⟩
theorem Rdr.at (h:Rdr w0 r s a f L w){x:Nat}(hx:x≤s.size)(hf:f≤x):Rdr w0 r s x f L (w.setCell ⟨r,1,none⟩ (.int .i64 (x:Nat))):=by
 obtain⟨xv,tv,hc,hown⟩:=h.c;have F:Fr [r] w (w.setCell ⟨r,1,none⟩ (.int .i64 (x:Nat))):=(Fr.refl [r] w).setCell (p:=⟨r,1,none⟩) (.inl (by simp)) _;exact⟨⟨xv,tv,hc.at x,own_fr hown F (by simp)⟩,⟨hx,hf,h.le.2.2⟩,h.fr.setCell (p:=⟨r,1,none⟩) (.inr h.hr) _,h.hr⟩
theorem RC.from {xv tv:Value}(h:RC w r s a f xv tv)(x:Nat)(u:Value):RC ((w.setCell ⟨r,2,none⟩ (.int .i64 (x:Nat))).setCell ⟨r,3,none⟩ u) r s a x u tv:=
 ⟨(setCell_off (by decide)).trans ((setCell_off (by decide)).trans h.c0),(setCell_off (by decide)).trans ((setCell_off (by decide)).trans h.c1),(setCell_off (by decide)).trans (cell_set h.c2),cell_set ((setCell_off (by decide)).trans h.c3),(setCell_off (by decide)).trans ((setCell_off (by decide)).trans h.c4),by rw[wfz,wfz];exact h.f1,by rw[wfz,wfz];exact h.f2,by rw[wfz,wfz];exact h.f3,by rw[wfz,wfz];exact h.f4⟩
theorem Rdr.from (h:Rdr w0 r s a f L w)(u:Value):Rdr w0 r s a a L ((w.setCell ⟨r,2,none⟩ (.int .i64 (a:Nat))).setCell ⟨r,3,none⟩ u):=by
 obtain⟨xv,tv,hc,hown⟩:=h.c;have F:Fr [r] w ((w.setCell ⟨r,2,none⟩ (.int .i64 (a:Nat))).setCell ⟨r,3,none⟩ u):=((Fr.refl [r] w).setCell (p:=⟨r,2,none⟩) (.inl (by simp)) _).setCell (p:=⟨r,3,none⟩) (.inl (by simp)) _;exact⟨⟨u,tv,hc.from a u,own_fr hown F (by simp)⟩,⟨h.le.1,Nat.le_refl _,h.le.2.2⟩,(h.fr.setCell (p:=⟨r,2,none⟩) (.inr h.hr) _).setCell (p:=⟨r,3,none⟩) (.inr h.hr) _,h.hr⟩
structure Skip (p:Int→Bool) (s:BA) (a b:Nat):Prop where
 le:a≤b∧b≤s.size
 all:∀ i,a≤i→i<b→p (lk s i)=true
 stop:p (lk s b)=false
def atOf (r:Nat) (w:WL):Nat:=match w.cell? ⟨r,1,none⟩ with
 | some (.int _ n)=>n.toNat
 | _=>0
theorem Rdr.atOf (h:Rdr w0 r s a f L w):Tok.atOf r w=a:=by
 obtain⟨xv,tv,hc,_⟩:=h.c;simp only[Tok.atOf,hc.c1];omega
theorem passAll_any {F:FuncId}{p:Int→Bool} (hFF:F=72∨F=76∨F=81) (hF:∀ (b:Int) (W:WL),Calls prog F #[iA b] W fun e w'=>e=.returned (.bool (p b))∧w'=W) (hp:p (-1)=false) (h:Rdr w0 r s a f L w) :
  Calls prog 71 #[.pointer (some (Ad r 0)),.func (.func F) #[] #[]] w fun e w'=>e=.returned (.tuple #[])∧∃ b,Skip p s a b∧Rdr w0 r s b f L w':=by
 have h0:=h.le;have H:Hid _:=h;have HF:Hid _:=hF;clear h hF;rcases hFF with rfl | rfl | rfl
 all_goals
  go_enter func71,ntmps71;go_wp2
  go_loopw [] (fun wr=>∃ b,a≤b∧(∀ i,a≤i→i<b→p (lk s i)=true)∧Rdr w0 r s b f L wr) (fun wr=>s.size-Tok.atOf r wr)
  case atStart=>exact⟨a,Nat.le_refl _,fun i h1 h2=>absurd h2 (by omega),H.out⟩
  case round=>
   clear H;obtain⟨b,hb,hall,K⟩:=hrel;have hl:=look_any K;have hle:=K.le;rw[K.atOf];have HA:Hid _:=hall;clear hall K;go_wp2_with fail;refine hl.mono ?_;rintro e w1 ⟨rfl,K1⟩;clear hl;have hc:=HF.out (lk s b) w1;cases hq:p (lk s b) with
   | false=>
    rw[hq] at hc;have HK:Hid _:=K1;have HQ:Hid _:=hq;clear hq K1;go_wp2_with fail;refine hc.mono ?_;rintro e w2 ⟨rfl,rfl⟩;clear hc;go_wp2;go_end0;exact⟨rfl,b,⟨⟨hb,hle.1⟩,HA.out,HQ.out⟩,HK.out⟩
   | true=>
    rw[hq] at hc;have hlt:b<s.size:=by
     rcases Nat.lt_or_ge b s.size with h | h
     ·exact h
     rw[show lk s b = -1 from by unfold lk;rw[dif_neg (by omega)],hp] at hq;cases hq
    have K2:Rdr w0 r s (b+1) f L (w1.setCell ⟨r,1,none⟩ (.int .i64 ((b:Int)+1))):=K1.at (x:=b+1) (by omega) (by omega);obtain⟨xv,tv,⟨c0,c1,c2,c3,c4,f1,f2,f3,f4⟩,hown⟩:=id K1.c;have e2:=K2.atOf;have HK:Hid _:=K2;have HQ:Hid _:=hq;have HE:Hid _:=e2;clear hq K1 K2 hown e2;go_wp2_with fail;refine hc.mono ?_;rintro e w2 ⟨rfl,rfl⟩;clear hc;go_wp2;refine⟨⟨b+1,by omega,fun i h1 h2=>?_,HK.out⟩,by rw[show Tok.atOf r _=b+1 from HE.out];omega⟩;by_cases he:i=b
    ·rw[he];exact HQ.out
    exact HA.out i h1 (by omega)
end
end Tok
open Go.RowKit
open Wire
namespace Tok
theorem infoTk:(prog.info? 88).map (fun i=>(i.zero,i.size,i.bytes))=some (some (.agg #[.string ⟨#[]⟩,iA 0,iA 0,.string ⟨#[]⟩]),4,48):=by kernel_rfl
theorem buildS_tk (k t:BA)(p n:Int)(w:WL):(Instr.buildSlice 80 1 #[(0,.agg #[.string k,iA p,iA n,.string t])]).run prog w=.ok (.slice (some (Ad w.heap.size 0)) 1 1) (w.alloc (.cells #[.string k,iA p,iA n,.string t] 88)):=by
 kernel_rfl
section
variable {w0 w:WL}{r:Nat}{s:BA}{a f:Nat}{L:List Tk}
theorem RC.tk {w:WL}{xv tv:Value} (h:RC w r s a f xv tv) (u:Value):RC (w.setCell ⟨r,4,none⟩ u) r s a f xv u:=
 ⟨(setCell_off (by decide)).trans h.c0,(setCell_off (by decide)).trans h.c1,(setCell_off (by decide)).trans h.c2,(setCell_off (by decide)).trans h.c3,cell_set h.c4,by rw[wfz];exact h.f1,by rw[wfz];exact h.f2,by rw[wfz];exact h.f3,by rw[wfz];exact h.f4⟩
theorem add_any (h:Rdr w0 r s a f L w)(hL:L.length<100000)(k t:BA)(p:Int)(n:Nat) :
  Calls prog 135 #[.pointer (some (Ad r 0)),.agg #[.string k,iA p,iA (n:Nat),.string t]] w fun e w'=>e=.returned (.tuple #[])∧Rdr w0 r s a f (L++[⟨k,f,n,t⟩]) w':=by
 have hm:=hmX
 obtain⟨i0,hi,hz0,hz1,hz2⟩:=info_parts infoTk;obtain⟨xv,tv,hc,hown⟩:=h.c;have hle:=h.le;have hrl:r<w.heap.size:=lt_of_cell (a:=Ad r 0) hc.c0;have hw0:w0.heap.size≤r:=h.hr;obtain⟨so,sc,rfl⟩:=own_form hown
 -- the box
 obtain⟨W1,hW1⟩:=eXi (w.alloc (.cells #[.string k,iA p,iA (n:Nat),.string t] 88));have F1:=frA hW1
 have k1:=kA hW1;have x0:W1.cell? (Ad w.heap.size 0)=some (.string k):=cof k1 rfl;have x1:W1.cell? (Ad w.heap.size 1)=some (iA p):=cof k1 rfl;have x2:W1.cell? (Ad w.heap.size 2)=some (iA (n:Nat)):=cof k1 rfl;have x3:W1.cell? (Ad w.heap.size 3)=some (.string t):=cof k1 rfl;have z1:W1.frozen? (Ad w.heap.size 1)=false:=by unfold World.frozen?;rw[k1];rfl
 have C1:RC W1 r s a f xv (.slice so L.length sc):=hc.of_block (F1.block r hrl (by simp));have c1f:=C1.c2
 -- its place
 obtain⟨W2,hW2⟩:=eXi (W1.setCell ⟨w.heap.size,1,none⟩ (.int .i64 (f:Nat)));have F2:Fr [] w W2:=by rw[← hW2];exact F1.setCell (p:=⟨w.heap.size,1,none⟩) (.inr (Nat.le_refl _)) _
 have y0:W2.cell? (Ad w.heap.size 0)=some (.string k):=by rw[← hW2];exact (setCell_off (by decide)).trans x0
 have y1:W2.cell? (Ad w.heap.size 1)=some (iA (f:Nat)):=by rw[← hW2];exact cell_set x1
 have y2:W2.cell? (Ad w.heap.size 2)=some (iA (n:Nat)):=by rw[← hW2];exact (setCell_off (by decide)).trans x2
 have y3:W2.cell? (Ad w.heap.size 3)=some (.string t):=by rw[← hW2];exact (setCell_off (by decide)).trans x3
 have C2:RC W2 r s a f xv (.slice so L.length sc):=hc.of_block (F2.block r hrl (by simp));obtain⟨WD,hWD⟩:=eXi (W2.drew);have FD:Fr [] w WD:=by rw[← hWD];exact F2.drew
 have CD:RC WD r s a f xv (.slice so L.length sc):=hc.of_block (FD.block r hrl (by simp));have v0:WD.cell? (Ad w.heap.size 0)=some (.string k):=by rw[← hWD];exact y0
 have v1:WD.cell? (Ad w.heap.size 1)=some (iA (f:Nat)):=by rw[← hWD];exact y1
 have v2:WD.cell? (Ad w.heap.size 2)=some (iA (n:Nat)):=by rw[← hWD];exact y2
 have v3:WD.cell? (Ad w.heap.size 3)=some (.string t):=by rw[← hWD];exact y3
 obtain⟨W3,hW3⟩:=eXi (WD.alloc (.cells #[.string k,iA (f:Nat),iA (n:Nat),.string t] 88));have F3:=frA hW3
 have F03:Fr [] w W3:=FD.trans F3;have hnews:=cells_new WD #[.string k,iA (f:Nat),iA (n:Nat),.string t] 88;rw[hW3] at hnews;have own3:W3.ownsRow (r+1) 88 4 (.slice so L.length sc) L.length (L.flatMap tkC):=own_fr hown F03 (by simp);have hsz3:=F03.size;obtain⟨v',W4,hr4,hown',hgrow,-,hwh⟩:=run_append_own_at (P:=prog) (w:=W3) (r+1) 80 80 88 i0 _ 4 48 underlying80 hi hz0 hz1 hz2 rfl (by decide) _ _ _ own3 (Ad WD.heap.size 0) 1 1 [.string k,iA (f:Nat),iA (n:Nat),.string t] rfl hnews (by intro u hu;simp at hu;rcases hu with rfl | rfl | rfl | rfl <;> rfl) (by unfold maxLen;omega) (by omega) (by omega)
 obtain⟨vo,vc,rfl⟩:=own_form hown';have hnr:(Value.slice so L.length sc).ownBlock≠some r:=fun e=>by have:=(own3.lt r e).1;omega
 have C4:RC W4 r s a f xv (.slice so L.length sc):=(hc.of_block (F03.block r hrl (by simp))).of_block (hgrow.block r (by omega) (fun e=>hnr e.symm));have c44:=C4.c4;have f44:=C4.f4;have F4:Fr [] w0 W4:=by
  have g:=h.fr.trans F03;exact⟨hgrow.os.trans g.os,hgrow.tape.trans g.tape,hgrow.output.trans g.output,Nat.le_trans g.size hgrow.size,fun j hj _=>(hgrow.block j (by have:=g.size;omega) (fun e=>by have:=(own3.lt j e.symm).1;omega)).trans (g.block j hj (by simp))⟩
 have FIN:Hid (Rdr w0 r s a f (L++[⟨k,f,n,t⟩]) (W4.setCell ⟨r,4,none⟩ (.slice vo (L.length+1) vc))):=by
  refine⟨⟨xv,_,C4.tk _,?_⟩,⟨hle.1,hle.2.1,hle.2.2.1,by simp;omega⟩,F4.setCell (p:=⟨r,4,none⟩) (.inr hw0) _,hw0⟩;have F:Fr [r] W4 (W4.setCell ⟨r,4,none⟩ (.slice vo (L.length+1) vc)):=(Fr.refl [r] W4).setCell (p:=⟨r,4,none⟩) (.inl (by simp)) _;have:=own_fr hown' F (by simp);rw[Lla,List.flatMap_append];exact this
 have Hr4:Hid _:=hr4;have H3:Hid _:=F3;have HQ:Hid (∀ W:WL,Fr [] WD W→W.cell? (Ad r 4)=some (.slice so L.length sc)∧W.cell? (Ad w.heap.size 0)=some (.string k)∧W.cell? (Ad w.heap.size 1)=some (iA (f:Nat))∧W.cell? (Ad w.heap.size 2)=some (iA (n:Nat))∧W.cell? (Ad w.heap.size 3)=some (.string t)):=fun W hw=>
  ⟨(hw.cell (p:=Ad r 4) (lt_of_cell CD.c4) (by simp)).trans CD.c4,(hw.cell (p:=Ad w.heap.size 0) (lt_of_cell v0) (by simp)).trans v0,(hw.cell (p:=Ad w.heap.size 1) (lt_of_cell v1) (by simp)).trans v1,(hw.cell (p:=Ad w.heap.size 2) (lt_of_cell v2) (by simp)).trans v2,(hw.cell (p:=Ad w.heap.size 3) (lt_of_cell v3) (by simp)).trans v3⟩
 have hbs:=buildS_tk k t (f:Nat) (n:Nat);clear F4 C4 CD C2 C1 hgrow hown' hwh hr4 hnews own3 hown hc h F1 F2 FD F3 F03 hi hz0 hz1 hz2 k1 hnr hle v0 v1 v2 v3;go_enter func135,ntmps135;go_wp2_with fail;refine wp_region_L (fun w=>Fr [] WD w) 7 hm ?_;rw[hWD];have hS:Fr [] WD WD:=Fr.refl _ _;refine wpAnyL_takesU (fuel:=7) [0,1,2,3] (by kernel_rfl) (fun _ _ _ _ _ h=>h) (.inr hS) ?_
 iterate 4
  refine Yls.cons (v:=?_) rfl (.inl ⟨rfl,fun w1 hS1=>?_⟩) ?_;rotate_left
  ·go_simp
   first | rfl | (refine (if_neg (by omega)).trans ?_;rfl)
  simp only[Act.put,Zp,Zq]
 refine Yls.nil ?_;refine wpAnyL_takes (fuel:=5) [4,5] (by kernel_rfl) (fun _ _ _ _ _ h=>h) hS ?_
 iterate 2
  refine Yls.cons (v:=?_) rfl (.inl ⟨rfl,fun w1 hS1=>?_⟩) ?_;rotate_left
  ·obtain⟨s0,s1,s2,s3,s4⟩:=HQ.out _ hS1;go_simp
   first | rfl | (refine (if_neg (by omega)).trans ?_;rfl)
  simp only[Act.put,Zp,Zq]
 refine Yls.nil ?_;refine wpAnyL_ready (rs:=[6]) (by kernel_rfl) (by simp) ?_;refine AllReadyL.cons rfl (fun K hK=>?_) AllReadyL.nil;go_simp;refine hK _ _ (.inr H3.out) ?_;clear hK K
 try simp only[Act.put,Zp,Zq]
 refine wpAnyL_ready (rs:=[7]) (by kernel_rfl) (by simp) ?_;refine AllReadyL.cons rfl (fun K hK=>?_) AllReadyL.nil;refine oper_appendB (.tmp 13) (.tmp 15) 80 rfl _ _ _ rfl rfl Hr4.out ?_;refine hK _ _ (.inl rfl) ?_;clear hK K
 try simp only[Act.put,Zp,Zq]
 refine wpAnyL_takesU (fuel:=1) [8,9] (by kernel_rfl) (fun _ _ _ _ _ h=>h) (.inl rfl) ?_
 iterate 2
  refine Yls.cons (v:=?_) rfl (.inl ⟨rfl,fun w1 hS1=>?_⟩) ?_;rotate_left
  ·go_simp
   first | rfl | (refine (if_neg (by omega)).trans ?_;rfl)
  simp only[Act.put,Zp,Zq]
 refine Yls.nil ?_;refine wpAnyL_ready (rs:=[10]) (by kernel_rfl) (by simp) ?_;refine AllReadyL.cons rfl (fun K hK=>?_) AllReadyL.nil;go_simp;refine hK _ _ (.inl rfl) ?_;clear hK K
 try simp only[Act.put,Zp,Zq]
 refine wpAnyL_done (by kernel_rfl) ?_ _;refine NoPanic.normal ?_;go_wp2;go_end0;exact⟨rfl,FIN.out⟩
end
end Tok
open Go.RowKit
open Wire
namespace Tok
def numTo (s:BA) (f:Nat):Nat→Nat
 | 0=>0
 | k+1=>min (numTo s f k*10+(lk s (f+k)-48).toNat) 1000000001
theorem numTo_le (s:BA)(f k:Nat):numTo s f k≤1000000001:=by
 cases k with
 | zero=>simp[numTo]
 | succ k=>exact Nat.min_le_right _ _
def numeralK:BA:=⟨#[110,117,109,101,114,97,108]⟩
section
variable {w0 w:WL}{r:Nat}{s:BA}{a f:Nat}{L:List Tk}
theorem digit_of {i:Nat}(hi:i<s.size)(h:isDg (lk s i)=true):48≤s[i].toNat∧s[i].toNat≤57∧lk s i=(s[i].toNat:Int):=by
 have e:lk s i=(s[i].toNat:Int):=by unfold lk;rw[dif_pos hi]
 rw[e] at h;simp only[isDg,Bool.and_eq_true,decide_eq_true_eq] at h;exact⟨by omega,by omega,e⟩
def NumP (w0:WL) (r:Nat) (s:BA) (a f:Nat) (L:List Tk) (e:Ending) (w':WL):Prop:=
 if numTo s f (a-f)≤1000000000 then e=.returned (.bool true)∧Rdr w0 r s a f (L++[⟨numeralK,f,numTo s f (a-f),⟨#[]⟩⟩]) w' else e=.returned (.bool false)∧Rdr w0 r s a f L w'
theorem addNumeral_any (h:Rdr w0 r s a f L w)(hL:L.length<100000)(hd:∀ i,f≤i→i<a→isDg (lk s i)=true) :
  Calls prog 80 #[.pointer (some (Ad r 0))] w (NumP w0 r s a f L):=by
 have hle:=h.le;obtain⟨xv,tv,⟨c0,c1,c2,c3,c4,f1,f2,f3,f4⟩,hown⟩:=id h.c;have HR:Hid _:=h;have HD:Hid _:=hd;clear h hd hown;go_enter func80,ntmps80;go_wp2
 go_loopw [3,4] (fun u i wr=>∃ k,f+k≤a∧u=iA (numTo s f k:Nat)∧i=iA ((f+k:Nat):Int)∧wr=w) (fun u i _=>a-(intOf i).toNat)
 case atStart=>exact⟨0,by omega,rfl,rfl,rfl⟩
 case round=>
  obtain⟨k,hk,rfl,rfl,rfl⟩:=hrel;by_cases hlt:f+k<a
  ·obtain⟨d1,d2,d3⟩:=digit_of (by omega) (HD.out (f+k) (by omega) hlt);have hn:=numTo_le s f k;have en:numTo s f (k+1)=min (numTo s f k*10+(s[f+k].toNat-48)) 1000000001:=by
    rw[numTo,d3];congr 2;omega
   have HE:Hid _:=en;have g1:((f+k:Nat):Int)<a:=by omega
   have g0:(0:Int)≤((f+k:Nat):Int):=by omega
   have g2:((f+k:Nat):Int)<s.size:=by omega
   clear en d3;go_wp2;exact⟨⟨k+1,by omega,by rw[HE.out];exact congrArg (Value.int .i64) (by omega),by rw[← Nat.add_assoc];rfl,trivial⟩,by simp only[intOf];omega⟩
  obtain rfl:a=f+k:=by omega
  have hn:=numTo_le s f k;have ha:=fun (W:WL) (K:Rdr w0 r s (f+k) f L W)=>add_any K hL numeralK ⟨#[]⟩ 0 (numTo s f k);have HA:Hid _:=ha;have g1:¬ ((f+k:Nat):Int)<((f+k:Nat):Int):=by omega
  obtain⟨N,hNe⟩:=eXi (numTo s f k);rw[hNe] at HA hn ⊢;have HN:Hid _:=hNe;clear ha HD hNe;by_cases hN:N≤1000000000
  ·have g2:¬ (1000000000:Int)<N:=by omega
   go_wp2_with fail;refine (HA.out _ HR.out).mono ?_;rintro e w1 ⟨rfl,K1⟩;have HK:Hid _:=K1;clear K1;go_wp2;go_ret;unfold NumP;rw[Nat.add_sub_cancel_left,HN.out,if_pos hN];exact⟨rfl,HK.out⟩
  have g2:(1000000000:Int)<N:=by omega
  go_wp2;go_ret;unfold NumP;rw[Nat.add_sub_cancel_left,HN.out,if_neg hN];exact⟨rfl,HR.out⟩
theorem end_any (h:Rdr w0 r s a f L w)(hL:L.length<100000)(k:BA) :
  Calls prog 75 #[.pointer (some (Ad r 0)),.string k] w fun e w'=>∃ v,e=.returned v∧w'.ownsRow (r+1) 88 4 v (L.length+1) ((L++[(⟨k,f,0,⟨#[]⟩⟩:Tk)]).flatMap tkC)∧Fr [] w0 w':=by
 have ha:=add_any h hL k ⟨#[]⟩ 0 0;clear h;go_enter func75,ntmps75;go_wp2_with fail;refine ha.mono ?_;rintro e w1 ⟨rfl,K1⟩;obtain⟨xv,tv,⟨c0,c1,c2,c3,c4,f1,f2,f3,f4⟩,hown⟩:=id K1.c;have HK:Hid _:=AI hown K1.fr;clear K1 hown ha;go_wp2;go_ret;exact⟨tv,rfl,by have:=HK.out.1;rw[Lla] at this;exact this,HK.out.2⟩
end
end Tok
open Go.RowKit
open Wire
namespace Tok
def WordIs (x:BA) (b:Bool):Prop:=∀ w:WL,Calls prog 136 #[.string x] w fun e w'=>e=.returned (.bool b)∧w'=w
theorem word_BEGIN:WordIs ⟨#[66,69,71,73,78]⟩ true:=by
 intro w;go_enter func136,ntmps136;go_wp2;go_ret;exact⟨rfl,rfl⟩
theorem word_print:WordIs ⟨#[112,114,105,110,116]⟩ true:=by
 intro w;go_enter func136,ntmps136;go_wp2;go_ret;exact⟨rfl,rfl⟩
theorem word_n:WordIs ⟨#[110]⟩ false:=by
 intro w;go_enter func136,ntmps136;go_wp2;go_ret;exact⟨rfl,rfl⟩
def nameK:BA:=⟨#[110,97,109,101]⟩
section
variable {w0 w:WL}{r:Nat}{s:BA}{a f:Nat}{L:List Tk}
theorem addWord_any (h:Rdr w0 r s a f L w)(hL:L.length<100000){x:BA}{b:Bool} (hx:s.extract f a=x) (hw:WordIs x b) :
  Calls prog 82 #[.pointer (some (Ad r 0))] w fun e w'=>e=.returned (.tuple #[])∧Rdr w0 r s a f (L++[cond b ⟨x,f,0,⟨#[]⟩⟩ ⟨nameK,f,0,x⟩]) w':=by
 have hle:=h.le;obtain⟨xv,tv,⟨c0,c1,c2,c3,c4,f1,f2,f3,f4⟩,hown⟩:=id h.c;have HR:Hid _:=h;have HW:Hid _:=hw;have g0:(0:Int)≤f:=by omega
 have g1:(f:Int)≤a:=by omega
 have g2:(a:Int)≤s.size:=by omega
 have hsl:(s.extract (f:Int).toNat (a:Int).toNat)=x:=hx;clear h hw hown;cases b with
 | true=>
  have ha:=fun (W:WL) (K:Rdr w0 r s a f L W)=>add_any K hL x ⟨#[]⟩ 0 0;have HA:Hid _:=ha;clear ha;go_enter func82,ntmps82;go_wp2;go_quiet (fail);go_wp2_with fail;refine (HW.out _).mono ?_;rintro e w1 ⟨rfl,rfl⟩;go_wp2_with fail;refine (HA.out (w.drewN nq) (HR.out.heap rfl rfl rfl rfl)).mono ?_;rintro e w1 ⟨rfl,K1⟩;have HK:Hid _:=K1;clear K1;go_wp2;go_end0;exact⟨rfl,HK.out⟩
 | false=>
  have ha:=fun (W:WL) (K:Rdr w0 r s a f L W)=>add_any K hL nameK x 0 0;have HA:Hid _:=ha;clear ha;go_enter func82,ntmps82;go_wp2;go_quiet (fail);go_wp2_with fail;refine (HW.out _).mono ?_;rintro e w1 ⟨rfl,rfl⟩;go_wp2_with fail;refine (HA.out (w.drewN nq) (HR.out.heap rfl rfl rfl rfl)).mono ?_;rintro e w1 ⟨rfl,K1⟩;have HK:Hid _:=K1;clear K1;go_wp2;go_end0;exact⟨rfl,HK.out⟩
end
end Tok
end Go.Proofs.YtmolfmgchbjnbaaGreatDoor
