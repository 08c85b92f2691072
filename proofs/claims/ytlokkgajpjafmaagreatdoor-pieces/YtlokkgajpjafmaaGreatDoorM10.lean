import Derived.Test.YtlokkgajpjafmaaGreatDoorM09
set_option linter.unusedSimpArgs false
set_option linter.unusedVariables false
set_option maxRecDepth 100000
set_option maxHeartbeats 40000000
open _root_.Go.Proofs.Tryz
namespace Go.Proofs.YtlokkgajpjafmaaGreatDoor
open Go.RowKit
abbrev zL:LV:=[.int .u64 0,.int .i64 0,.int .i64 0,.int .i64 0,.int .i64 0,.int .i64 0,.int .i64 0,.int .i64 0,.int .i64 0,.int .i64 0,.int .i64 0,.int .i64 0,.int .i64 0,.int .i64 0,.int .i64 0,.int .i64 0,.int .i64 0,.int .i64 0,.int .i64 0,.int .i64 0,.int .i64 0,.int .i64 0,.int .i64 0,.int .i64 0,.int .i64 0,.int .i64 0,.int .i64 0,.int .i64 0,.int .i64 0,.int .i64 0,.int .i64 0,.int .i64 0,.int .i64 0,.int .i64 0,.int .i64 0,.int .i64 0,.int .i64 0,.int .i64 0,.int .i64 0,.int .i64 0,.int .i64 0,.int .i64 0,.int .i64 0,.int .i64 0,.int .i64 0,.int .i64 0,.int .i64 0,.int .i64 0,.int .i64 0,.int .i64 0,.int .i64 0]
abbrev zR:Array Value:=zL.toArray
theorem cN.new (W:WL):cN (W.alloc (.cells zR 242)) W.heap.size 0 (fun _=>0):=by
 have h:=bW W zL 242;have hz:=bT W zL 242;have hl:zL=(uA 0 :: List.replicate 50 (iA 0)):=by rfl
 refine⟨h 0,fun a ha=>?_,fun i _=>hz i⟩;rw[h (1+a),hl,Nat.add_comm,List.getElem?_cons_succ,List.getElem?_replicate,if_pos ha]
theorem pI.start (w:WL)(pb:Nat)(q:Piece)(tk:NN)(fo:Nat→NN)(x:BA)(hP:bL w pb (whF q) tk fo)(hT:Tab w) :
  pI w pb q tk fo x 0 (w.heap.size+1) (w.heap.size+1+1) (((w.alloc (.cells (madeCells #[iA 0] (x.size+1)) 3)).alloc (.cells zR 242)).alloc (.cells zR 242)):=by
 have f0:Fr [] w (((w.alloc (.cells (madeCells #[iA 0] (x.size+1)) 3)).alloc (.cells zR 242)).alloc (.cells zR 242)):=(((Fr.refl [] w).alloc _).alloc _).alloc _;have f1:Fr [] (w.alloc (.cells (madeCells #[iA 0] (x.size+1)) 3)) (((w.alloc (.cells (madeCells #[iA 0] (x.size+1)) 3)).alloc (.cells zR 242)).alloc (.cells zR 242)):=((Fr.refl [] _).alloc _).alloc _;have r1:=(cN.new (w.alloc (.cells (madeCells #[iA 0] (x.size+1)) 3))).fr ((Fr.refl [] _).alloc (.cells zR 242)) (by simp);have r2:=cN.new ((w.alloc (.cells (madeCells #[iA 0] (x.size+1)) 3)).alloc (.cells zR 242));rw[World.size_alloc] at r1;rw[World.size_alloc,World.size_alloc] at r2;have hm:=wan w (.cells (madeCells #[iA 0] (x.size+1)) 3);have c0:∀ j,j≤x.size→(w.alloc (.cells (madeCells #[iA 0] (x.size+1)) 3)).cell? (Ad w.heap.size j)=some (iA 0):=fun j hj=>by
  unfold World.cell?;rw[hm];simp[madeCells,show j<x.size+1 by omega,Nat.mod_one]
 have z0:∀ j,(w.alloc (.cells (madeCells #[iA 0] (x.size+1)) 3)).frozen? (Ad w.heap.size j)=false:=fun j=>by
  unfold World.frozen?;rw[hm];simp
 refine⟨hP.fr f0 (by simp),⟨_,_,r1⟩,⟨_,_,r2⟩,fun e he=>by omega,fun j hj=>?_,fun j hj=>?_,hT.fr f0 (by simp),f0,by omega,.inl rfl,.inr rfl,hP.lt,fH.fr ⟨_,_,hm⟩ f1 (by simp),hT.lt⟩
 ·rw[if_neg (by omega)];exact (f1.cell (p:=Ad w.heap.size j) (by simp) (by simp)).trans (c0 j hj)
 exact (f1.frozen (p:=Ad w.heap.size j) (by simp) (by simp)).trans (z0 j)
def X4 (w:WL) (q:Piece) (tk:NN) (fo:Nat→NN) (x:BA) (W:WL) (eb:Nat):Prop:=
 w.heap.size≤eb∧fH W eb 3∧∀ j,j≤x.size→W.cell? ⟨eb,j,none⟩=some (.int .i64 (oI q tk fo x j))
theorem yS (pb:Nat)(q:Piece)(tk:NN)(fo:Nat→NN)(x:BA)(w:WL)(hP:bL w pb (whF q) tk fo)(hT:Tab w)(lq:PB 50 q)(ltk:∀ b,tk b<1125899906842624)(lfo:∀ s a,fo s a<18446744073709551616)(hx:x.size≤100) :
  Calls prog 162 #[.pointer (some (Ad pb 0)),.string x] w fun e w'=>∃ eb,e=.returned (.slice (some (Ad eb 0)) (x.size+1) (x.size+1))∧X4 w q tk fo x w' eb∧Fr [] w w':=by
 have hm:=hmX
 have hmk:=fun w=>run_make_row' (P:=prog) 26 3 (iA 0) 8 underlying26 aZj rfl .i64 .i64 (x.size+1) (by omega) (by omega) w;have ec:((x.size+1:Nat):Int)=(x.size:Int)+1:=by omega
 rw[ec] at hmk;clear ec;have J0:=pI.start w pb q tk fo x hP hT;go_enter func162,ntmps162;go_wp2;clear hmk;generalize (((w.alloc (.cells (madeCells #[iA 0] (x.size+1)) 3)).alloc (.cells zR 242)).alloc (.cells zR 242))=W0 at *
 go_loopw [6,7,8] (fun a b i wr=>∃ (p:Int) (hb bb d:Nat),-1≤p∧p+d=x.size∧a=.pointer (some (Ad hb 0))∧b=.pointer (some (Ad bb 0))∧i=iA p∧pI w pb q tk fo x d hb bb wr) (fun _ _ i _=>(intOf i+1).toNat)
 case atStart=>exact⟨x.size,_,_,0,by omega,by omega,rfl,rfl,rfl,J0⟩
 case round=>
  obtain⟨p,hb,bb,d,hp1,hp2,rfl,rfl,rfl,J⟩:=hrel;clear J0;by_cases hp:0≤p
  ·obtain⟨k,rfl⟩:=Int.eq_ofNat_of_zero_le hp;have g1:(0:Int)≤(k:Int):=by omega
   have g2:(k:Int)≤100:=by omega
   have hkd:k+d=x.size:=by omega
   have hfill:Calls prog 181 #[.pointer (some (Ad pb 0)),.pointer (some (Ad hb 0)),.string x,iA k,.pointer (some (Ad bb 0))] wr fun e W'=>e=.returned (.tuple #[])∧kZ w pb q tk fo x d hb bb W':=by
    cases d with
    | zero=>
     obtain rfl:k=x.size:=by omega
     exact aLb J
    | succ d=>exact aQa d k J (by omega) hx lq ltk lfo
   have sp4:=aMo k x.size;have hspo:=Y7 k x.size;have hfar:=fun (W:WL) (least:Int) (hW:kZ w pb q tk fo x d hb bb W)=>bBt hW least lq ltk;have hend:=aQe q tk fo x d;rw[show x.size-d=k by omega] at hfar;have we:=aYn q _ sp4;have wf:=aYm q _ sp4;have wl:=aWc q _ sp4;have hsp35:=fun (W:WL)=>xL (k:Int) (x.size:Int) W;simp only[hspo] at hsp35;generalize jD k x.size=sp at *;clear hspo;have g3:(sp:Int)<4:=by omega
   obtain⟨E,hE⟩:=eXi (yT q tk fo x d);have hnx:=fun (W:WL) (hW:kZ w pb q tk fo x d hb bb W)=>hW.next k hkd;simp only[hE] at hfar hend hnx;clear hE;have Hfar:Hid _:=hfar;have H35:Hid _:=hsp35;have Hnx:Hid _:=hnx;clear hfar hsp35 hnx;go_wp2_with fail;refine hfill.mono ?_;rintro e Wa ⟨rfl,K⟩;clear hfill J;have p0:Wa.cell? (Ad pb (sp*3))=some (.bool (q sp).e):=by rw[K.pat.hw _ (by omega),we]
   have p1:Wa.cell? (Ad pb (sp*3+1))=some (uA (q sp).f):=by rw[K.pat.hw _ (by omega),wf]
   have p2:Wa.cell? (Ad pb (sp*3+2))=some (uA (q sp).l):=by rw[K.pat.hw _ (by omega),wl]
   clear we wf wl;go_wp2;refine aI (fun w1:WL=>w1.cell? (Ad pb (sp*3))=some (.bool (q sp).e)∧w1.cell? (Ad pb (sp*3+1))=some (uA (q sp).f)∧w1.cell? (Ad pb (sp*3+2))=some (uA (q sp).l)) hm ?_;have hS:(fun w1:WL=>w1.cell? (Ad pb (sp*3))=some (.bool (q sp).e)∧w1.cell? (Ad pb (sp*3+1))=some (uA (q sp).f)∧w1.cell? (Ad pb (sp*3+2))=some (uA (q sp).l)) Wa.drew:=AI p0 (AI p1 p2);refine wpAnyH_take (i:=0) (v:=?_) rfl (by kernel_rfl) (by kernel_rfl) (by kernel_rfl) (fun _ _ _ h=>h) (.inl ⟨rfl,fun w1 hS1=>?_⟩) hS ?_;rotate_left
   ·go_simp;rfl
   simp only[Act.put,Zp];refine wpAnyH_take (i:=1) (v:=?_) rfl (by kernel_rfl) (by kernel_rfl) (by kernel_rfl) (fun _ _ _ h=>h) (.inl ⟨rfl,fun w1 hS1=>?_⟩) hS ?_;rotate_left
   ·go_simp;rfl
   simp only[Act.put,Zp];refine wpAnyH_take (i:=2) (v:=?_) rfl (by kernel_rfl) (by kernel_rfl) (by kernel_rfl) (fun _ _ _ h=>h) (.inl ⟨rfl,fun w1 hS1=>?_⟩) hS ?_;rotate_left
   ·go_simp;rfl
   simp only[Act.put,Zp];refine wpAnyH_take (i:=3) (v:=?_) rfl (by kernel_rfl) (by kernel_rfl) (by kernel_rfl) (fun _ _ _ h=>h) (.inl ⟨rfl,fun w1 hS1=>?_⟩) hS ?_;rotate_left
   ·go_simp;rfl
   simp only[Act.put,Zp];refine wpAnyH_take (i:=5) (v:=?_) rfl (by kernel_rfl) (by kernel_rfl) (by kernel_rfl) (fun _ _ _ h=>h) (.inl ⟨rfl,fun w1 hS1=>?_⟩) hS ?_;rotate_left
   ·go_simp;rfl
   simp only[Act.put,Zp];refine wpAnyH_take (i:=6) (v:=?_) rfl (by kernel_rfl) (by kernel_rfl) (by kernel_rfl) (fun _ _ _ h=>h) (.inl ⟨rfl,fun w1 hS1=>?_⟩) hS ?_;rotate_left
   ·go_simp;rfl
   simp only[Act.put,Zp];refine wpAnyH_ready (rs:=[4,9]) (by kernel_rfl) (by simp) ?_;refine AllReadyH.cons rfl (fun K' hK=>?_) ?_
   ·go_simp;refine (H35.out _).mono ?_;rintro e w' ⟨rfl,rfl⟩;refine hK _ _ hS ?_;clear hK K';intro _;refine wpAnyH_take (i:=7) (v:=?_) rfl (by kernel_rfl) (by kernel_rfl) (by kernel_rfl) (fun _ _ _ h=>h) (.inl ⟨rfl,fun w1 hS1=>?_⟩) hS ?_;rotate_left
    ·go_simp;rfl
    simp only[Act.put,Zp];refine wpAnyH_take (i:=8) (v:=?_) rfl (by kernel_rfl) (by kernel_rfl) (by kernel_rfl) (fun _ _ _ h=>h) (.inl ⟨rfl,fun w1 hS1=>?_⟩) hS ?_;rotate_left
    ·obtain⟨q0,q1,q2⟩:=hS1;go_simp;rfl
    simp only[Act.put,Zp];refine rd1 (r:=9) (by kernel_rfl) rfl fun K' hK=>?_;go_simp;clear hS;have hS:(fun w1:WL=>w1.cell? (Ad pb (sp*3))=some (.bool (q sp).e)∧w1.cell? (Ad pb (sp*3+1))=some (uA (q sp).f)∧w1.cell? (Ad pb (sp*3+2))=some (uA (q sp).l)) (Wa.alloc (Obj.cells #[Value.bool false,uA 0,uA 0] 118)).drew:=AI (aZ p0) (AI (aZ p1) (aZ p2));refine hK _ _ hS ?_;clear hK K';intro _;refine rd1 (r:=10) (by kernel_rfl) rfl fun K' hK=>?_;go_simp;refine hK _ _ ?_ ?_
    ·exact AI (aZ p0) (AI (aZ p1) (aZ p2))
    clear hK K';intro _;refine wpAnyH_done (by kernel_rfl) ?_ _;have Kc:=K.kept (W':=(Wa.alloc (Obj.cells #[.bool (q sp).e,uA (q sp).f,uA (q sp).l] 118)).drew) (((Fr.refl [] Wa).alloc _).drew) K.elt;have n0:=bW Wa [.bool (q sp).e,uA (q sp).f,uA (q sp).l] 118;have d0:(Wa.alloc (Obj.cells #[.bool (q sp).e,uA (q sp).f,uA (q sp).l] 118)).drew.cell? (Ad Wa.heap.size 0)=some (.bool (q sp).e):=n0 0;have d1:(Wa.alloc (Obj.cells #[.bool (q sp).e,uA (q sp).f,uA (q sp).l] 118)).drew.cell? (Ad Wa.heap.size 1)=some (uA (q sp).f):=n0 1;clear n0 p0 p1 p2 hS;generalize (Wa.alloc (Obj.cells #[.bool (q sp).e,uA (q sp).f,uA (q sp).l] 118)).drew=Wc at *;generalize Wa.heap.size=nb at *;cases he:(q sp).e
    all_goals
     rw[he] at d0;go_wp2_with fail;refine (Hfar.out _ _ Kc (by rw[he];rfl)).mono ?_;rintro e Wd ⟨rfl,Kd⟩;have ecell:=Kd.ec k (by omega);rw[if_neg (by omega)] at ecell;have efz:=Kd.ez k (by omega);have g5:(k:Int)<(x.size:Int)+1:=by omega
     have g6:((x.size+1:Nat):Int)=(x.size:Int)+1:=by omega
     go_wp2;exact⟨⟨(k:Int)-1,bb,hb,d+1,by omega,by omega,rfl,rfl,rfl,Hnx.out _ Kd⟩,by simp[intOf]⟩
   refine AllReadyH.cons rfl (fun K' hK=>?_) AllReadyH.nil;go_simp;clear hS;have hS:(fun w1:WL=>w1.cell? (Ad pb (sp*3))=some (.bool (q sp).e)∧w1.cell? (Ad pb (sp*3+1))=some (uA (q sp).f)∧w1.cell? (Ad pb (sp*3+2))=some (uA (q sp).l)) (Wa.alloc (Obj.cells #[Value.bool false,uA 0,uA 0] 118)).drew:=AI (aZ p0) (AI (aZ p1) (aZ p2));refine hK _ _ hS ?_;clear hK K';intro _;refine rd1 (r:=4) (by kernel_rfl) rfl fun K' hK=>?_;go_simp;refine (H35.out _).mono ?_;rintro e w' ⟨rfl,rfl⟩;refine hK _ _ hS ?_;clear hK K';intro _;refine wpAnyH_take (i:=7) (v:=?_) rfl (by kernel_rfl) (by kernel_rfl) (by kernel_rfl) (fun _ _ _ h=>h) (.inl ⟨rfl,fun w1 hS1=>?_⟩) hS ?_;rotate_left
   ·go_simp;rfl
   simp only[Act.put,Zp];refine wpAnyH_take (i:=8) (v:=?_) rfl (by kernel_rfl) (by kernel_rfl) (by kernel_rfl) (fun _ _ _ h=>h) (.inl ⟨rfl,fun w1 hS1=>?_⟩) hS ?_;rotate_left
   ·obtain⟨q0,q1,q2⟩:=hS1;go_simp;rfl
   simp only[Act.put,Zp];refine rd1 (r:=10) (by kernel_rfl) rfl fun K' hK=>?_;go_simp;refine hK _ _ ?_ ?_
   ·exact AI (aZ p0) (AI (aZ p1) (aZ p2))
   clear hK K';intro _;refine wpAnyH_done (by kernel_rfl) ?_ _;have Kc:=K.kept (W':=(Wa.alloc (Obj.cells #[.bool (q sp).e,uA (q sp).f,uA (q sp).l] 118)).drew) (((Fr.refl [] Wa).alloc _).drew) K.elt;have n0:=bW Wa [.bool (q sp).e,uA (q sp).f,uA (q sp).l] 118;have d0:(Wa.alloc (Obj.cells #[.bool (q sp).e,uA (q sp).f,uA (q sp).l] 118)).drew.cell? (Ad Wa.heap.size 0)=some (.bool (q sp).e):=n0 0;have d1:(Wa.alloc (Obj.cells #[.bool (q sp).e,uA (q sp).f,uA (q sp).l] 118)).drew.cell? (Ad Wa.heap.size 1)=some (uA (q sp).f):=n0 1;clear n0 p0 p1 p2 hS;generalize (Wa.alloc (Obj.cells #[.bool (q sp).e,uA (q sp).f,uA (q sp).l] 118)).drew=Wc at *;generalize Wa.heap.size=nb at *;cases he:(q sp).e
   all_goals
    rw[he] at d0;go_wp2_with fail;refine (Hfar.out _ _ Kc (by rw[he];rfl)).mono ?_;rintro e Wd ⟨rfl,Kd⟩;have ecell:=Kd.ec k (by omega);rw[if_neg (by omega)] at ecell;have efz:=Kd.ez k (by omega);have g5:(k:Int)<(x.size:Int)+1:=by omega
    have g6:((x.size+1:Nat):Int)=(x.size:Int)+1:=by omega
    go_wp2;exact⟨⟨(k:Int)-1,bb,hb,d+1,by omega,by omega,rfl,rfl,rfl,Hnx.out _ Kd⟩,by simp[intOf]⟩
  have g1:¬ ((0:Int)≤p):=by omega
  obtain rfl:d=x.size+1:=by omega
  go_wp2;go_ret;refine⟨w.heap.size,rfl,⟨Nat.le_refl _,J.tg,fun j hj=>?_⟩,J.fr⟩;rw[J.ec j hj,if_pos (by omega)]
def fI (E:Nat→Int):Nat→Nat→Int × Int
 | 0,_=>(-1,0)
 | f+1,k=>if E k = -1 then fI E f (k+1) else ((k:Int),E k-k)
theorem aKz (E:Nat→Int)(k n:Nat)(h:0<n)(he:E k≠-1):fI E n k=((k:Int),E k-k):=by
 obtain⟨m,rfl⟩:∃ m,n=m+1:=⟨n-1,by omega⟩;rw[fI,if_neg he]
theorem aLa (E:Nat→Int)(k n:Nat)(h:0<n)(he:E k = -1):fI E n k=fI E (n-1) (k+1):=by
 obtain⟨m,rfl⟩:∃ m,n=m+1:=⟨n-1,by omega⟩;rw[fI,if_pos he];rfl
theorem vU (q:Piece)(tk:NN)(fo:Nat→NN)(x:BA)(k:Nat):oI q tk fo x k≤x.size∧-1≤oI q tk fo x k:=aQe q tk fo x _
theorem aJl (pb:Nat)(q:Piece)(tk:NN)(fo:Nat→NN)(x:BA)(fr:Nat)(w:WL)(hP:bL w pb (whF q) tk fo)(hT:Tab w)(lq:PB 50 q)(ltk:∀ b,tk b<1125899906842624)(lfo:∀ s a,fo s a<18446744073709551616)(hx:x.size≤100)(hfr:fr≤x.size) :
  Calls prog 128 #[.pointer (some (Ad pb 0)),.string x,iA fr] w fun e w'=>e=.returned (.tuple #[iA (fI (oI q tk fo x) (x.size+1-fr) fr).1,iA (fI (oI q tk fo x) (x.size+1-fr) fr).2])∧Fr [] w w':=by
 have hm:=hmX
 have hen:=yS pb q tk fo x w hP hT lq ltk lfo hx;have hle:=vU q tk fo x;unfold X4 at hen;generalize oI q tk fo x=E at *;obtain⟨R,hR⟩:=eXi (fI E (x.size+1-fr) fr);rw[hR];have HR:Hid (_=R):=hR;clear hR;go_enter func128,ntmps128;go_wp2_with fail;refine hen.mono ?_;rintro e w1 ⟨eb,rfl,⟨_,_,hc⟩,f1⟩;have Hc:Hid _:=hc;have Hle:Hid _:=hle;clear hc hle hen;go_wp2
 go_loop [9] (fun i=>∃ k:Nat,k≤x.size+1∧i=iA k∧Hid (fI E (x.size+1-k) k=R)) (fun i=>x.size+1-(intOf i).toNat)
 case atStart=>exact⟨fr,by omega,rfl,HR⟩
 case round=>
  obtain⟨k,hk,rfl,hR⟩:=hrel;by_cases hlt:k≤x.size
  ·have g1:(k:Int)≤x.size:=by omega
   have g2:(k:Int)<(x.size:Int)+1:=by omega
   have c1:=Hc.out k hlt;obtain⟨hb1,hb2⟩:=Hle.out k;have hw64:IntKind.i64.wrap (E k-k)=E k-k:=by rw[IntKind.wrap_i64];omega
   by_cases he:E k = -1
   ·have e1:(E k != -1)=false:=by simp[he]
    have hR':=hR.out;rw[aLa E k _ (by omega) he,show x.size+1-k-1=x.size+1-(k+1) by omega] at hR';have HR':Hid _:=hR';clear hR' he;go_wp2
    go_round
    case rel=>exact⟨k+1,by omega,by go_num,HR'⟩
    case measure=>simp[intOf];omega
   have e1:(E k != -1)=true:=by simp[he]
   have hR':=hR.out;rw[aKz E k _ (by omega) he] at hR';have HR':Hid _:=hR';clear hR' he;go_wp2;refine aY hm (by kernel_rfl) ?_
   repeat still_step
   refine wpStill_nil ?_;go_wp2;go_ret2;refine⟨?_,f1.drew⟩;rw[← HR'.out];simp[hw64]
  have g1:¬ ((k:Int)≤x.size):=by omega
  have hR':=hR.out;rw[show x.size+1-k=0 by omega,fI] at hR';have HR':Hid _:=hR';clear hR';go_wp2;go_ret2;refine⟨?_,f1⟩;rw[← HR'.out];rfl
section
variable {lit t:BA}{k m:Nat}{q:Piece}{s:St}
end
section
variable {lit x:BA}{q:Piece}{s:St}
end
theorem aAc (t:BA)(ht:t.size≤50):PB 50 (eT t).1∧(∀ b,(eT t).2.tk b<1125899906842624)∧∀ s a,(eT t).2.fo s a<18446744073709551616:=by
 have gv:=(fD t 400).alt st0 (I7 t);have hi:Inv t (eT t).2:=gv.inv;have ha:(eT t).2.atoms≤50:=Nat.le_trans hi.at_ (Nat.le_trans hi.pos ht);have hp:2 ^ (eT t).2.atoms≤2 ^ 50:=Nat.pow_le_pow_right (by decide) ha;have h50:(2:Nat) ^ 50=1125899906842624:=by decide
 refine⟨PB.mono gv.pb ha,fun b=>?_,fun s a=>?_⟩
 ·have:=hi.tk b;omega
 have:=hi.fo s a;omega
theorem aYs:(prog.info? 229).map (·.size)=some 2:=by kernel_rfl
theorem aCg:(prog.info? 5).map (fun i=>(i.zero,i.size,i.bytes))=some (some (.int .u8 0),1,1):=by kernel_rfl
structure aIf (b:Nat) (bs:LV) (w w':WL):Prop where
 bui:Lib.BuilderAtF 229 5 b b (.pointer (some ⟨b,0,none⟩)) bs w'
 low:Below b w w'
 oth:Lib.OthersKept 5 (some b) w w'
theorem qI (b:Nat)(bs:LV)(w:WL)(h:Lib.IsBuilderF 229 5 b b bs w) :
  Calls prog 184 #[.pointer (some (Ad b 0))] w fun e w'=>e=.returned (.tuple #[])∧aIf b bs w w':=by
 obtain⟨j,hj,hjs⟩:=Option.map_eq_some_iff.1 aYs;rcases h with h | h
 ·have c0:=h.cell0;have fz:=h.frozen0;have hsh:=h.shape;go_enter func184,ntmps184;go_wp2;rw[Lib.run_to_unsafe w (Ad b 0) underlying227 underlying263 hj (by rw[hjs];decide) hsh (Nat.zero_lt_succ 1)];simp only[Result.andThen];rw[Oper.upon_value];go_wp2;rw[run_callFunc_extern func214 (by kernel_rfl) (by kernel_rfl) (by kernel_rfl) (e:=Extern.AbiNoEscape.same) (by kernel_rfl),Lib.run_noEscape];simp only[Result.andThen];rw[Oper.upon_value];go_wp2;rw[Lib.run_from_unsafe w (Ad b 0) underlying263 underlying227 hj hsh (by kernel_rfl)];simp only[Result.andThen];rw[Oper.upon_value];go_wp2;go_end0;exact⟨rfl,h.used _,(Below.refl b w).setCell (p:=⟨b,0,none⟩) h.1 _,(Lib.OthersKept.refl _ _ w).setCell ⟨b,0,none⟩ rfl _⟩
 have c0:=h.cell0;go_enter func184,ntmps184;go_wp2;rw[Lib.run_neq_ptr_same w _ underlying227 hj];go_wp2;go_end0;exact⟨rfl,h,Below.refl b _,Lib.OthersKept.refl _ _ _⟩
theorem pZ (b:Nat)(bs:LV)(c:Int)(w:WL)(h:Lib.IsBuilderF 229 5 b b bs w)(hlen:bs.length≤1000000)(hbw:b≤w.heap.size) :
  Calls prog 164 #[.pointer (some (Ad b 0)),.int .u8 c] w fun e w'=>e=.returned .nilIface∧aIf b (bs++[.int .u8 c]) w w':=by
 obtain⟨i0,hi,hz0,hz1,hz2⟩:=info_parts aCg;have hcc:=qI b bs w h;clear h;go_enter func164,ntmps164;go_wp2_with fail;refine hcc.mono ?_;rintro e w1 ⟨rfl,⟨hB,v,hbk,hown,hne⟩,low,oth⟩;clear hcc;have hsz:=low.size;have c0:w1.cell? (Ad b 0)=some (.pointer (some (Ad b 0))):=by rw[Lib.cell_of_heap hbk];rfl
 have c1:w1.cell? (Ad b 1)=some v:=by rw[Lib.cell_of_heap hbk];rfl
 have hlt:=aB c0;go_wp2_with (at_builtin;refine wpList_append_ownF _ rfl _ _ 60 rfl b 5 i0 (.int .u8 0) 1 1 underlying60 hi hz0 hz1 hz2 rfl (by decide) _ _ _ rfl (hown.alloc _) (Ad w1.heap.size 0) 1 1 [.int .u8 c] rfl rfl ?c1 ?c2 ?c3 ?c4 ?c5 ?_)
 case c1=>
  intro j u hj;rcases j with _ | j
  ·simp at hj;subst hj;simp[Addr.add]
  simp at hj
 case c2=>intro u hu;simp at hu;subst hu;rfl
 case c3=>unfold maxLen;omega
 case c4=>omega
 case c5=>simp;omega
 intro v' w2 hown' hgrow _;have hb2:w2.heap[b]?=some (.cells #[.pointer (some (Ad b 0)),v] 229 (0,0)):=by
  rw[hgrow.block b (by simp;omega) (fun e=>hne e.symm),Lib.alloc_old w1 _ b hlt];exact hbk
 have d0:w2.cell? (Ad b 0)=some (.pointer (some (Ad b 0))):=by rw[Lib.cell_of_heap hb2];rfl
 have d1:w2.cell? (Ad b 1)=some v:=by rw[Lib.cell_of_heap hb2];rfl
 have f1:w2.frozen? (Ad b 1)=false:=Lib.frozen_of_heap hb2 1;obtain⟨g,cap,rfl⟩:∃ g cap,v'=.slice (some (Ad g 0)) (bs.length+1) cap:=by
  rcases hown'.2 with ⟨_,h0⟩ | ⟨g,cap,cur,fz,hv,_⟩
  ·omega
  exact⟨g,cap,hv⟩
 go_wp2;go_ret;refine⟨rfl,?_,?_,((oth.alloc _).grown hgrow (Lib.ownsRowF_kind (hown.alloc _))).setCell ⟨b,1,none⟩ rfl _⟩
 ·exact Lib.BuilderAtF.put hB hb2 (by simpa using hown') (by decide)
 exact ((low.alloc (by omega) _).grown hgrow (by simp;omega) (fun k hk=>(hown.lt k hk).1)).setCell (p:=⟨b,1,none⟩) hB _
theorem nV (b:Nat)(bs:LV)(s:BA)(w:WL)(h:Lib.IsBuilderF 229 5 b b bs w)(hlen:bs.length≤1000000)(hs:s.size≤1000)(hbw:b≤w.heap.size) :
  Calls prog 163 #[.pointer (some (Ad b 0)),.string s] w fun e w'=>e=.returned (.tuple #[iA s.size,.nilIface])∧aIf b (bs++Lib.strCells s) w w':=by
 obtain⟨i0,hi,hz0,hz1,hz2⟩:=info_parts aCg;have hcc:=qI b bs w h;clear h;go_enter func163,ntmps163;go_wp2_with fail;refine hcc.mono ?_;rintro e w1 ⟨rfl,⟨hB,v,hbk,hown,hne⟩,low,oth⟩;clear hcc;have hsz:=low.size;have c0:w1.cell? (Ad b 0)=some (.pointer (some (Ad b 0))):=by rw[Lib.cell_of_heap hbk];rfl
 have c1:w1.cell? (Ad b 1)=some v:=by rw[Lib.cell_of_heap hbk];rfl
 have hlt:=aB c0;go_wp2_with (at_builtin;refine Lib.wpList_append_own_stringF _ rfl _ _ 60 9 rfl b 5 i0 underlying60 underlying9 hi hz0 hz1 hz2 _ _ _ rfl hown s rfl ?c3 ?c4 ?c5 ?_)
 case c3=>unfold maxLen;omega
 case c4=>omega
 case c5=>omega
 intro v' w2 hown' hgrow _;have hb2:w2.heap[b]?=some (.cells #[.pointer (some (Ad b 0)),v] 229 (0,0)):=by
  rw[hgrow.block b hlt (fun e=>hne e.symm)];exact hbk
 have d0:w2.cell? (Ad b 0)=some (.pointer (some (Ad b 0))):=by rw[Lib.cell_of_heap hb2];rfl
 have d1:w2.cell? (Ad b 1)=some v:=by rw[Lib.cell_of_heap hb2];rfl
 have f1:w2.frozen? (Ad b 1)=false:=Lib.frozen_of_heap hb2 1;obtain⟨ao,n',cap,rfl⟩:∃ ao n' cap,v'=.slice ao n' cap:=by
  rcases hown'.2 with ⟨hv,_⟩ | ⟨g,cap,cur,fz,hv,_⟩
  ·exact⟨_,_,_,hv⟩
  exact⟨_,_,_,hv⟩
 go_wp2;go_ret2;refine⟨rfl,?_,?_,(oth.grown hgrow (Lib.ownsRowF_kind hown)).setCell ⟨b,1,none⟩ rfl _⟩
 ·exact Lib.BuilderAtF.put hB hb2 (by simpa [Lib.strCells_length] using hown') (by decide)
 exact (low.grown hgrow (by omega) (fun k hk=>(hown.lt k hk).1)).setCell (p:=⟨b,1,none⟩) hB _
def atL (x:BA) (k:Nat):LB:=if h:k<x.size then [x[k]] else []
def qB (E:Nat→Int) (wi:LB) (x:BA):Nat→Nat→Int→LB
 | 0,_,_=>[]
 | f+1,k,sw=>
  if k≤x.size then
   if (k:Int)<E k then wi++qB E wi x f (E k).toNat (E k)
   else (if E k=k∧sw≠k then wi else [])++(atL x k++qB E wi x f (k+1) sw)
  else []
theorem vM (E:Nat→Int)(wi:LB)(x:BA)(f k:Nat)(sw:Int):qB E wi x (f+1) k sw =
  if k≤x.size then
   if (k:Int)<E k then wi++qB E wi x f (E k).toNat (E k)
   else (if E k=k∧sw≠k then wi else [])++(atL x k++qB E wi x f (k+1) sw)
  else []:=rfl
theorem qO (E:Nat→Int)(wi:LB)(x:BA):∀ f k sw,x.size+1-k≤f→qB E wi x (f+1) k sw=qB E wi x f k sw
 | 0,k,sw,h=>by rw[vM E wi x 0 k sw,if_neg (by omega)];rfl
 | f+1,k,sw,h=>by
  rw[vM E wi x (f+1) k sw,vM E wi x f k sw]
  by_cases hk:k≤x.size
  ·rw[if_pos hk,if_pos hk]
   by_cases hE:(k:Int)<E k
   ·rw[if_pos hE,if_pos hE,qO E wi x f _ _ (by omega)]
   ·rw[if_neg hE,if_neg hE,qO E wi x f _ _ (by omega)]
  ·rw[if_neg hk,if_neg hk]
theorem rU (E:Nat→Int)(wi:LB)(x:BA)(k:Nat)(sw:Int):∀ d,qB E wi x (x.size+1-k+d) k sw=qB E wi x (x.size+1-k) k sw
 | 0=>rfl
 | d+1=>by rw[← Nat.add_assoc,qO _ _ _ _ _ _ (by omega),rU E wi x k sw d]
def rT (E:Nat→Int) (wi:LB) (x:BA) (k:Nat) (sw:Int):LB:=qB E wi x (x.size+1-k) k sw
theorem aMk (E:Nat→Int)(wi:LB)(x:BA)(k:Nat)(sw:Int):rT E wi x k sw =
  if k≤x.size then
   if (k:Int)<E k then wi++rT E wi x (E k).toNat (E k)
   else (if E k=k∧sw≠k then wi else [])++(atL x k++rT E wi x (k+1) sw)
  else []:=by
 by_cases hk:k≤x.size
 ·rw[if_pos hk];unfold rT;rw[show x.size+1-k=(x.size+1-(k+1))+1 by omega,vM,if_pos hk];by_cases hE:(k:Int)<E k
  ·rw[if_pos hE,if_pos hE,show x.size+1-(k+1)=x.size+1-(E k).toNat+(x.size+1-(k+1)-(x.size+1-(E k).toNat)) by omega,rU]
  rw[if_neg hE,if_neg hE]
 rw[if_neg hk];unfold rT;rw[show x.size+1-k=0 by omega];rfl
structure aDy (w:WL) (b eb:Nat) (E:Nat→Int) (x:BA) (l:LB) (W:WL):Prop where
 bui:Lib.IsBuilderF 229 5 b b (Lib.byteCells l) W
 ec:∀ j,j≤x.size→W.cell? ⟨eb,j,none⟩=some (.int .i64 (E j))
 tg:fH W eb 3
 low:Below b w W
 ne:eb≠b
 bl:b≤W.heap.size
theorem uB (l l':LB):Lib.byteCells (l++l')=Lib.byteCells l++Lib.byteCells l':=by simp[Lib.byteCells]
theorem aDy.wrote {w:WL}{b eb:Nat}{E:Nat→Int}{x:BA}{l l':LB}{W W':WL} (h:aDy w b eb E x l W) (k:aIf b (Lib.byteCells l++Lib.byteCells l') W W'):aDy w b eb E x (l++l') W':=by
 obtain⟨c,fz,hb⟩:=h.tg;have e:W'.heap[eb]?=W.heap[eb]?:=by
  rw[hb];exact k.oth eb _ hb (by simpa using h.ne) (fun c' fz' e=>by cases e)
 refine⟨by rw[uB];exact .inr k.bui,fun j hj=>?_,h.tg.of_block e,h.low.trans k.low,h.ne,Nat.le_trans h.bl k.low.size⟩;rw[← h.ec j hj];unfold World.cell?;rw[e]
theorem aDp {w W:WL}(h:Below w.heap.size w W):Fr [] w W:=⟨h.os,h.tape,h.output,h.size,fun k hk _=>h.block k hk⟩
theorem qJ (l:LB):(Lib.byteCells l).length=l.length:=by simp[Lib.byteCells]
theorem aJh (pb:Nat)(q:Piece)(tk:NN)(fo:Nat→NN)(wi x:BA)(w:WL)(hP:bL w pb (whF q) tk fo)(hT:Tab w)(lq:PB 50 q)(ltk:∀ b,tk b<1125899906842624)(lfo:∀ s a,fo s a<18446744073709551616)(hx:x.size≤100)(hw:wi.size≤100) :
  Calls prog 129 #[.pointer (some (Ad pb 0)),.string wi,.string x] w fun e w'=>e=.returned (.string ⟨(rT (oI q tk fo x) wi.data.toList x 0 (-1)).toArray⟩)∧Fr [] w w':=by
 have f0:Fr [] w (w.alloc (.cells #[.pointer none,.slice none 0 0] 229)):=(Fr.refl [] w).alloc _;have hen:=yS pb q tk fo x _ (hP.fr f0 (by simp)) (hT.fr f0 (by simp)) lq ltk lfo hx;have hle:=vU q tk fo x;have hbk:=wan w (.cells #[.pointer none,.slice none 0 0] 229);have hbs:(w.alloc (.cells #[.pointer none,.slice none 0 0] 229)).heap.size=w.heap.size+1:=World.size_alloc _ _;unfold X4 at hen;generalize oI q tk fo x=E at *;have hwl:wi.data.toList.length=wi.size:=by cases wi;rfl
 obtain⟨R,hR⟩:=eXi (rT E wi.data.toList x 0 (-1));rw[hR];have HR:Hid (_=R):=hR;have Hle:Hid _:=hle;clear hR hle hP hT;go_enter func129,ntmps129;go_wp2_with fail;refine hen.mono ?_;rintro e w1 ⟨eb,rfl,⟨heb,htg,hc⟩,f1⟩;clear hen;have J0:aDy w w.heap.size eb E x [] w1:=by
  have hb1:w1.heap[w.heap.size]?=some (.cells #[.pointer none,.slice none 0 0] 229 (0,0)):=by
   rw[f1.block _ (by omega) (by simp)];exact hbk
  exact⟨.inl ⟨Nat.le_refl _,_,hb1,World.ownsRowF_nil _ _ _ _,by simp[Value.ownBlock]⟩,hc,htg,
   ⟨f1.os.trans f0.os,f1.tape.trans f0.tape,f1.output.trans f0.output,Nat.le_trans f0.size f1.size,fun k hk=>(f1.block k (by omega) (by simp)).trans (f0.block k hk (by simp))⟩,by omega,by have:=f1.size;omega⟩
 have Hfin:Hid (∀ W,Below w.heap.size w W→Fr [] w W):=fun W h=>aDp h;generalize w.heap.size=b at *;clear hc htg hbk f0 f1;go_wp2
 go_loopw [9,10] (fun sw pl wr=>∃ (k:Nat) (sv:Int) (l:LB),k≤x.size+1∧l.length≤101*k∧sw=iA sv∧pl=iA k∧Hid (l++rT E wi.data.toList x k sv=R)∧aDy w b eb E x l wr) (fun _ pl _=>x.size+1-(intOf pl).toNat)
 case atStart=>exact⟨0,-1,[],by omega,by simp,rfl,rfl,HR,J0⟩
 case round=>
  clear J0;obtain⟨k,sv,l,hk,hl,rfl,rfl,hR,J⟩:=hrel;have hbl:=J.bl;have hR':=hR.out;rw[aMk] at hR';have hbc:=qJ l;by_cases hlt:k≤x.size
  ·have g1:(k:Int)≤x.size:=by omega
   have g2:(k:Int)<(x.size:Int)+1:=by omega
   have c1:=J.ec k hlt;obtain⟨hb1,hb2⟩:=Hle.out k;rw[if_pos hlt] at hR';by_cases hE:(k:Int)<E k
   ·rw[if_pos hE,← List.append_assoc] at hR';have HR':Hid _:=hR';clear hR';have hws:=nV b _ wi wr J.bui (by omega) (by omega) hbl;have hE0:((E k).toNat:Int)=E k:=by omega
    go_wp2_with fail;refine hws.mono ?_;rintro e w2 ⟨rfl,wr2⟩;have J2:=J.wrote (l':=wi.data.toList) wr2;have c2:=J2.ec k hlt;go_wp2;exact⟨⟨(E k).toNat,E k,l++wi.data.toList,by omega,by rw[Lla,hwl];omega,rfl,by rw[hE0],HR',J2⟩,by simp[intOf];omega⟩
   rw[if_neg hE] at hR';by_cases hsw:E k=k∧sv≠k
   ·rw[if_pos hsw,← List.append_assoc] at hR';have e1:(E k==(k:Int))=true:=by simp[hsw.1]
    have e2:(sv != (k:Int))=true:=by simp[hsw.2]
    have hws:=nV b _ wi wr J.bui (by omega) (by omega) hbl;by_cases hks:k<x.size
    ·have g3:(k:Int)<x.size:=by omega
     have ea:atL x k=[x[k]]:=by unfold atL;rw[dif_pos hks]
     rw[ea,← List.append_assoc] at hR';have HR':Hid _:=hR';clear hR' hsw ea;go_wp2_with fail;refine hws.mono ?_;rintro e w2 ⟨rfl,wr2⟩;have J2:=J.wrote (l':=wi.data.toList) wr2;have hwb:=pZ b _ (x[k].toNat:Int) w2 J2.bui (by rw[qJ,Lla,hwl];omega) J2.bl;clear hws wr2;go_wp2_with fail;refine hwb.mono ?_;rintro e w3 ⟨rfl,wr3⟩;have J3:=J2.wrote (l':=[x[k]]) wr3;go_wp2;exact⟨⟨k+1,sv,(l++wi.data.toList)++[x[k]],by omega,by rw[Lla,Lla,hwl];simp;omega,rfl,by go_num,HR',J3⟩,by simp[intOf];omega⟩
    have g3:¬ ((k:Int)<x.size):=by omega
    have ea:atL x k=[]:=by unfold atL;rw[dif_neg hks]
    rw[ea,List.nil_append] at hR';have HR':Hid _:=hR';clear hR' hsw ea;go_wp2_with fail;refine hws.mono ?_;rintro e w2 ⟨rfl,wr2⟩;have J2:=J.wrote (l':=wi.data.toList) wr2;clear hws wr2;go_wp2;exact⟨⟨k+1,sv,l++wi.data.toList,by omega,by rw[Lla,hwl];omega,rfl,by go_num,HR',J2⟩,by simp[intOf];omega⟩
   rw[if_neg hsw,List.nil_append] at hR';by_cases hks:k<x.size
   ·have g3:(k:Int)<x.size:=by omega
    have ea:atL x k=[x[k]]:=by unfold atL;rw[dif_pos hks]
    rw[ea,← List.append_assoc] at hR';have HR':Hid _:=hR';clear hR' ea;have hwb:=pZ b _ (x[k].toNat:Int) wr J.bui (by omega) J.bl;by_cases hek:E k=k
    ·have hsv:sv=k:=Classical.byContradiction fun hh=>hsw ⟨hek,hh⟩;have e1:(E k==(k:Int))=true:=by simp[hek]
     have e2:(sv != (k:Int))=false:=by simp[hsv]
     clear hsw hek hsv;go_wp2_with fail;refine hwb.mono ?_;rintro e w3 ⟨rfl,wr3⟩;have J3:=J.wrote (l':=[x[k]]) wr3;go_wp2;exact⟨⟨k+1,sv,l++[x[k]],by omega,by rw[Lla];simp;omega,rfl,by go_num,HR',J3⟩,by simp[intOf];omega⟩
    have e1:(E k==(k:Int))=false:=by simp[hek]
    clear hsw hek;go_wp2_with fail;refine hwb.mono ?_;rintro e w3 ⟨rfl,wr3⟩;have J3:=J.wrote (l':=[x[k]]) wr3;go_wp2;exact⟨⟨k+1,sv,l++[x[k]],by omega,by rw[Lla];simp;omega,rfl,by go_num,HR',J3⟩,by simp[intOf];omega⟩
   have g3:¬ ((k:Int)<x.size):=by omega
   have ea:atL x k=[]:=by unfold atL;rw[dif_neg hks]
   rw[ea,List.nil_append] at hR';have HR':Hid _:=hR';clear hR' ea;by_cases hek:E k=k
   ·have hsv:sv=k:=Classical.byContradiction fun hh=>hsw ⟨hek,hh⟩;have e1:(E k==(k:Int))=true:=by simp[hek]
    have e2:(sv != (k:Int))=false:=by simp[hsv]
    clear hsw hek hsv;go_wp2;exact⟨⟨k+1,sv,l,by omega,by omega,rfl,by go_num,HR',J⟩,by simp[intOf];omega⟩
   have e1:(E k==(k:Int))=false:=by simp[hek]
   clear hsw hek;go_wp2;exact⟨⟨k+1,sv,l,by omega,by omega,rfl,by go_num,HR',J⟩,by simp[intOf];omega⟩
  have g1:¬ ((k:Int)≤x.size):=by omega
  rw[if_neg hlt,List.append_nil] at hR';have HR':Hid _:=hR';clear hR';have hst:=Builder_String_any_k b b l wr J.bui hbl;have hlow:=J.low;go_wp2_with fail;refine hst.mono ?_;rintro e w2 ⟨rfl,_,lo2,_⟩;go_wp2;go_ret;rw[← HR'.out];exact⟨rfl,Hfin.out _ (hlow.trans lo2)⟩
theorem aZi:(prog.info? 9).map (fun i=>(i.zero,i.size,i.bytes))=some (some (.string ⟨#[]⟩),1,16):=by kernel_rfl
structure vL (w0:WL) (L:LY) (v:Value) (W:WL):Prop where
 own:W.ownsRow w0.heap.size 9 1 v L.length (L.map Value.string)
 fr:Fr [] w0 W
theorem Fr.grownBy {w w':WL}(h:Fr [] w w'):w.grownBy w' none:=⟨h.os,h.tape,h.output,h.size,fun k hk _=>h.block k hk (by simp)⟩
theorem vL.start (w0:WL):vL w0 [] (.slice none 0 0) w0:=⟨World.ownsRow_nil _ _ _ _,Fr.refl _ _⟩
theorem vL.kept {w0:WL}{L:LY}{v:Value}{W W':WL} (h:vL w0 L v W) (hf:Fr [] W W'):vL w0 L v W':=
 ⟨h.own.kept hf.grownBy (by cases hv:v.ownBlock <;> simp),h.fr.trans hf⟩
theorem vL.grown {w0:WL}{L:LY}{v v':Value}{W W':WL}{o:Obj}{s:BA} (h:vL w0 L v W) (hown:W'.ownsRow w0.heap.size 9 1 v' (L.length+1) (L.map Value.string++[.string s])) (hg:(W.alloc o).grownBy W' v.ownBlock):vL w0 (L++[s]) v' W':=by
 refine⟨by rw[Lla,List.map_append];exact hown,?_⟩;have ha:Fr [] W (W.alloc o):=(Fr.refl [] W).alloc o;refine⟨hg.os.trans (ha.os.trans h.fr.os),hg.tape.trans (ha.tape.trans h.fr.tape),hg.output.trans (ha.output.trans h.fr.output),Nat.le_trans h.fr.size (Nat.le_trans ha.size hg.size),fun k hk _=>?_⟩;have h1:=h.fr.size;have h2:=ha.size;rw[hg.block k (by omega) (fun e=>by have:=(h.own.lt k e.symm).1;omega),ha.block k (by omega) (by simp),h.fr.block k hk (by simp)]
def rK (B:Nat) (W:WL) (v:Value) (L:LY):Prop:=
 (L=[]∧v=.slice none 0 0)∨∃ g cap,v=.slice (some ⟨g,0,none⟩) L.length cap∧L.length≤cap∧(B≤g∧g<W.heap.size)∧∀ (i:Nat) (x:BA),L[i]?=some x→W.cell? ⟨g,i,none⟩=some (.string x)
theorem vL.strs {w0:WL}{L:LY}{v:Value}{W:WL} (h:vL w0 L v W):rK w0.heap.size W v L:=by
 rcases h.own.2 with ⟨hv,h0⟩ | ⟨g,cap,cur,hv,hb,hg,hn,_⟩
 ·exact .inl ⟨List.eq_nil_of_length_eq_zero h0,hv⟩
 refine .inr ⟨g,cap,hv,hn,⟨hb,(Age.1 hg).1⟩,fun i x hx=>?_⟩;have:=h.own.cells (g:=g) (by rw[hv];rfl) i (.string x) (by rw[List.getElem?_map,hx];rfl);rcases i with _ | i
 ·simpa [Addr.add] using this
 simpa [Addr.add] using this
theorem rK.low {B C:Nat}{W:WL}{v:Value}{L:LY} (h:rK B W v L) (hc:C≤B):rK C W v L:=by
 rcases h with h | ⟨g,cap,hv,hc',hg,hx⟩
 ·exact .inl h
 exact .inr ⟨g,cap,hv,hc',⟨Nat.le_trans hc hg.1,hg.2⟩,hx⟩
def iB (E:Nat→Int) (x:BA):Nat→Nat→Nat→LY
 | 0,bg,_=>[x.extract bg x.size]
 | f+1,bg,k=>
  if k<x.size then
   if E k≤k then iB E x f bg (k+1) else x.extract bg k :: iB E x f (E k).toNat (E k).toNat
  else [x.extract bg x.size]
theorem rY (E:Nat→Int)(x:BA)(f bg k:Nat):iB E x (f+1) bg k =
  if k<x.size then
   if E k≤k then iB E x f bg (k+1) else x.extract bg k :: iB E x f (E k).toNat (E k).toNat
  else [x.extract bg x.size]:=rfl
theorem oN (E:Nat→Int)(x:BA):∀ f bg k,x.size-k≤f→iB E x (f+1) bg k=iB E x f bg k
 | 0,bg,k,h=>by rw[rY E x 0 bg k,if_neg (by omega)];rfl
 | f+1,bg,k,h=>by
  rw[rY E x (f+1) bg k,rY E x f bg k]
  by_cases hk:k<x.size
  ·rw[if_pos hk,if_pos hk]
   by_cases hE:E k≤k
   ·rw[if_pos hE,if_pos hE,oN E x f _ _ (by omega)]
   ·rw[if_neg hE,if_neg hE,oN E x f _ _ (by omega)]
  ·rw[if_neg hk,if_neg hk]
theorem qC (E:Nat→Int)(x:BA)(bg k:Nat):∀ d,iB E x (x.size-k+d) bg k=iB E x (x.size-k) bg k
 | 0=>rfl
 | d+1=>by rw[← Nat.add_assoc,oN _ _ _ _ _ (by omega),qC E x bg k d]
def fM (E:Nat→Int) (x:BA) (bg k:Nat):LY:=iB E x (x.size-k) bg k
theorem tL (E:Nat→Int)(x:BA)(bg k:Nat):fM E x bg k =
  if k<x.size then
   if E k≤k then fM E x bg (k+1) else x.extract bg k :: fM E x (E k).toNat (E k).toNat
  else [x.extract bg x.size]:=by
 by_cases hk:k<x.size
 ·rw[if_pos hk];unfold fM;rw[show x.size-k=(x.size-(k+1))+1 by omega,rY,if_pos hk];by_cases hE:E k≤k
  ·rw[if_pos hE,if_pos hE]
  rw[if_neg hE,if_neg hE,show x.size-(k+1)=x.size-(E k).toNat+(x.size-(k+1)-(x.size-(E k).toNat)) by omega,qC]
 rw[if_neg hk];unfold fM;rw[show x.size-k=0 by omega];rfl
theorem qP (E:Nat→Int)(x:BA):∀ d bg k,x.size-k≤d→(fM E x bg k).length≤x.size-k+1
 | 0,bg,k,h=>by rw[tL,if_neg (by omega)];simp
 | d+1,bg,k,h=>by
  rw[tL]
  by_cases hk:k<x.size
  ·rw[if_pos hk]
   by_cases hE:E k≤k
   ·rw[if_pos hE];have:=qP E x d bg (k+1) (by omega);omega
   ·rw[if_neg hE,List.length_cons];have:=qP E x d (E k).toNat (E k).toNat (by omega);omega
  ·rw[if_neg hk];simp
theorem tZ (s:BA)(w:WL)(hs:s.size≤1000):Calls prog 35 #[.string s] w fun e w'=>e=.returned (.string s)∧Fr [] w w':=by
 have hc:=stringslite_Clone s w (by omega);go_enter func35,ntmps35;go_wp2_with fail;refine hc.mono ?_;rintro e w1 ⟨rfl,lo⟩;go_wp2;go_ret;exact⟨rfl,aDp lo⟩
theorem M7 (pb:Nat)(w:WL) :
  Calls prog 130 #[.pointer (some (Ad pb 0)),.string ⟨#[]⟩] w fun e w'=>e=.returned (.slice none 0 0)∧w'=w:=by
 go_enter func130,ntmps130;go_wp2;go_ret;exact⟨rfl,rfl⟩
theorem aOl {x:BA}(h:0<x.size):x.toList.isEmpty=false:=by
 rw[ByteArray.toList_eq];cases x with
 | mk d=>
  have hd:0<d.size:=h;cases hl:d.toList with
  | nil=>have e:d.toList.length=d.size:=Array.length_toList;rw[hl] at e;simp at e;omega
  | cons a r=>rfl
theorem aEn (pb:Nat)(q:Piece)(tk:NN)(fo:Nat→NN)(x:BA)(w:WL)(hP:bL w pb (whF q) tk fo)(hT:Tab w)(lq:PB 50 q)(ltk:∀ b,tk b<1125899906842624)(lfo:∀ s a,fo s a<18446744073709551616)(hx:x.size≤100)(hx0:0<x.size) :
  Calls prog 130 #[.pointer (some (Ad pb 0)),.string x] w fun e w'=>∃ v,e=.returned v∧rK w.heap.size w' v (fM (oI q tk fo x) x 0 0)∧Fr [] w w':=by
 obtain⟨i0,hi,hz0,hz1,hz2⟩:=info_parts aZi;have hen:=yS pb q tk fo x w hP hT lq ltk lfo hx;have hle:=vU q tk fo x;have hne:=aOl hx0;unfold X4 at hen;generalize oI q tk fo x=E at *;obtain⟨R,hR⟩:=eXi (fM E x 0 0);rw[hR];have HR:Hid (_=R):=hR;have Hle:Hid _:=hle;clear hR hle hP hT;go_enter func130,ntmps130;go_wp2_with fail;refine hen.mono ?_;rintro e w0 ⟨eb,rfl,⟨heb,htg,hc⟩,f1⟩;clear hen;have hlt:=htg.lt;have J0:=vL.start w0;have Hc:Hid _:=hc;clear hc htg;go_wp2
 go_loopw [5,7,8] (fun v bg pl wr=>∃ (k b:Nat) (L:LY),b≤k∧k≤x.size∧L.length≤k∧bg=iA b∧pl=iA k∧Hid (L++fM E x b k=R)∧vL w0 L v wr) (fun _ _ pl _=>x.size-(intOf pl).toNat)
 case atStart=>exact⟨0,0,[],by omega,by omega,by simp,rfl,rfl,HR,J0⟩
 case round=>
  clear J0;obtain⟨k,b,L,hb,hk,hl,rfl,rfl,hR,J⟩:=hrel;have hR':=hR.out;rw[tL] at hR';have hW:=J.fr.size;by_cases hks:k<x.size
  ·have g1:(k:Int)<x.size:=by omega
   have g2:(k:Int)<(x.size:Int)+1:=by omega
   have c1:wr.cell? (Ad eb k)=some (iA (E k)):=(J.fr.cell (p:=Ad eb k) hlt (by simp)).trans (Hc.out k hk);obtain⟨hb1,hb2⟩:=Hle.out k;rw[if_pos hks] at hR';by_cases hE:E k≤k
   ·rw[if_pos hE] at hR';have HR':Hid _:=hR';clear hR';go_wp2;exact⟨⟨k+1,b,L,by omega,by omega,by omega,rfl,by go_num,HR',J⟩,by simp[intOf];omega⟩
   rw[if_neg hE] at hR';have e1:L++(x.extract b k :: fM E x (E k).toNat (E k).toNat)=(L++[x.extract b k])++fM E x (E k).toNat (E k).toNat:=by simp
   rw[e1] at hR';have HR':Hid _:=hR';clear hR' e1;have g3:(b:Int)≤k:=by omega
   have hcl:=tZ (x.extract b k) wr (by rw[ByteArray.size_extract];omega);have hE0:((E k).toNat:Int)=E k:=by omega
   go_wp2_with fail;refine hcl.mono ?_;rintro e w2 ⟨rfl,f2⟩;have J2:=J.kept f2;have hs2:=f2.size;have hown:=J2.own;clear hcl;go_wp2_with (at_builtin;refine wpList_append_own _ rfl _ _ 22 rfl w0.heap.size 9 i0 (.string ⟨#[]⟩) 1 16 underlying22 hi hz0 hz1 hz2 rfl (by decide) _ _ _ rfl (hown.alloc _) (Ad w2.heap.size 0) 1 1 [.string (x.extract b k)] rfl rfl ?c1 ?c2 ?c3 ?c4 ?c5 ?_)
   case c1=>
    intro j u hj;rcases j with _ | j
    ·simp at hj;subst hj;simp[Addr.add]
    simp at hj
   case c2=>intro u hu;simp at hu;subst hu;rfl
   case c3=>unfold maxLen;omega
   case c4=>omega
   case c5=>simp;omega
   intro v' w3 hown' hgrow _;have J3:=J2.grown hown' hgrow;have c3:w3.cell? (Ad eb k)=some (iA (E k)):=(J3.fr.cell (p:=Ad eb k) hlt (by simp)).trans (Hc.out k hk);go_wp2;exact⟨⟨(E k).toNat,(E k).toNat,L++[x.extract b k],by omega,by omega,by rw[Lla];simp;omega,by rw[hE0],by rw[hE0],HR',J3⟩,by simp[intOf];omega⟩
  have g1:¬ ((k:Int)<x.size):=by omega
  rw[if_neg hks] at hR';have HR':Hid _:=hR';clear hR';have g3:(b:Int)≤x.size:=by omega
  have hcl:=tZ (x.extract b x.size) wr (by rw[ByteArray.size_extract];omega);go_wp2_with fail;refine hcl.mono ?_;rintro e w2 ⟨rfl,f2⟩;have J2:=J.kept f2;have hs2:=f2.size;have hown:=J2.own;clear hcl;go_wp2_with (at_builtin;refine wpList_append_own _ rfl _ _ 22 rfl w0.heap.size 9 i0 (.string ⟨#[]⟩) 1 16 underlying22 hi hz0 hz1 hz2 rfl (by decide) _ _ _ rfl (hown.alloc _) (Ad w2.heap.size 0) 1 1 [.string (x.extract b x.size)] rfl rfl ?c1 ?c2 ?c3 ?c4 ?c5 ?_)
  case c1=>
   intro j u hj;rcases j with _ | j
   ·simp at hj;subst hj;simp[Addr.add]
   simp at hj
  case c2=>intro u hu;simp at hu;subst hu;rfl
  case c3=>unfold maxLen;omega
  case c4=>omega
  case c5=>simp;omega
  intro v' w3 hown' hgrow _;have J3:=J2.grown hown' hgrow;go_wp2;go_ret;refine⟨v',rfl,?_,f1.trans J3.fr⟩;rw[← HR'.out];exact J3.strs.low f1.size
end Go.Proofs.YtlokkgajpjafmaaGreatDoor
