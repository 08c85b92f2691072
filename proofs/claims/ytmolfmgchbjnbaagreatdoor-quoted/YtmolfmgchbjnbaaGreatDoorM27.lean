import Derived.Deep.Slices
import Derived.LaidSub
import Derived.Test.YtmolfmgchbjnbaaGreatDoorM25
set_option linter.unusedSimpArgs false
set_option linter.unusedVariables false
set_option linter.unusedSectionVars false
set_option maxRecDepth 100000
set_option maxHeartbeats 40000000
open _root_.Go.Proofs.Tryz
namespace Go.Proofs.YtmolfmgchbjnbaaGreatDoor
open Go.RowKit
open Wire
namespace Tok
def bv (b:UInt8):Value:=.int .u8 (b.toNat:Int)
theorem infoB5:(prog.info? 5).map (fun i=>(i.zero,i.size,i.bytes))=some (some (.int .u8 0),1,1):=by kernel_rfl
theorem buildS_b (n:Int)(w:WL):(Instr.buildSlice 92 1 #[(0,.int .u8 n)]).run prog w=.ok (.slice (some (Ad w.heap.size 0)) 1 1) (w.alloc (.cells #[.int .u8 n] 5)):=by
 kernel_rfl
structure Rdx (w0:WL) (r:Nat) (s:BA) (a f:Nat) (L:List Tk) (D:LB) (w:WL):Prop where
 c:∃ xv tv,RC w r s a f xv tv∧w.ownsRow (r+1) 88 4 tv L.length (L.flatMap tkC)∧w.ownsRow (r+1) 5 1 xv D.length (D.map bv)∧∀ b,xv.ownBlock=some b→tv.ownBlock≠some b
 le:a≤s.size∧f≤a∧s.size≤100000∧L.length≤100000∧D.length≤a
 fr:Fr [] w0 w
 hr:w0.heap.size≤r
section
variable {w0 w:WL}{r:Nat}{s:BA}{a f:Nat}{L:List Tk}{D:LB}
theorem Rdx.heap {w':WL}(h:Rdx w0 r s a f L D w)(hh:w'.heap=w.heap)(ho:w'.os=w.os)(ht:w'.tape=w.tape)(hp:w'.output=w.output):Rdx w0 r s a f L D w':=by
 obtain⟨xv,tv,hc,h1,h2,h3⟩:=h.c;have F:Fr [] w w':=⟨ho,ht,hp,by rw[hh];exact Nat.le_refl _,fun k _ _=>by rw[hh]⟩;exact⟨⟨xv,tv,hc.of_block (by rw[hh]),own_fr h1 F (by simp),own_fr h2 F (by simp),h3⟩,h.le,h.fr.trans F,h.hr⟩
theorem Rdx.rdr (h:Rdx w0 r s a f L D w):Rdr w0 r s a f L w:=by
 obtain⟨xv,tv,hc,h1,-,-⟩:=h.c;exact⟨⟨xv,tv,hc,h1⟩,⟨h.le.1,h.le.2.1,h.le.2.2.1,h.le.2.2.2.1⟩,h.fr,h.hr⟩
theorem Rdr.rdx (h:Rdr w0 r s a f L w)(hx:w.cell? (Ad r 3)=some (.slice none 0 0)):Rdx w0 r s a f L [] w:=by
 obtain⟨xv,tv,hc,h1⟩:=h.c;have e:=hc.c3;rw[hx] at e;cases e;exact⟨⟨_,tv,hc,h1,World.ownsRow_nil _ _ _ _,fun b e=>by cases e⟩,⟨h.le.1,h.le.2.1,h.le.2.2.1,h.le.2.2.2,Nat.zero_le _⟩,h.fr,h.hr⟩
theorem Rdx.at (h:Rdx w0 r s a f L D w){x:Nat}(hx:x≤s.size)(hf:a≤x):Rdx w0 r s x f L D (w.setCell ⟨r,1,none⟩ (.int .i64 (x:Nat))):=by
 obtain⟨xv,tv,hc,h1,h2,h3⟩:=h.c;have F:Fr [r] w (w.setCell ⟨r,1,none⟩ (.int .i64 (x:Nat))):=(Fr.refl [r] w).setCell (p:=⟨r,1,none⟩) (.inl (by simp)) _;have hl:=h.le;exact⟨⟨xv,tv,hc.at x,own_fr h1 F (by simp),own_fr h2 F (by simp),h3⟩,⟨hx,by omega,hl.2.2.1,hl.2.2.2.1,by omega⟩,h.fr.setCell (p:=⟨r,1,none⟩) (.inr h.hr) _,h.hr⟩
theorem look_x (h:Rdr w0 r s a f L w):Calls prog 74 #[.pointer (some (Ad r 0))] w fun e w'=>e=.returned (iA (lk s a))∧w'.heap=w.heap∧w'.os=w.os∧w'.tape=w.tape∧w'.output=w.output:=by
 obtain⟨xv,tv,⟨c0,c1,c2,c3,c4,f1,f2,f3,f4⟩,hown⟩:=id h.c;have h1:=h.le;unfold lk;by_cases ha:a<s.size
 ·rw[dif_pos ha];have hd:((a:Int)==(s.size:Int))=false:=by simp;omega
  have g1:(a:Int)<s.size:=by omega
  have g2:wrap64 (s[a].toNat:Int)=(s[a].toNat:Int):=by have:=s[a].toNat_lt;unfold wrap64;omega
  clear h hown;go_enter func74,ntmps74;go_wp2;go_quiet (fail);go_wp2;go_quiet (fail);go_wp2;go_ret;exact⟨congrArg (fun x=>Ending.returned (iA x)) g2,rfl,rfl,rfl,rfl⟩
 rw[dif_neg ha];have hd:((a:Int)==(s.size:Int))=true:=by simp;omega
 clear h hown;go_enter func74,ntmps74;go_wp2;go_quiet (fail);go_wp2;go_ret;exact⟨rfl,rfl,rfl,rfl,rfl⟩
theorem begin_nil (h:Rdr w0 r s a f L w):Calls prog 73 #[.pointer (some (Ad r 0))] w fun e w'=>e=.returned (.tuple #[])∧Rdx w0 r s a a L [] w':=by
 obtain⟨xv,tv,⟨c0,c1,c2,c3,c4,f1,f2,f3,f4⟩,hown⟩:=id h.c;have H:Hid _:=h;have c3':(w.setCell ⟨r,2,none⟩ (.int .i64 (a:Nat))).cell? (Ad r 3)=some xv:=(setCell_off (by decide)).trans c3;have f3':(w.setCell ⟨r,2,none⟩ (.int .i64 (a:Nat))).frozen? (Ad r 3)=false:=by rw[wfz];exact f3
 have H3:Hid _:=c3';clear h hown;go_enter func73,ntmps73;go_wp2;go_end0;exact⟨rfl,(H.out.from _).rdx (cell_set H3.out)⟩
theorem pass_x (h:Rdx w0 r s a f L D w)(ha:a<s.size):Calls prog 137 #[.pointer (some (Ad r 0))] w fun e w'=>e=.returned (iA (lk s a))∧Rdx w0 r s (a+1) f L D w':=by
 have hl:=look_x h.rdr;have hle:=h.le;have H:Hid _:=h;have g1:(lk s a != -1)=true:=by
  unfold lk;rw[dif_pos ha];simp only[bne_iff_ne,ne_eq];omega
 generalize lk s a=c at *;clear h;go_enter func137,ntmps137;go_wp2_with fail;refine hl.mono ?_;rintro e w1 ⟨rfl,q1,q2,q3,q4⟩;have K1:=H.out.heap q1 q2 q3 q4;have K2:Rdx w0 r s (a+1) f L D (w1.setCell ⟨r,1,none⟩ (.int .i64 ((a:Int)+1))):=K1.at (x:=a+1) (by omega) (by omega);obtain⟨xv,tv,⟨c0,c1,c2,c3,c4,f1,f2,f3,f4⟩,-⟩:=id K1.c;have HK:Hid _:=K2;clear hl q1 q2 q3 q4 H K1 K2;go_wp2;go_ret;exact⟨rfl,HK.out⟩
end
end Tok
end Go.Proofs.YtmolfmgchbjnbaaGreatDoor
namespace Go.Proofs.YtmolfmgchbjnbaaGreatDoor.Ev
open Go
variable [Inhabited (Nat→BA)]
end Go.Proofs.YtmolfmgchbjnbaaGreatDoor.Ev
namespace Go.Proofs.YtmolfmgchbjnbaaGreatDoor.Ev
open Go
variable [Inhabited (Nat→BA)]
theorem Rel.grow {P:Program}{G:Nat}{m:Mp}{h:AH}{w w':WL} (R:Rel P G m h w) (K:Kept w w'):Rel P G m h w'∧Ext m m h h w w':=by
 refine⟨⟨R.lim,fun r x e=>?_,R.dead,R.inj,R.glo,R.top⟩,⟨.refl m,Nat.le_refl _,fun r _ e=>⟨e,rfl⟩,fun r x e=>.inl e,fun _ _ q _=>q,K.os,K.tape,K.output,K.size,fun b hb _=>K.blk b hb⟩⟩;obtain⟨h1,h2,o,h3,h4⟩:=R.row r x e;exact⟨h1,Nll h2 K.size,o,h3,h4.mono (.refl m) (K.blk x.b h2)⟩
def cloneV (h:AH):LV→Option (Option (Value × AH))
 | [.string s]=>cond (Nat.ble s.data.toList.length 4096) (some (some (.string s,h))) none
 | _=>none
def cloneX (k:FuncId) (f:FuncId) (args:LV) (h:AH):Option (Option (Value × AH)):=cond (Nat.beq f k) (cloneV h args) none
theorem cloneX_ok {P:Program}{G:Nat}{k:FuncId} (he:∃ fn,entered P k=some fn) (hc:∀ (s:BA) (w:WL),s.size≤4096→Calls P k #[.string s] w fun e w'=>e=.returned (.string s)∧Kept w w') :
  ∀ f args h r,cloneX k f args h=some (some r)→(∃ fn,entered P f=some fn)∧∀ m w args',Rel P G m h w→L2 (S3 m) args args'.toList→Calls P f args' w fun
  | .returned v',w'=>Wrote P G m h w r v' w'
  | _,_=>False:=by
 intro f args h r hr;unfold cloneX at hr;cases hb:Nat.beq f k with
 | false=>rw[hb] at hr;cases hr
 | true=>
  rw[hb] at hr;simp only[cond_true] at hr;have hf:=Nat.eq_of_beq_eq_true hb;subst hf;refine⟨he,fun m w args' R ha=>?_⟩;unfold cloneV at hr;split at hr
  ·rename_i s
   cases hl:Nat.ble s.data.toList.length 4096 with
   | false=>rw[hl] at hr;cases hr
   | true=>
    rw[hl] at hr;simp only[cond_true,Option.some.injEq] at hr;subst hr;obtain⟨y,q,e,hy,hq⟩:=ha.cons_left;rw[hq.nil_left] at e;obtain rfl:=hy.string;obtain rfl:args'=#[.string s]:=Array.ext' e;refine (hc s w (Nat.le_of_ble_eq_true hl)).mono fun e' w' ⟨he',K⟩=>?_;subst he';obtain⟨R',E'⟩:=R.grow K;exact⟨m,R',E',S0.s3 (s0_str s)⟩
  cases hr
structure Left (P:Program) (w:WL) (r:Value × AH) (m:Mp) (v':Value) (w':WL):Prop where
 rel:Rel P 2 m r.2 w'
 kept:Kept w w'
 val:S3 m r.1 v'
 own:∀ q x,3≤q→m q=some (some x)→w.heap.size≤x.b∧x.s=0
 tab:∀ q,q<3→∃ o,r.2.get q=some o∧o.k=3
theorem tab3 {ss:LY}{m m':Mp}{h':AH}{w w':WL} (E:Ext m m' (hs0 ss) h' w w') (q:Nat) (hq:q<3):∃ o,h'.get q=some o∧o.k=3:=by
 have:∃ o,(hs0 ss).get q=some o∧o.k=3:=by
  rw[hs0_get];rcases (show q=0∨q=1∨q=2 by omega) with rfl | rfl | rfl
  ·exact⟨_,rfl,rfl⟩
  ·exact⟨_,rfl,rfl⟩
  exact⟨_,rfl,rfl⟩
 obtain⟨o,h1,h2⟩:=this;exact⟨o,E.tab q o h1 h2,h2⟩
theorem Rel.sliceAt {P:Program}{G:Nat}{m:Mp}{h:AH}{w:WL} (R:Rel P G m h w) {r off n c:Nat}{v':Value} (hv:S3 m (.slice (some (Ad r off)) n c) v') {xs:LV}{e:TypeId}{es:List (Value × Value)} (hg:h.get r=some ⟨1,xs,e,es⟩) :
  ∃ x c',m r=some (some x)∧v'=.slice (some (Ad x.b (off+x.s))) n c'∧c≤c'∧x.b<w.heap.size∧∀ i v,xs[i]?=some v→∃ u,w.cell? (Ad x.b (i+x.s))=some u∧S1 m v u:=by
 obtain⟨a,c',rfl,h1,-,h2,h3,h4⟩:=hv.sl;rcases h4 with h4 | ⟨x,h4,h5,h6,-⟩
 ·exact absurd ((R.dead r h4).2 _ hg) (by simp)
 obtain⟨-,k2,o,k3,k4⟩:=R.row r x h4;rw[hg] at k3;cases k3;obtain⟨b,off',sp⟩:=a;simp only at h2 h3 h5 h6;subst h3 h5 h6;refine⟨x,c',h4,rfl,h1,k2,fun i v hv=>?_⟩;rcases k4 with ⟨-,k4⟩ | ⟨q,-⟩ | ⟨q,-⟩
 ·exact k4.cell hv
 ·cases q
 cases q
end Go.Proofs.YtmolfmgchbjnbaaGreatDoor.Ev
namespace Go.Proofs.YtmolfmgchbjnbaaGreatDoor.Ev
open Go
def signs:LY:=[⟨#[60,61]⟩,⟨#[61,61]⟩,⟨#[33,61]⟩,⟨#[62,61]⟩,⟨#[33,126]⟩,⟨#[38,38]⟩,⟨#[124,124]⟩,⟨#[43,61]⟩,⟨#[45,61]⟩,⟨#[42,61]⟩,⟨#[47,61]⟩,⟨#[37,61]⟩,⟨#[43]⟩,⟨#[45]⟩,⟨#[42]⟩,⟨#[47]⟩,⟨#[37]⟩,⟨#[46]⟩,⟨#[60]⟩,⟨#[62]⟩,⟨#[126]⟩,⟨#[33]⟩,⟨#[63]⟩,⟨#[58]⟩,⟨#[61]⟩,⟨#[40]⟩,⟨#[41]⟩,⟨#[91]⟩,⟨#[93]⟩,⟨#[123]⟩,⟨#[125]⟩,⟨#[44]⟩,⟨#[59]⟩,⟨#[36]⟩]
theorem mixed:prog.follows .mixedOrders=true:=by kernel_rfl
end Go.Proofs.YtmolfmgchbjnbaaGreatDoor.Ev
namespace Go.Proofs.YtmolfmgchbjnbaaGreatDoor.Ev
open Go
variable [Inhabited (Nat→BA)]
section
variable (nt:Nat)(T:LV)(np:Nat)(Q:LV)(g a nf:Nat)(F:LV)
variable {nt T np Q g a nf F}
end
end Go.Proofs.YtmolfmgchbjnbaaGreatDoor.Ev
namespace Go.Proofs.YtmolfmgchbjnbaaGreatDoor.Ev
open Go
variable [Inhabited (Nat→BA)]
theorem plain_s1 {m:Mp}{v:Value} (h:plainV v=true):S1 m v v:=by
 exact .inl (plain_s0 h)
end Go.Proofs.YtmolfmgchbjnbaaGreatDoor.Ev
namespace Go.Proofs.YtmolfmgchbjnbaaGreatDoor.Ev
open Go
variable [Inhabited (Nat→BA)]
def repV (h:AH):LV→Option (Option (Value × AH))
 | [.string s,.int .i64 (.ofNat c)]=>cond (Nat.ble (s.data.toList.length*c) 4096 && Nat.ble c 4096) (some (some (.string ⟨(Lib.repeatL s.data.toList c).toArray⟩,h))) none
 | _=>none
def bothX (k r:FuncId) (f:FuncId) (args:LV) (h:AH):Option (Option (Value × AH)):=cond (Nat.beq f r) (repV h args) (cloneX k f args h)
theorem bothX_ok {P:Program}{G:Nat}{k r:FuncId} (he:∃ fn,entered P k=some fn) (hc:∀ (s:BA) (w:WL),s.size≤4096→Calls P k #[.string s] w fun e w'=>e=.returned (.string s)∧Kept w w')
  (he2:∃ fn,entered P r=some fn) (hc2:∀ (s:BA) (c:Nat) (w:WL),c≤4096→s.size*c≤4096→Calls P r #[.string s,iA (c:Nat)] w fun e w'=>e=.returned (.string ⟨(Lib.repeatL s.data.toList c).toArray⟩)∧Kept w w') :
  ∀ f args h q,bothX k r f args h=some (some q)→(∃ fn,entered P f=some fn)∧∀ m w args',Rel P G m h w→L2 (S3 m) args args'.toList→Calls P f args' w fun
  | .returned v',w'=>Wrote P G m h w q v' w'
  | _,_=>False:=by
 intro f args h q hr;unfold bothX at hr;cases hb:Nat.beq f r with
 | false=>
  rw[hb] at hr;exact cloneX_ok he hc f args h q hr
 | true=>
  rw[hb] at hr;simp only[cond_true] at hr;have hf:=Nat.eq_of_beq_eq_true hb;subst hf;refine⟨he2,fun m w args' R ha=>?_⟩;unfold repV at hr;split at hr
  ·rename_i s c
   cases hl:(Nat.ble (s.data.toList.length*c) 4096 && Nat.ble c 4096) with
   | false=>rw[hl] at hr;cases hr
   | true=>
    rw[hl] at hr;simp only[cond_true,Option.some.injEq] at hr;subst hr;simp only[Bool.and_eq_true] at hl;obtain⟨y,t,e,hy,ht⟩:=ha.cons_left;obtain⟨z,t2,e2,hz,ht2⟩:=ht.cons_left;rw[ht2.nil_left] at e2;subst e2;obtain rfl:=hy.string;obtain rfl:=hz.int;obtain rfl:args'=#[.string s,iA (Int.ofNat c)]:=Array.ext' e;refine (hc2 s c w (Nat.le_of_ble_eq_true hl.2) (Nat.le_of_ble_eq_true hl.1)).mono fun e' w' ⟨he',K⟩=>?_;subst he';obtain⟨R',E'⟩:=R.grow K;exact⟨m,R',E',S0.s3 (s0_str _)⟩
  cases hr
end Go.Proofs.YtmolfmgchbjnbaaGreatDoor.Ev
namespace Go.Proofs.YtmolfmgchbjnbaaGreatDoor.Ev
open Go
variable [Inhabited (Nat→BA)]
theorem tabS_of_laid {P:Program}{w:WL}{name:String}{t e:TypeId}{ss:LY} (hg:P.globalNamed name=some 1) (hty:(P.globals[1]?).map (·.type)=some t) (ht:P.underlying t=some (.slice e)) (hce:P.cellsOf e=1) (he:P.underlying e=some .string) (hne:0<ss.length)
  (h0:∀ j s,w.cell? (Ad 0 j)≠some (.string s))
  (h:laidMet P [(name,.slice (ss.map fun s=>.lit (.string s.data.toList)) [])] w):TabS ss w:=by
 obtain⟨ps,⟨g',t',cs,fuel,p,q,hg',ht',hvar,hd,-,-⟩,-⟩:=h;obtain rfl:=Option.some.inj (hg.symm.trans hg');obtain rfl:=Option.some.inj (hty.symm.trans ht');have hcell:=World.var?_cell hg hvar;rcases Go.Deep.open_slice1 ht hce hd with ⟨-,hx⟩ | ⟨a,len,cap,m,k,V,D,Pl,hcs,-,hl,hm,hmm,hx,hel⟩
 ·simp at hx
 simp only[if_true] at hmm;subst hmm;simp only[Prod.mk.injEq,DataW.slice.injEq] at hx;obtain⟨⟨hx1,-⟩,-⟩:=hx;have hlen:ss.length=len:=by simpa using congrArg List.length hx1
 have each:∀ i s,ss[i]?=some s→w.cell? (a.add i)=some (.string s):=fun i s hs=>by
  have hi:i<len:=by rw[← hlen];exact (Lgs.1 hs).1
  obtain⟨h1,h2⟩:=hel i (by omega);obtain⟨s',e1,e2,-⟩:=DataW.trod_string he h2;have e3:D i=.lit (.string s.data.toList):=by
   have:=congrArg (fun l=>l[i]?) hx1;simp[hs,hi] at this;exact this.symm
  simp only[List.cons.injEq,and_true] at e1;simp only[Prod.mk.injEq] at e2;rw[e3] at e2;have e4:s.data.toList=s'.data.toList:=by simpa using e2.1
  rw[h1,e1,WideShapes.bytes_inj e4]
 obtain⟨B,o,sp⟩:=a;obtain⟨s0,hs0⟩:∃ s,ss[0]?=some s:=⟨ss[0],Lge hne⟩;have hc0:=each 0 s0 hs0;have hsp:sp=none:=by simpa [Addr.add] using World.cell?_spot hc0
 subst hsp;have hc0':w.cell? (Ad B o)=some (.string s0):=by simpa [Addr.add] using hc0
 have hcs':cs=#[.slice (some (Ad B o)) len m]:=Array.ext' hcs;have hB:2≤B:=by
  rcases Nat.lt_or_ge B 2 with c | c
  ·rcases (show B=0∨B=1 by omega) with rfl | rfl
   ·exact absurd hc0' (h0 o s0)
   rw[hcell o,hcs'] at hc0';cases o with
   | zero=>simp at hc0'
   | succ o=>simp at hc0'
  exact c
 refine⟨B,o,m,by rw[hcell 0,hcs',hlen];rfl,by rw[hlen];exact hl,hne,hB,?_,fun i s hs=>?_⟩
 ·apply Nat.lt_of_not_le;intro hle;unfold World.cell? at hc0';rw[Array.getElem?_eq_none hle] at hc0';simp at hc0'
 have:=each i s hs;rw[Nat.add_comm i o];cases i with
 | zero=>simpa [Addr.add] using this
 | succ i=>simpa [Addr.add] using this
end Go.Proofs.YtmolfmgchbjnbaaGreatDoor.Ev
namespace Go.Proofs.YtmolfmgchbjnbaaGreatDoor.Ev
open Go
def sgnName : String := Rows.echoRow.named.getD 1 ""
theorem sgnLaid:(Rows.echoRow.laid.filter fun x=>x.1==sgnName)=[(sgnName,.slice (signs.map fun s=>.lit (.string s.data.toList)) [])]:=by kernel_rfl
theorem sgnGlob:prog.globalNamed sgnName=some 1:=by kernel_rfl
theorem sgnType:(prog.globals[1]?).map (·.type)=some 238:=by kernel_rfl
theorem sgnSlice:prog.underlying 238=some (.slice 85):=by kernel_rfl
theorem sgnElem:prog.underlying 85=some .string:=by kernel_rfl
theorem sgnCells:prog.cellsOf 85=1:=by kernel_rfl
theorem sgn_of_laid {w:WL}(h0:∀ j s,w.cell? (Ad 0 j)≠some (.string s))(h:laidMetH prog Rows.echoRow.laid w):TabS signs w:=by
 have h1:=laidMetH.filter (fun x=>x.1==sgnName) h;rw[sgnLaid] at h1;exact tabS_of_laid sgnGlob sgnType sgnSlice sgnCells sgnElem (by decide) h0 h1
theorem entered58:∃ fn,entered prog 58=some fn:=by
 have h:(entered prog 58).isSome=true:=by kernel_rfl
 exact Option.isSome_iff_exists.1 h
end Go.Proofs.YtmolfmgchbjnbaaGreatDoor.Ev
namespace Go.Proofs.YtmolfmgchbjnbaaGreatDoor.Ev
open Go
def pwName : String := Rows.echoRow.named.getD 4 ""
theorem pwLaid:(Rows.echoRow.laid.filter fun x=>x.1==pwName)=[(pwName,Lib.tabData .u64 Lib.pow10Tab)]:=by kernel_rfl
theorem pwGlob:prog.globalNamed pwName=some 0:=by kernel_rfl
theorem pwType:(prog.globals[0]?).map (·.type)=some 233:=by kernel_rfl
theorem pwCells:prog.cellsOf 233=20:=by kernel_rfl
theorem pwArr:prog.underlying 233=some (.array 20 156):=by kernel_rfl
theorem pwElem:prog.underlying 156=some (.int .u64):=by kernel_rfl
theorem pw_tab {w:WL}(h:laidMetH prog Rows.echoRow.laid w):Lib.TabIs prog w pwName .u64 Lib.pow10Tab:=by
 have h1:=laidMetH.filter (fun x=>x.1==pwName) h;rw[pwLaid] at h1;exact Lib.tabIs_of_head (rest:=[]) (e:=156) pwGlob pwType pwArr pwElem (by kernel_rfl) pwCells h1
theorem sgn_tab {w:WL}(h:laidMetH prog Rows.echoRow.laid w):TabS signs w:=by
 refine sgn_of_laid (fun j s e=>?_) h;have ht:=pw_tab h;unfold Lib.TabIs at ht;rw[World.var?_cell pwGlob ht j] at e;simp at e
end Go.Proofs.YtmolfmgchbjnbaaGreatDoor.Ev
