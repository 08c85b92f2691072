import Derived.Test.YtmolfmgchbjnbaaGreatDoorM28
import Derived.Test.YtmolfmgchbjnbaaGreatDoorM17
set_option linter.unusedSimpArgs false
set_option linter.unusedVariables false
set_option maxRecDepth 100000
set_option maxHeartbeats 40000000
open _root_.Go.Proofs.Tryz
namespace Go.Proofs.YtmolfmgchbjnbaaGreatDoor.Ev
open Go
theorem Rel.plus {P:Program}{G:Nat}{m:Mp}{h:AH}{w w':WL} (R:Rel P G m h w) (hn:h.n<4096) (K:Kept w w') {o:AO}{x:MB} (hb:w.heap.size≤x.b) (hs:x.s=0) (hb':x.b<w'.heap.size) (hO:∀ m',Le m m'→Ob P m' o x w') :
  Rel P G (m.put h.n (some x)) (h.new o) w'∧Ext m (m.put h.n (some x)) h (h.new o) w w':=by
 obtain⟨R1,E1⟩:=R.grow K;have hno:=R.none_at (Nat.le_refl h.n);have hle:=Mp.put_le (some x) hno;have hget:∀ r,r<h.n→(h.new o).get r=h.get r:=fun r hr=>by rw[AH.get_new hn,if_neg (by omega)]
 have htab:∀ r o',h.get r=some o'→o'.k=3→(h.new o).get r=some o':=fun r o' ho' _=>by
  rcases Nat.lt_or_ge r h.n with q | q
  ·rw[hget r q];exact ho'
  rw[R.top r q] at ho';cases ho'
 refine⟨⟨by rw[AH.new_n];omega,fun q y e=>?_,fun q e=>?_,fun q q' y y' e e' eb=>?_,fun g hg=>?_,fun r hr=>by rw[AH.new_n] at hr;rw[AH.get_new hn,if_neg (by omega)];exact R.top r (by omega)⟩,
  ⟨hle,by rw[AH.new_n];omega,fun r hr e=>⟨by rw[Mp.put_off m _ (by omega)];exact e,hget r hr⟩,fun r y e=>?_,htab,K.os,K.tape,K.output,K.size,fun b hb _=>K.blk b hb⟩⟩
 ·by_cases c:q=h.n
  ·subst c;rw[Mp.put_same] at e;cases e;exact⟨by rw[AH.new_n];omega,hb',o,by rw[AH.get_new hn,if_pos rfl],hO _ hle⟩
  rw[Mp.put_off m _ c] at e;obtain⟨h1,h2,q',h3,h4⟩:=R1.row q y e;exact⟨by rw[AH.new_n];omega,h2,q',by rw[hget q h1];exact h3,h4.mono hle rfl⟩
 ·by_cases c:q=h.n
  ·subst c;rw[Mp.put_same] at e;cases e
  rw[Mp.put_off m _ c] at e;obtain⟨h1,h2⟩:=R.dead q e;exact⟨by rw[AH.new_n];omega,fun u hu=>h2 u (by rw[← hget q h1];exact hu)⟩
 ·by_cases c:q=h.n
  ·by_cases c':q'=h.n
   ·rw[c,c']
   subst c;rw[Mp.put_same] at e;cases e;rw[Mp.put_off m _ c'] at e';have:=(R.row q' y' e').2.1;omega
  rw[Mp.put_off m _ c] at e;by_cases c':q'=h.n
  ·subst c';rw[Mp.put_same] at e';cases e';have:=(R.row q y e).2.1;omega
  rw[Mp.put_off m _ c'] at e';exact R.inj q q' y y' e e' eb
 ·obtain⟨y,h1,h2,h3⟩:=R.glo g hg;exact⟨y,by rw[Mp.put_off m _ (by have:=(R.row g y h1).1;omega)];exact h1,h2,h3⟩
 by_cases c:r=h.n
 ·subst c;rw[Mp.put_same] at e;cases e;exact .inr ⟨Nat.le_refl _,.inl ⟨hb,hs⟩⟩
 rw[Mp.put_off m _ c] at e;exact .inl e
end Go.Proofs.YtmolfmgchbjnbaaGreatDoor.Ev
namespace Go.Proofs.YtmolfmgchbjnbaaGreatDoor
open Go.RowKit
open Wire
namespace Tok
open Ev
def rest2:Option Code→Code
 | some (.seq _ (.seq _ c))=>c
 | _=>.skip
def hT (ss:LY) (n:Nat) (T:LV):AH:=
 (((hs0 ss).new (AO.row 63 [.slice none 0 0,.slice none 0 0,.slice none 0 0,.slice none 0 0])).new (tb T)).new
  (AO.row 84 [.slice (some ⟨4,0,none⟩) n n,.int .i64 0,.bool false,.slice none 0 0,.slice none 0 0,.slice none 0 0,.slice none 0 0,.slice none 0 0,.int .i64 (-1),.bool false,.int .i64 0])
def aT0:Option AA:=putAll [ptrTo 3,.int .i64 0,.int .i64 0,ptrTo 5] 2 (AA.nil 45)
def evT (P:Program) (fn:Func) (ss:LY) (n:Nat) (T:LV) (M k:Nat):Option (Value × AH):=
 aT0.bind fun a=>(evC P 2 (evF P 2 M noX k) M none (rest2 fn.body) a (hT ss n T)).bind (aftBody P fn)
theorem kept_of {w w':WL}(h:Fr [] w w'):Kept w w':=⟨h.os,h.tape,h.output,h.size,fun b hb=>h.block b hb (by simp)⟩
theorem four_nil (m:Mp)(i:Nat)(v:Value)(h:([.slice none 0 0,.slice none 0 0,.slice none 0 0,.slice none 0 0]:LV)[i]?=some v):S1 m v v:=by
 have:=List.mem_of_getElem? h;simp only[List.mem_cons,List.not_mem_nil,or_false,or_self] at this;subst this;exact .inl ⟨rfl,rfl⟩
def TkSm (t:Tk):Prop:=t.p≤80000∧t.n≤1000000000
theorem rds_small {ss:LY}{s:BA} (hs:s.size≤80000):∀ (n:Nat) {a:Nat}{L R:List Tk},RdsN ss s n a L R→(∀ t ∈ L,TkSm t)→∀ t ∈ R,TkSm t
 | 0,_,_,_,h,_=>h.elim
 | n+1,a,L,R,h,hL=>by
  obtain⟨b,h1,h2⟩:=h
  have hb:b≤80000:=Nat.le_trans h1.le.2 hs
  have ap:∀ t:Tk,TkSm t→∀ x ∈ L++[t],TkSm x:=fun t ht x hx=>by
   rcases List.mem_append.1 hx with q | q
   ·exact hL x q
   ·rw[List.mem_singleton.1 q];exact ht
  rcases h2 with ⟨-,rfl⟩ | ⟨e,-,⟨h3,h4⟩ | ⟨-,rfl⟩⟩ | ⟨e,x,v,-,h3⟩ | ⟨g,-,-,-,h5⟩
  ·exact ap _ ⟨hb,Nat.zero_le _⟩
  ·exact rds_small hs n h4 (ap _ ⟨hb,h3⟩)
  ·exact ap _ ⟨hb,Nat.zero_le _⟩
  ·exact rds_small hs n h3 (ap _ (by cases v <;> exact⟨hb,Nat.zero_le _⟩))
  ·exact rds_small hs n h5 (ap _ ⟨hb,Nat.zero_le _⟩)
theorem tk_plain {R:List Tk}(hR:∀ t ∈ R,TkSm t){i:Nat}{v:Value} (h:(R.flatMap tkC)[i]?=some v):plainV v=true:=by
 obtain⟨t,htR,ht⟩:=List.mem_flatMap.1 (List.mem_of_getElem? h);obtain⟨q1,q2⟩:=hR t htR;have key:∀ n:Nat,n≤1000000000→plainV (iA (n:Nat))=true:=fun n hn=>by
  show Nat.blt n 9223372036854775808=true;rw[Nat.blt_eq];omega
 simp only[tkC,List.mem_cons,List.not_mem_nil,or_false] at ht;rcases ht with rfl | rfl | rfl | rfl
 ·rfl
 ·exact key _ (by omega)
 ·exact key _ (by omega)
 rfl
theorem parser_cells {m:Mp}{g n cap:Nat} (hcap:n≤cap) (hn:0<n) (hm:m 4=some none∨m 4=some (some ⟨g,0,cap*4,4⟩)) (i:Nat) (v:Value)
  (h:([.slice (some (Ad 4 0)) n n,iA 0,.bool false,.slice none 0 0,.slice none 0 0,.slice none 0 0,.slice none 0 0,.slice none 0 0,iA (-1),.bool false,iA 0]:LV)[i]?=some v) :
  ∃ v',(#[.slice (some (Ad g 0)) n cap,iA 0,.bool false,.slice none 0 0,.slice none 0 0,.slice none 0 0,.slice none 0 0,.slice none 0 0,iA (-1),.bool false,iA 0]:Array Value)[0+i]?=some v'∧S1 m v v':=by
 rw[Nat.zero_add]
 match i,h with
 | 0,h=>
  cases h
  refine⟨_,rfl,.inl ⟨rfl,hcap,fun q=>by omega,rfl,rfl,?_⟩⟩
  rcases hm with e | e
  ·exact .inl e
  ·exact .inr ⟨_,e,rfl,rfl,by simp⟩
 | 1,h=>cases h;exact⟨_,rfl,.inl ⟨rfl,rfl,fun _=>by decide⟩⟩
 | 2,h=>cases h;exact⟨_,rfl,.inl rfl⟩
 | 3,h=>cases h;exact⟨_,rfl,.inl ⟨rfl,rfl⟩⟩
 | 4,h=>cases h;exact⟨_,rfl,.inl ⟨rfl,rfl⟩⟩
 | 5,h=>cases h;exact⟨_,rfl,.inl ⟨rfl,rfl⟩⟩
 | 6,h=>cases h;exact⟨_,rfl,.inl ⟨rfl,rfl⟩⟩
 | 7,h=>cases h;exact⟨_,rfl,.inl ⟨rfl,rfl⟩⟩
 | 8,h=>cases h;exact⟨_,rfl,.inl ⟨rfl,rfl,fun _=>by decide⟩⟩
 | 9,h=>cases h;exact⟨_,rfl,.inl rfl⟩
 | 10,h=>cases h;exact⟨_,rfl,.inl ⟨rfl,rfl,fun _=>by decide⟩⟩
 | n+11,h=>simp at h
theorem syntax_any {ss:LY}{w0:WL}{s:BA}{R:List Tk} (ht:TabS ss w0) (hss:ss.length≤100) (hs:s.size≤80000) (hR:Rds ss s 0 [] R) (hn:0<R.length) {M k:Nat}{q:Value × AH} (hq:evT prog f28 ss R.length (R.flatMap tkC) M k=some q) :
  Calls prog 28 #[.string s] w0 fun e w'=>∃ v' m,e=.returned v'∧Ev.Left prog w0 q m v' w':=by
 obtain⟨W1,hW1⟩:=eXi (w0.alloc (.cells #[.slice none 0 0,.slice none 0 0,.slice none 0 0,.slice none 0 0] 63));have F1:=frA hW1
 have htk:=tokens_any (tabS_fr ht F1) hss hs hR;have hsm:∀ t ∈ R,TkSm t:=by
  obtain⟨n,hn⟩:=hR;exact rds_small hs n hn (by simp)
 have HSM:Hid _:=hsm;clear hsm;go_enter func28,ntmps28;refine wp_seq_k (fun K0 h0=>?_);have H0:Hid _:=h0;clear h0;go_wp2;refine H0.out _ _ ?_;refine wp_seq_k (fun K1 h1=>?_);have H1:Hid _:=h1;clear h1 H0;go_wp2_with fail;refine htk.mono ?_;rintro e w2 ⟨v,rfl,own,F2⟩;obtain⟨g,cap,rfl⟩:∃ g cap,v=.slice (some (Ad g 0)) R.length cap:=by
  rcases own.2 with ⟨_,h0⟩ | ⟨g,cap,cur,hv,_⟩
  ·omega
  exact⟨g,cap,hv⟩
 have HO:Hid _:=own;clear own htk;go_wp2;refine H1.out _ _ ?_;clear H1;obtain⟨B,o,c,h1,h2,h3,h4,h5,h6⟩:=ht;have R0:Rel prog 2 (Ev.ms0 B o (o+c)) (hs0 ss) w0:=rel0 h1 h2 h3 h4 h5 h6;have n0:(hs0 ss).n=3:=by simp only[hs0,AH.set_n];rfl
 have k1:W1.heap[w0.heap.size]?=some (.cells #[.slice none 0 0,.slice none 0 0,.slice none 0 0,.slice none 0 0] 63):=by rw[← hW1];exact wan w0 _
 have l1:W1.heap.size=w0.heap.size+1:=by rw[← hW1];simp
 obtain⟨R1,E1⟩:=R0.plus (w':=W1) (by rw[n0];omega) (kept_of F1) (o:=AO.row 63 [.slice none 0 0,.slice none 0 0,.slice none 0 0,.slice none 0 0]) (x:=⟨w0.heap.size,0,4,4⟩) (Nat.le_refl _) rfl (by show w0.heap.size<_;omega) (fun m' hm=>.inl ⟨rfl,by kernel_rfl,_,_,_,k1,rfl,.inl rfl,by simp[AO.row],fun i v hv=>⟨v,by rw[Nat.zero_add,List.getElem?_toArray];exact hv,four_nil m' i v hv⟩⟩);rw[n0] at R1 E1;obtain⟨g0,cap0,cur,hv,hg1,hg2,hg3,hg4,hg5,hg6⟩:=(HO.out.2).resolve_left (fun h=>by omega);cases hv;have hgl:g<w2.heap.size:=(World.ownsRow.lt HO.out g rfl).2;have n1:((hs0 ss).new (AO.row 63 [.slice none 0 0,.slice none 0 0,.slice none 0 0,.slice none 0 0])).n=4:=by rw[AH.new_n,n0]
 obtain⟨R2,E2⟩:=R1.plus (w':=w2) (by rw[n1];omega) (kept_of F2) (o:=tb (R.flatMap tkC)) (x:=⟨g,0,cap*4,4⟩) (by show W1.heap.size≤g;omega) rfl hgl (fun m' hm=>.inr (.inr ⟨rfl,fun i v hv=>⟨v,own_cell HO.out hv,plain_s1 (tk_plain HSM.out hv)⟩⟩));rw[n1] at R2 E2;have n2:(((hs0 ss).new (AO.row 63 [.slice none 0 0,.slice none 0 0,.slice none 0 0,.slice none 0 0])).new (tb (R.flatMap tkC))).n=5:=by rw[AH.new_n,n1]
 have k3:=wan w2 (.cells #[.slice (some (Ad g 0)) R.length cap,iA 0,.bool false,.slice none 0 0,.slice none 0 0,.slice none 0 0,.slice none 0 0,.slice none 0 0,iA (-1),.bool false,iA 0] 84);obtain⟨W3,hW3⟩:=eXi (w2.alloc (.cells #[.slice (some (Ad g 0)) R.length cap,iA 0,.bool false,.slice none 0 0,.slice none 0 0,.slice none 0 0,.slice none 0 0,.slice none 0 0,iA (-1),.bool false,iA 0] 84));have F3:=frA hW3
 have l3:W3.heap.size=w2.heap.size+1:=by rw[← hW3];simp
 rw[hW3] at k3 ⊢;obtain⟨R3,E3⟩:=R2.plus (w':=W3) (by rw[n2];omega) (kept_of F3) (o:=AO.row 84 [.slice (some (Ad 4 0)) R.length R.length,iA 0,.bool false,.slice none 0 0,.slice none 0 0,.slice none 0 0,.slice none 0 0,.slice none 0 0,iA (-1),.bool false,iA 0]) (x:=⟨w2.heap.size,0,11,11⟩) (Nat.le_refl _) rfl (by show w2.heap.size<_;omega) (fun m' hm=>.inl ⟨rfl,by kernel_rfl,_,_,_,k3,rfl,.inl rfl,by simp[AO.row],fun i v hv=>parser_cells (g:=g) (cap:=cap) hg3 hn (by
  rcases (hm 4).2 ⟨g,0,cap*4,4⟩ (by simp[Mp.put]) with h | h
  ·exact .inr h
  exact .inl h) i v hv⟩)
 rw[n2] at R3 E3;have EE:=(E1.trans E2).trans E3;have hT3:hT ss R.length (R.flatMap tkC)=((((hs0 ss).new (AO.row 63 [.slice none 0 0,.slice none 0 0,.slice none 0 0,.slice none 0 0])).new (tb (R.flatMap tkC))).new (AO.row 84 [.slice (some (Ad 4 0)) R.length R.length,iA 0,.bool false,.slice none 0 0,.slice none 0 0,.slice none 0 0,.slice none 0 0,.slice none 0 0,iA (-1),.bool false,iA 0])):=rfl;rw[← hT3] at R3 E3 EE;unfold evT at hq;obtain⟨a,ha,hq1⟩:=bind_some hq;obtain⟨⟨ex,a',h'⟩,hc,hq2⟩:=bind_some hq1;obtain⟨p1,p2,p3⟩:=putAll_ok _ _ _ _ ha;refine (evC_ok (evF_ok mixed M noX_ok k) mixed [] M none _ a a' _ h' ex hc _ W3 _ _ R3 ?_ ?_).1
 ·refine⟨p1,fun i v hv=>?_⟩;rw[p3 i] at hv;split at hv
  ·rename_i hi
   have:i=2∨i=3∨i=4∨i=5:=by simp at hi;omega
   rcases this with rfl | rfl | rfl | rfl
   ·cases hv;exact .inl (.inl (.inl ⟨rfl,rfl,.inr ⟨⟨w0.heap.size,0,4,4⟩,by simp[Mp.put],rfl,rfl⟩⟩))
   ·cases hv;exact .inl (.inl (.inl ⟨rfl,rfl,fun _=>by decide⟩))
   ·cases hv;exact .inl (.inl (.inl ⟨rfl,rfl,fun _=>by decide⟩))
   cases hv;exact .inl (.inl (.inl ⟨rfl,rfl,.inr ⟨⟨w2.heap.size,0,11,11⟩,by simp[Mp.put],rfl,rfl⟩⟩))
  rw[AA.nil_get] at hv;cases hv
 intro m' w' t' R' E' S';have fin:resultsA prog f28 a' h'=some q→∃ v,(results f28 t').run prog w'=.ok v w'∧∃ v' m,Ending.returned v=.returned v'∧Ev.Left prog w0 q m v' w':=by
  intro hres;obtain⟨e1,v',z1,z2⟩:=results_ok R' S' hres;have E0:=EE.trans E';refine⟨v',z1,v',m',rfl,by rw[e1];exact R',kept0 E0,z2,fun r x hr hx=>?_,by rw[e1];exact tab3 E0⟩;rcases E0.new r x hx with e | ⟨-,e | ⟨r0,x0,e0,-,-,e2⟩⟩
  ·simp only[Ev.ms0] at e;rw[if_neg (by omega),if_neg (by omega),if_neg (by omega)] at e;cases e
  ·exact e
  exfalso;simp only[hs0_get] at e2;simp only[Ev.ms0] at e0;split at e0
  ·rename_i z;exact e2 (tb []) (by rw[if_pos z]) rfl
  split at e0
  ·rename_i z' z;exact e2 _ (by rw[if_neg z',if_pos z]) rfl
  split at e0
  ·rename_i z1 z2 z;exact e2 _ (by rw[if_neg z1,if_neg z2,if_pos z]) rfl
  cases e0
 unfold aftBody at hq2;split at hq2
 ·rename_i heq
  cases heq;obtain⟨v,q1,q2⟩:=fin hq2;exact⟨rfl,v,q1,q2⟩
 ·rename_i heq
  cases heq;obtain⟨v,q1,q2⟩:=fin hq2;exact⟨rfl,v,q1,q2⟩
 cases hq2
end Tok
open Go.RowKit
open Wire
namespace Tok
open Ev
def intsOf:LV→Option (List Int)
 | []=>some []
 | .int .i64 z :: l=>(intsOf l).map (z :: ·)
 | _ :: _=>none
def opsOf (h:AH):OA→Nat→Nat→Option (List Int)
 | none,0,_=>some []
 | some ⟨r,off,none⟩,n,c=>cond (Nat.ble n 2 && Nat.ble n c) ((Ev.rowAt r h).bind fun p=>(Ev.cut p.1 off n).bind intsOf) none
 | _,_,_=>none
def lineOf (h:AH):Value→Value→Value→Option Ln
 | .int .u8 (.ofNat op),.slice a n c,.int .i64 t=>cond (ieq t (-1) && Nat.blt op 256) ((opsOf h a n c).map fun os=>(op,os)) none
 | _,_,_=>none
def lnsOf (h:AH):Nat→LV→Option (List Ln)
 | 0,[]=>some []
 | n+1,a :: b :: c :: l=>(lineOf h a b c).bind fun x=>(lnsOf h n l).map (x :: ·)
 | _,_=>none
def bodyAt (h:AH):Value→Option (List Ln)
 | .slice (some ⟨q,o,none⟩) n c=>cond (Nat.blt 0 n && Nat.ble n 1000 && Nat.ble n c) ((Ev.rowAt q h).bind fun p=>(Ev.cut p.1 o (n*3)).bind (lnsOf h n)) none
 | _=>none
def bodyOf (h:AH):Value→Option (List Ln)
 | .pointer (some ⟨r,off,none⟩)=>(Ev.rowAt r h).bind fun p=>(nth p.1 off).bind (bodyAt h)
 | _=>none
def codeV (h:AH):LV→Option (Option (Value × AH))
 | [v]=>(bodyOf h v).map fun L=>some (.string ⟨(L.flatMap lnB).toArray⟩,h)
 | _=>none
def codeX (k:FuncId) (f:FuncId) (args:LV) (h:AH):Option (Option (Value × AH)):=cond (Nat.beq f k) (codeV h args) none
theorem rowAt_ok {r:Nat}{h:AH}{p:LV × TypeId} (e:Ev.rowAt r h=some p):∃ es,h.get r=some ⟨1,p.1,p.2,es⟩:=by
 unfold Ev.rowAt Ev.asRow at e;split at e
 ·rename_i xs t es he
  cases e;exact⟨es,he⟩
 cases e
section
variable {m:Mp}{h:AH}{w:WL}
theorem ptrAt (R:Rel prog 2 m h w){r off:Nat}{v':Value} (hv:S3 m (.pointer (some (Ad r off))) v') {p:LV × TypeId} (hg:Ev.rowAt r h=some p) :
  ∃ x:MB,v'=.pointer (some (Ad x.b (off+x.s)))∧∀ (i:Nat) v,p.1[i]?=some v→∃ u,w.cell? (Ad x.b (i+x.s))=some u∧S1 m v u:=by
 obtain⟨es,hg⟩:=rowAt_ok hg;obtain⟨⟨b,o,sp⟩,rfl,h1,h2,h4⟩:=hv.ptr;rcases h4 with h4 | ⟨x,h4,h5,h6⟩
 ·exact absurd ((R.dead r h4).2 _ hg) (by simp)
 obtain⟨-,k2,o',k3,k4⟩:=R.row r x h4;rw[hg] at k3;cases k3;simp only at h2 h5 h6;subst h2 h5 h6;refine⟨x,rfl,fun i v hv=>?_⟩;rcases k4 with ⟨-,k4⟩ | ⟨q,-⟩ | ⟨q,-⟩
 ·exact k4.cell hv
 ·cases q
 cases q
theorem sliceAt' (R:Rel prog 2 m h w){r off n c:Nat}{v':Value} (hv:S3 m (.slice (some (Ad r off)) n c) v') {p:LV × TypeId} (hg:Ev.rowAt r h=some p) :
  ∃ (x:MB) (c':Nat),v'=.slice (some (Ad x.b (off+x.s))) n c'∧c≤c'∧x.b<w.heap.size∧∀ (i:Nat) v,p.1[i]?=some v→∃ u,w.cell? (Ad x.b (i+x.s))=some u∧S1 m v u:=by
 obtain⟨es,hg⟩:=rowAt_ok hg;obtain⟨x,c',-,h2,h3,h4,h5⟩:=R.sliceAt hv hg;exact⟨x,c',h2,h3,h4,h5⟩
theorem cut_ok {l r:LV}{i n:Nat} (e:Ev.cut l i n=some r):i+n≤l.length∧r.length=n∧∀ j,j<n→r[j]?=l[i+j]?:=by
 unfold Ev.cut at e;cases hb:Nat.ble (i+n) l.length with
 | false=>rw[hb] at e;cases e
 | true=>
  rw[hb] at e;cases e;have:=Nat.le_of_ble_eq_true hb;refine⟨this,by rw[List.length_take,List.length_drop];omega,fun j hj=>?_⟩;rw[List.getElem?_take_of_lt hj,List.getElem?_drop]
theorem intsOf_ok:∀ {l:LV}{zs:List Int},intsOf l=some zs→l=zs.map (.int .i64)
 | [],zs,e=>by cases e;rfl
 | v :: l,zs,e=>by
  unfold intsOf at e
  split at e
  ·rename_i h;cases h
  ·rename_i z r h
   cases h
   cases hq:intsOf l with
   | none=>rw[hq] at e;cases e
   | some q=>rw[hq] at e;cases e;rw[intsOf_ok hq];rfl
  ·cases e
theorem opsOf_ok (R:Rel prog 2 m h w){a:OA}{n c:Nat}{v':Value} (hv:S1 m (.slice a n c) v') {zs:List Int} (e:opsOf h a n c=some zs):IntsIn w v' zs∧zs.length≤2∧∀ z ∈ zs,z<(9223372036854775808:Int):=by
 unfold opsOf at e;split at e
 ·cases e;obtain rfl:=S3.slN hv.s3;exact⟨⟨none,c,0,0,rfl,Nat.zero_le _,by simp,by simp⟩,by simp,by simp⟩
 ·rename_i r off
  cases hb:(Nat.ble n 2 && Nat.ble n c) with
  | false=>rw[hb] at e;cases e
  | true=>
   rw[hb] at e;simp only[cond_true] at e;obtain⟨p,hp,e⟩:=bind_some e;obtain⟨q,hq,e⟩:=bind_some e;obtain⟨h1,h2,h3⟩:=cut_ok hq;obtain⟨x,c',rfl,h4,h5,h6⟩:=sliceAt' R hv.s3 hp;have hz:=intsOf_ok e;have hl:zs.length=n:=by rw[← h2,hz,List.length_map]
   obtain⟨hb1,hb2⟩:=Bool.and_eq_true_iff.1 hb;have hc:n≤c':=Nat.le_trans (Nat.le_of_ble_eq_true hb2) h4;have key:∀ (k:Nat) z,zs[k]?=some z→w.cell? (Ad x.b (off+x.s+k))=some (iA z)∧z<9223372036854775808:=fun k z hk=>by
    have hkn:k<n:=by rw[← hl];exact (Lgs.1 hk).1
    have:p.1[off+k]?=some (iA z):=by rw[← h3 k hkn,hz,List.getElem?_map,hk];rfl
    obtain⟨u,hu,su⟩:=h6 _ _ this;have:=su.s3.rng rfl;rw[su.s3.int] at hu;rw[show off+x.s+k=off+k+x.s by omega];exact⟨hu,this⟩
   refine⟨⟨_,c',x.b,off+x.s,by rw[hl],by rw[hl];exact hc,fun _=>⟨rfl,h5⟩,fun k z hk=>(key k z hk).1⟩,by rw[hl];exact Nat.le_of_ble_eq_true hb1,fun z hz=>?_⟩;obtain⟨k,hk⟩:=List.getElem?_of_mem hz;exact (key k z hk).2
 cases e
theorem lineOf_ok (R:Rel prog 2 m h w){a b c a' b' c':Value}(sa:S1 m a a')(sb:S1 m b b')(sc:S1 m c c'){x:Ln}(e:lineOf h a b c=some x):a'=.int .u8 (x.1:Nat)∧IntsIn w b' x.2∧c'=iA (-1)∧LnOk x:=by
 unfold lineOf at e;split at e
 ·rename_i op q n cc t
  cases hb:(ieq t (-1) && Nat.blt op 256) with
  | false=>rw[hb] at e;cases e
  | true=>
   rw[hb] at e;simp only[cond_true] at e;obtain⟨os,ho,rfl⟩:=map_some e;obtain⟨hb1,hb2⟩:=Bool.and_eq_true_iff.1 hb;rw[ieq_eq] at hb1;have ht:=of_decide_eq_true hb1;subst ht;obtain⟨h1,h2,h3⟩:=opsOf_ok R sb ho;exact⟨sa.s3.int,h1,sc.s3.int,Nat.blt_eq ▸ hb2,h2,h3⟩
 cases e
theorem lnsOf_ok (R:Rel prog 2 m h w){g:Nat}:∀ {n off:Nat}{l:LV}{L:List Ln},lnsOf h n l=some L→(∀ (i:Nat) v,l[i]?=some v→∃ u,w.cell? (Ad g (off+i))=some u∧S1 m v u)→L.length=n∧(∀ x ∈ L,LnOk x)∧∀ (k:Nat) x,L[k]?=some x→LineIn w g (off+k*3) x
 | 0,off,[],L,e,hc=>by cases e;exact⟨rfl,by simp,by simp⟩
 | 0,off,_ :: _,L,e,hc=>by cases e
 | n+1,off,[],L,e,hc=>by cases e
 | n+1,off,[_],L,e,hc=>by cases e
 | n+1,off,[_,_],L,e,hc=>by cases e
 | n+1,off,a :: b :: c :: l,L,e,hc=>by
  simp only[lnsOf] at e
  obtain⟨x,hx,e⟩:=bind_some e
  obtain⟨L',hL,rfl⟩:=map_some e
  obtain⟨a',ca,sa⟩:=hc 0 a rfl
  obtain⟨b',cb,sb⟩:=hc 1 b rfl
  obtain⟨c',cc,sc⟩:=hc 2 c rfl
  obtain⟨rfl,h2,rfl,h4⟩:=lineOf_ok R sa sb sc hx
  obtain⟨k1,k2,k3⟩:=lnsOf_ok R (g:=g) (off:=off+3) hL (fun i v hv=>by
   obtain⟨u,hu,su⟩:=hc (i+3) v (by simpa using hv)
   exact⟨u,by rw[show off+3+i=off+(i+3) by omega];exact hu,su⟩)
  refine⟨by simp[k1],fun y hy=>?_,fun k y hk=>?_⟩
  ·rcases List.mem_cons.1 hy with rfl | hy
   ·exact h4
   ·exact k2 y hy
  ·cases k with
   | zero=>
    simp at hk
    subst hk
    refine⟨?_,⟨b',?_,h2⟩,?_⟩
    ·simpa using ca
    ·simpa using cb
    ·simpa using cc
   | succ k=>
    have:=k3 k y (by simpa using hk)
    rw[show off+(k+1)*3=off+3+k*3 by omega]
    exact this
theorem bodyOf_ok (R:Rel prog 2 m h w){v v':Value}(sv:S3 m v v'){L:List Ln}(e:bodyOf h v=some L):∃ pb po,v'=.pointer (some (Ad pb po))∧BodyIn w (Ad pb po) L∧0<L.length∧L.length≤1000∧∀ x ∈ L,LnOk x:=by
 unfold bodyOf at e;split at e
 ·rename_i r off
  obtain⟨p,hp,e⟩:=bind_some e;obtain⟨y,hy,e⟩:=bind_some e;rw[nth_eq] at hy;obtain⟨x,rfl,hx⟩:=ptrAt R sv hp;obtain⟨u,hu,su⟩:=hx off y hy;unfold bodyAt at e;split at e
  ·rename_i q o n c
   cases hb:(Nat.blt 0 n && Nat.ble n 1000 && Nat.ble n c) with
   | false=>rw[hb] at e;cases e
   | true=>
    rw[hb] at e;simp only[cond_true] at e;obtain⟨hb12,hb3⟩:=Bool.and_eq_true_iff.1 hb;obtain⟨hb1,hb2⟩:=Bool.and_eq_true_iff.1 hb12;have q1:0<n:=Nat.blt_eq ▸ hb1;have q2:=Nat.le_of_ble_eq_true hb2;obtain⟨p2,hp2,e⟩:=bind_some e;obtain⟨l,hl,e⟩:=bind_some e;obtain⟨h1,h2,h3⟩:=cut_ok hl;obtain⟨z,c',rfl,h4,h5,h6⟩:=sliceAt' R su.s3 hp2;obtain⟨k1,k2,k3⟩:=lnsOf_ok R (g:=z.b) (off:=o+z.s) e (fun i v hv=>by
     have hi:i<n*3:=by rw[← h2];exact (Lgs.1 hv).1
     obtain⟨u,hu,su⟩:=h6 (o+i) v (by rw[← h3 i hi];exact hv);exact⟨u,by rw[show o+z.s+i=o+i+z.s by omega];exact hu,su⟩)
    exact⟨x.b,off+x.s,rfl,⟨_,c',z.b,o+z.s,by rw[k1];exact hu,by rw[k1];exact Nat.le_trans (Nat.le_of_ble_eq_true hb3) h4,fun _=>⟨rfl,h5⟩,k3⟩,by omega,by omega,k2⟩
  cases e
 cases e
theorem codeX_ok (he:∃ fn,entered prog 163=some fn) :
  ∀ f args h r,codeX 163 f args h=some (some r)→(∃ fn,entered prog f=some fn)∧∀ m w args',Rel prog 2 m h w→L2 (S3 m) args args'.toList→Calls prog f args' w fun
  | .returned v',w'=>Wrote prog 2 m h w r v' w'
  | _,_=>False:=by
 intro f args h r hr;unfold codeX at hr;cases hb:Nat.beq f 163 with
 | false=>rw[hb] at hr;cases hr
 | true=>
  rw[hb] at hr;simp only[cond_true] at hr;have hf:=Nat.eq_of_beq_eq_true hb;subst hf;refine⟨he,fun m w args' R ha=>?_⟩;unfold codeV at hr;split at hr
  ·rename_i v
   obtain⟨L,hL,e⟩:=map_some hr;cases e;obtain⟨y,q,e,hy,hq⟩:=ha.cons_left;rw[hq.nil_left] at e;obtain⟨pb,po,rfl,h1,h2,h3,h4⟩:=bodyOf_ok R hy hL;obtain rfl:args'=#[.pointer (some (Ad pb po))]:=Array.ext' e;refine (code_any h1 h3 h2 h4).mono fun e' w' ⟨he',F⟩=>?_;subst he';obtain⟨R',E'⟩:=R.grow (kept_of F);exact⟨m,R',E',S0.s3 (s0_str _)⟩
  cases hr
end
end Tok
open Go.RowKit
open Wire
namespace Tok
open Ev
def isSl:Value→Bool
 | .slice _ _ _=>true
 | _=>false
def sl4 (cs:Array Value):Bool:=Nat.beq cs.toList.length 4 && cs.toList.all isSl
theorem isSl_ok {m:Mp}{v v':Value} (h:isSl v=true) (s:S1 m v v'):∃ o n c,v'=.slice o n c:=by
 unfold isSl at h;split at h
 ·rename_i o n c
  cases o with
  | none=>exact⟨none,n,c,S3.slN s.s3⟩
  | some a=>
   obtain⟨b,c',e,-⟩:=S3.sl s.s3;exact⟨some b,n,c',e⟩
 cases h
def thenT (P:Program) (h:AH):LV→Option (Value × AH)
 | [.agg cs,.int .i64 p,.int .i64 e]=>cond (sl4 cs && ieq p 0 && ieq e 0) (evF P 2 2000 (codeX 163) 100 30 [.agg cs] h) none
 | _=>none
def thenM (P:Program):Option (Value × AH)→Option (Value × AH)
 | some (.tuple vs,h)=>thenT P h vs.toList
 | _=>none
def rowL (h:AH):Value→Option (LV)
 | .slice (some ⟨b,0,none⟩) n c=>cond (Nat.ble n c) ((Ev.rowAt b h).bind fun p=>Ev.cut p.1 0 (n*3)) none
 | _=>none
def modT (h:AH):LV→Option (LV)
 | [.slice none 0 0,.slice none 0 0,.int .i64 (.ofNat 0),.int .i64 (.ofNat 0),v]=>rowL h v
 | _=>none
def modF:Option (Value × AH)→Option (LV)
 | some (.agg vs,h)=>modT h vs.toList
 | _=>none
def errT:LV→Option Int
 | [.agg cs,.int .i64 p,.int .i64 (.ofNat 14)]=>cond (sl4 cs) (some p) none
 | _=>none
def errF:Option (Value × AH)→Option Int
 | some (.tuple vs,_)=>errT vs.toList
 | _=>none
theorem agg4 {m:Mp}{cs:Array Value}{v':Value} (hl:sl4 cs=true) (h:S2 m (.agg cs) v'):∃ o1 n1 c1 o2 n2 c2 o3 n3 c3 o4 n4 c4,v'=.agg #[.slice o1 n1 c1,.slice o2 n2 c2,.slice o3 n3 c3,.slice o4 n4 c4]:=by
 obtain⟨c',rfl,hc⟩:=S3.agg (S2.s3 h)
 obtain⟨h1,h2⟩:=Bool.and_eq_true_iff.1 hl
 have h4:=Nat.eq_of_beq_eq_true h1
 match hq:cs.toList,h4 with
 | [a,b,c,d],_=>
  rw[hq] at hc h2
  simp only[List.all_cons,Bool.and_eq_true] at h2
  obtain⟨a',r1,e1,s1,hc⟩:=hc.cons_left
  obtain⟨b',r2,e2,s2,hc⟩:=hc.cons_left
  obtain⟨c2',r3,e3,s3,hc⟩:=hc.cons_left
  obtain⟨d',r4,e4,s4,hc⟩:=hc.cons_left
  rw[hc.nil_left] at e4
  subst e4 e3 e2
  obtain⟨o1,n1,c1,rfl⟩:=isSl_ok h2.1 s1
  obtain⟨o2,n2,c2,rfl⟩:=isSl_ok h2.2.1 s2
  obtain⟨o3,n3,c3,rfl⟩:=isSl_ok h2.2.2.1 s3
  obtain⟨o4,n4,c4,rfl⟩:=isSl_ok h2.2.2.2.1 s4
  exact⟨o1,n1,c1,o2,n2,c2,o3,n3,c3,o4,n4,c4,by congr 1;exact Array.ext' e1⟩
theorem tup3 {m:Mp}{vs:Array Value}{v1 v2 v3 v':Value} (hl:vs.toList=[v1,v2,v3]) (h:S3 m (.tuple vs) v'):∃ a b c,v'=.tuple #[a,b,c]∧S2 m v1 a∧S2 m v2 b∧S2 m v3 c:=by
 obtain⟨c',rfl,hc⟩:=h.tuple;rw[hl] at hc;obtain⟨a,r1,e1,s1,hc⟩:=hc.cons_left;obtain⟨b,r2,e2,s2,hc⟩:=hc.cons_left;obtain⟨c,r3,e3,s3,hc⟩:=hc.cons_left;rw[hc.nil_left] at e3;subst e3 e2;exact⟨a,b,c,by congr 1;exact Array.ext' e1,s1,s2,s3⟩
theorem S2.int' {m:Mp}{k:IntKind}{n:Int}{v':Value} (h:S2 m (.int k n) v'):v'=.int k n:=S3.int (S2.s3 h)
theorem compile_bad {w:WL}{s:BA}{R:List Tk}{p:Int} (ht:TabS signs w) (hs:s.size≤1000) (hR:Rds signs s 0 [] R) (hn:0<R.length) (hq:errF (evT prog f28 signs R.length (R.flatMap tkC) 2000 100)=some p) :
  Calls prog 19 #[.string s] w fun e w'=>e=.returned (.tuple #[.string ⟨#[]⟩,iA p,iA 14])∧Fr [] w w':=by
 cases he:evT prog f28 signs R.length (R.flatMap tkC) 2000 100 with
 | none=>rw[he] at hq;cases hq
 | some q=>
  have hS:=syntax_any ht (by decide) (by omega) hR hn he;rw[he] at hq;obtain⟨qv,qh⟩:=q;unfold errF at hq;split at hq
  ·rename_i vs h0 e0
   cases e0;unfold errT at hq;split at hq
   ·rename_i cs p' hvs
    cases hb:sl4 cs with
    | false=>rw[hb] at hq;cases hq
    | true=>
     rw[hb] at hq;cases hq;have g1:¬ (1000:Int)<s.size:=by omega
     clear he hR;go_enter func19,ntmps19;go_wp2_with fail;refine hS.mono ?_;rintro e w1 ⟨v',m,rfl,L⟩;obtain⟨a,b,c,rfl,s1,s2,s3⟩:=tup3 hvs L.val;obtain rfl:=S2.int' s2;obtain rfl:=S2.int' s3;obtain⟨o1,n1,c1,o2,n2,c2,o3,n3,c3,o4,n4,c4,rfl⟩:=agg4 hb s1;have F:Hid (Fr [] w w1):=⟨L.kept.os,L.kept.tape,L.kept.output,L.kept.size,fun k hk _=>L.kept.blk k hk⟩;clear L s1 s2 s3 hS;go_wp2;go_ret3;exact⟨rfl,F.out.alloc _⟩
   cases hq
  cases hq
end Tok
open Go.RowKit
open Wire
namespace Tok
open Ev
theorem agg5 {m:Mp}{us:Array Value}{v v':Value} (hl:us.toList=[.slice none 0 0,.slice none 0 0,iA (.ofNat 0),iA (.ofNat 0),v]) (h:S3 m (.agg us) v'):∃ u,v'=.agg #[.slice none 0 0,.slice none 0 0,iA ((0:Nat):Int),iA ((0:Nat):Int),u]∧S1 m v u:=by
 obtain⟨c',rfl,hc⟩:=h.agg;rw[hl] at hc;obtain⟨a,r1,e1,s1,hc⟩:=hc.cons_left;obtain⟨b,r2,e2,s2,hc⟩:=hc.cons_left;obtain⟨c,r3,e3,s3,hc⟩:=hc.cons_left;obtain⟨d,r4,e4,s4,hc⟩:=hc.cons_left;obtain⟨e,r5,e5,s5,hc⟩:=hc.cons_left;rw[hc.nil_left] at e5;subst e5 e4 e3 e2;obtain rfl:=S3.slN s1.s3;obtain rfl:=S3.slN s2.s3;obtain rfl:=S3.int s3.s3;obtain rfl:=S3.int s4.s3;exact⟨e,by congr 1;exact Array.ext' e1,s5⟩
def fnMo (fns:List Wire.Fn):Mo:=⟨[],[],0,0,fns⟩
theorem fns_of {m:Mp}{h:AH}{w:WL} (R:Rel prog 2 m h w) {v u:Value}{fns:List Wire.Fn} (hv:S1 m v u) (hr:rowL h v=some (fns.flatMap fnC)):FnsIn w u fns:=by
 unfold rowL at hr;split at hr
 ·rename_i b n c
  cases hb:Nat.ble n c with
  | false=>rw[hb] at hr;cases hr
  | true=>
   rw[hb] at hr;simp only[cond_true] at hr;obtain⟨p,hp,e⟩:=bind_some hr;obtain⟨x,c',rfl,h4,h5,h6⟩:=sliceAt' R hv.s3 hp;obtain⟨k1,k2,k3⟩:=cut_ok e;have hl:(fns.flatMap fnC).length=fns.length*3:=by rw[List.length_flatMap];simp[fnC,List.map_const']
   obtain rfl:n=fns.length:=by omega
   have hcap:fns.length≤c':=Nat.le_trans (Nat.le_of_ble_eq_true hb) h4;refine⟨_,c',x.b,0+x.s,rfl,hcap,fun _=>⟨rfl,h5⟩,fun i y hy=>?_⟩;have hi:=(Lgs.1 hy).1;have key:∀ (j:Nat) v,(fnC y)[j]?=some v→j<3→∃ u,w.cell? (Ad x.b (0+x.s+i*3+j))=some u∧S1 m v u:=fun j v hv hj=>by
    have:p.1[i*3+j]?=some v:=by
     rw[← Nat.zero_add (i*3+j),← k3 (i*3+j) (by omega),flat_get (f:=fnC) (z:=3) (fun _=>rfl) hy hj];exact hv
    obtain⟨u,hu,su⟩:=h6 _ _ this;exact⟨u,by rw[show 0+x.s+i*3+j=i*3+j+x.s by omega];exact hu,su⟩
   obtain⟨u0,hu0,s0⟩:=key 0 _ rfl (by omega);obtain⟨u1,hu1,s1⟩:=key 1 _ rfl (by omega);obtain⟨u2,hu2,s2⟩:=key 2 _ rfl (by omega);rw[S3.int s0.s3] at hu0;rw[S3.int s1.s3] at hu1;rw[S3.string s2.s3] at hu2;exact⟨hu0,hu1,hu2⟩
 cases hr
theorem compile_any {w:WL}{s:BA}{R:List Tk}{fns:List Wire.Fn} (h163:∃ fn,entered prog 163=some fn) (ht:TabS signs w) (hs:s.size≤1000) (hR:Rds signs s 0 [] R) (hn:0<R.length) (hz:ModSz (fnMo fns)) (hq:modF (thenM prog (evT prog f28 signs R.length (R.flatMap tkC) 2000 100))=some (fns.flatMap fnC)) :
  Calls prog 19 #[.string s] w fun e w'=>e=.returned (.tuple #[.string (packS (fnMo fns)),iA 0,iA (packE (fnMo fns))])∧Fr [] w w':=by
 cases he:evT prog f28 signs R.length (R.flatMap tkC) 2000 100 with
 | none=>rw[he] at hq;cases hq
 | some q=>
  have hS:=syntax_any ht (by decide) (by omega) hR hn he;rw[he] at hq;obtain⟨qv,qh⟩:=q;unfold thenM at hq;split at hq
  ·rename_i vs h0 e0
   cases e0;unfold thenT at hq;split at hq
   ·rename_i cs p' e' hvs
    cases hb:(sl4 cs && ieq p' 0 && ieq e' 0) with
    | false=>rw[hb] at hq;cases hq
    | true=>
     rw[hb] at hq;simp only[cond_true] at hq;simp only[Bool.and_eq_true,ieq_eq,decide_eq_true_eq] at hb;obtain⟨⟨hb,rfl⟩,rfl⟩:=hb;have g1:¬ (1000:Int)<s.size:=by omega
     have HQ:Hid _:=hq;clear he hR hq;go_enter func19,ntmps19;go_wp2_with fail;refine hS.mono ?_;rintro e w1 ⟨v',m,rfl,L⟩;obtain⟨a,b,c,rfl,s1,s2,s3⟩:=tup3 hvs L.val;obtain rfl:=S2.int' s2;obtain rfl:=S2.int' s3;obtain⟨o1,n1,c1,o2,n2,c2,o3,n3,c3,o4,n4,c4,rfl⟩:=agg4 hb s1;have F1:Fr [] w w1:=⟨L.kept.os,L.kept.tape,L.kept.output,L.kept.size,fun k hk _=>L.kept.blk k hk⟩;have F2:Fr [] w1 (w1.alloc (.cells #[.slice o1 n1 c1,.slice o2 n2 c2,.slice o3 n3 c3,.slice o4 n4 c4] 63)):=(Fr.refl [] w1).alloc _;obtain⟨W2,hW2⟩:=eXi (w1.alloc (.cells #[.slice o1 n1 c1,.slice o2 n2 c2,.slice o3 n3 c3,.slice o4 n4 c4] 63));rw[hW2] at F2;have HM:Hid (Calls prog 30 #[.agg #[.slice o1 n1 c1,.slice o2 n2 c2,.slice o3 n3 c3,.slice o4 n4 c4]] W2 fun e w'=>∃ u,e=.returned (.agg #[.slice none 0 0,.slice none 0 0,iA ((0:Nat):Int),iA ((0:Nat):Int),u])∧FnsIn w' u fns∧Fr [] w w'):=by
      have hq:=HQ.out;unfold modF at hq;split at hq
      ·rename_i us h2 hev
       unfold modT at hq;split at hq
       ·rename_i v hus
        obtain⟨R2,-⟩:=L.rel.grow (kept_of F2);have:=(evF_ok mixed 2000 (codeX_ok h163) 100 30 [.agg cs] qh (.agg us,h2) hev).2 m W2 #[.agg #[.slice o1 n1 c1,.slice o2 n2 c2,.slice o3 n3 c3,.slice o4 n4 c4]] R2 (.cons s1.s3 .nil);refine Calls.mono this fun e w' hh=>?_;cases e with
        | returned v'=>
         obtain⟨m',R',E',S'⟩:=hh;obtain⟨u,rfl,su⟩:=agg5 hus S';refine⟨u,rfl,fns_of R' su hq,⟨E'.os.trans (F2.os.trans F1.os),E'.tape.trans (F2.tape.trans F1.tape),E'.output.trans (F2.output.trans F1.output),Nat.le_trans F1.size (Nat.le_trans F2.size E'.size),fun k hk _=>?_⟩⟩;have hk1:k<w1.heap.size:=Nll hk F1.size;rw[E'.blk k (Nll hk1 F2.size) (fun r x hx hxb=>?_),F2.block k hk1 (by simp),F1.block k hk (by simp)];rcases Nat.lt_or_ge r 3 with c | c
         ·exact L.tab r c
         have:=(L.own r x c hx).1;omega
        | _=>exact hh.elim
       cases hq
      cases hq
     clear L s1 s2 s3 hS HQ hvs hb;have c0:W2.cell? (Ad w1.heap.size 0)=some (.slice o1 n1 c1):=by rw[← hW2];unfold World.cell?;rw[wan];rfl
     have d1:W2.cell? (Ad w1.heap.size 1)=some (.slice o2 n2 c2):=by rw[← hW2];unfold World.cell?;rw[wan];rfl
     have d2:W2.cell? (Ad w1.heap.size 2)=some (.slice o3 n3 c3):=by rw[← hW2];unfold World.cell?;rw[wan];rfl
     have d3:W2.cell? (Ad w1.heap.size 3)=some (.slice o4 n4 c4):=by rw[← hW2];unfold World.cell?;rw[wan];rfl
     clear F1 F2;go_wp2_with fail;refine Calls.mono HM.out ?_;rintro e w3 ⟨u,rfl,hF,F3⟩;have hP:=packM_any (.agg #[.slice none 0 0,.slice none 0 0,iA ((0:Nat):Int),iA ((0:Nat):Int),u]) (fnMo fns) w3 ⟨_,_,_,rfl,⟨none,0,0,0,rfl,Nat.le_refl _,by simp[fnMo],by simp[fnMo]⟩,⟨none,0,0,0,rfl,Nat.le_refl _,by simp[fnMo],by simp[fnMo]⟩,hF⟩ hz rfl trivial;have HF:Hid _:=F3;clear HM c0 d1 d2 d3 hW2 hF F3;go_wp2_with fail;refine hP.mono ?_;rintro e w4 ⟨rfl,F4⟩;clear hP;go_wp2;go_ret3;exact⟨rfl,HF.out.trans F4⟩
   cases hq
  cases hq
end Tok
open Go.RowKit
open Wire
namespace Tok
open Ev (signs)
def noneOf (c d:UInt8):List (LB)→Bool
 | []=>true
 | t :: l=>(match t with
  | [x]=>x != c
  | [x,y]=>x != c || y != d
  | _=>false) && noneOf c d l
theorem noneOf_at {c d:UInt8}{l:LB}:∀ {ts:List (LB)},noneOf c d ts=true→∀ t ∈ ts,Lib.hasPrefix (c :: d :: l) t=false
 | [],_,t,ht=>by cases ht
 | u :: ts,h,t,ht=>by
  simp only[noneOf,Bool.and_eq_true] at h
  rcases List.mem_cons.1 ht with rfl | ht
  ·match t,h.1 with
   | [x],h=>
    have:x≠c:=by simpa using h
    simp[Lib.hasPrefix,List.isPrefixOf,this]
   | [x,y],h=>
    have:x≠c∨y≠d:=by simpa using h
    rcases this with e | e
    ·simp[Lib.hasPrefix,List.isPrefixOf,e]
    ·simp[Lib.hasPrefix,List.isPrefixOf,e]
  ·exact noneOf_at h.2 t ht
theorem signAt_of {c d:UInt8}{l:LB} (k:Nat) (hk:signs[k]?=some ⟨#[c]⟩) (h:noneOf c d ((signs.take k).map fun t=>t.data.toList)=true):SignAt signs ([c]++(d :: l)) ⟨[c].toArray⟩:=
 ⟨⟨k,hk,by simp[Lib.hasPrefix,List.isPrefixOf],fun j t hj ht=>noneOf_at h _ (List.mem_map_of_mem (f:=fun t:BA=>t.data.toList) (List.mem_of_getElem? (i:=j) (by rw[List.getElem?_take_of_lt hj];exact ht)))⟩,by simp[ByteArray.size]⟩
end Tok
open Go.RowKit
open Wire
namespace Tok
open Ev (signs)
def sg (c:UInt8) (p:Nat):Tk:=⟨⟨[c].toArray⟩,p,0,⟨#[]⟩⟩
def wd (l:LB) (p:Nat):Tk:=⟨⟨l.toArray⟩,p,0,⟨#[]⟩⟩
def nm (n p:Nat):Tk:=⟨numeralK,p,n,⟨#[]⟩⟩
theorem head_rds {s:BA}{c1:UInt8}{t:LB}{R:List Tk} (h:Rest s 0 ([66,69,71,73,78,32,123,32,112,114,105,110,116,32,40]++(c1 :: t)))
  (hr:Rest s 15 (c1 :: t)→Rds signs s 15 [wd [66,69,71,73,78] 0,sg 123 6,wd [112,114,105,110,116] 8,sg 40 14] R):Rds signs s 0 [] R:=by
 refine rd_word (p:=[]) (c:=66) (w:=[69,71,73,78]) (l:=[32,123,32,112,114,105,110,116,32,40]++(c1 :: t)) h rfl rfl rfl rfl word_BEGIN fun h=>?_;refine rd_sign (p:=[32]) (c:=123) (w:=[]) (l:=[32,112,114,105,110,116,32,40]++(c1 :: t)) h rfl rfl (.inl (by decide)) (signAt_of 29 rfl rfl) fun h=>?_;refine rd_word (p:=[32]) (c:=112) (w:=[114,105,110,116]) (l:=[32,40]++(c1 :: t)) h rfl rfl rfl rfl word_print fun h=>?_;refine rd_sign (p:=[32]) (c:=40) (w:=[]) (l:=c1 :: t) h rfl rfl (.inl (by decide)) (signAt_of 25 rfl rfl) fun h=>?_;exact hr h
theorem minus_at {c:UInt8}{t:LB} (hc:isDg (c.toNat:Int)=true):SignAt signs ([45]++(c :: t)) ⟨[45].toArray⟩:=by
 have:c≠61:=fun e=>by subst e;exact absurd hc (by decide)
 have h61:((61:UInt8)!=c)=true:=by simpa using Ne.symm this
 refine signAt_of 13 rfl ?_;show (_ && _)=true;simp[noneOf,h61,signs,Ne.symm this]
def numT (neg:Bool) (a n:Nat):List Tk:=cond neg [sg 45 a,nm n (a+1)] [nm n a]
def numB (neg:Bool) (l:LB):LB:=cond neg (45 :: l) l
theorem num_rds {s:BA}{a:Nat}{neg:Bool}{c:UInt8}{w t:LB}{L R:List Tk} (h:Rest s a (numB neg (c :: w)++(41 :: t))) (hw:(c :: w).all (fun c=>isDg (c.toNat:Int))=true) (hv:numL (c :: w)≤1000000000)
  (hr:Rest s (a+(numB neg (c :: w)).length) (41 :: t)→Rds signs s (a+(numB neg (c :: w)).length) (L++numT neg a (numL (c :: w))) R):Rds signs s a L R:=by
 cases neg with
 | false=>exact rd_num (p:=[]) (c:=c) (w:=w) (l:=41 :: t) h rfl hw rfl hv hr
 | true=>
  refine rd_sign (p:=[]) (c:=45) (w:=[]) (l:=(c :: w)++(41 :: t)) h rfl rfl (.inl (by decide)) (minus_at (List.all_eq_true.1 hw c (by simp))) fun h=>?_;refine rd_num (p:=[]) (c:=c) (w:=w) (l:=41 :: t) h rfl hw rfl hv fun h=>?_;have e:a+([]:LB).length + [(45:UInt8)].length+([]:LB).length+(c :: w).length=a+(numB true (c :: w)).length:=by simp[numB];omega
  rw[e] at h ⊢;have:=hr h;rw[List.append_assoc];exact this
theorem bad_rds {s:BA}{a:Nat}{neg:Bool}{c:UInt8}{w t:LB}{L:List Tk} (h:Rest s a (numB neg (c :: w)++(41 :: t))) (hw:(c :: w).all (fun c=>isDg (c.toNat:Int))=true) (hv:¬ numL (c :: w)≤1000000000) :
  Rds signs s a L (L++cond neg [sg 45 a,⟨wrongK,a+1,0,⟨#[]⟩⟩] [⟨wrongK,a,0,⟨#[]⟩⟩]):=by
 cases neg with
 | false=>exact rd_bad (p:=[]) (c:=c) (w:=w) (l:=41 :: t) h rfl hw rfl hv
 | true=>
  refine rd_sign (p:=[]) (c:=45) (w:=[]) (l:=(c :: w)++(41 :: t)) h rfl rfl (.inl (by decide)) (minus_at (List.all_eq_true.1 hw c (by simp))) fun h=>?_;have:=rd_bad (ss:=signs) (L:=L++[sg 45 a]) (p:=[]) (c:=c) (w:=w) (l:=41 :: t) h rfl hw rfl hv;rw[List.append_assoc] at this;exact this
def opK:List (UInt8 × Nat):=[(43,12),(45,13),(42,14),(47,15),(37,16),(60,18)]
theorem op_at {g:UInt8}(hg:g ∈ opK.map (·.1)){t:LB}:SignAt signs ([g]++(32 :: t)) ⟨[g].toArray⟩∧signC g=true:=by
 simp only[opK,List.map_cons,List.map_nil,List.mem_cons,List.not_mem_nil,or_false] at hg;rcases hg with rfl | rfl | rfl | rfl | rfl | rfl
 ·exact⟨signAt_of 12 rfl rfl,rfl⟩
 ·exact⟨signAt_of 13 rfl rfl,rfl⟩
 ·exact⟨signAt_of 14 rfl rfl,rfl⟩
 ·exact⟨signAt_of 15 rfl rfl,rfl⟩
 ·exact⟨signAt_of 16 rfl rfl,rfl⟩
 exact⟨signAt_of 18 rfl rfl,rfl⟩
theorem mid_rds {s:BA}{a:Nat}{g c2:UInt8}{t:LB}{L R:List Tk} (hg:g ∈ opK.map (·.1)) (h:Rest s a ([41,32,g,32,40]++(c2 :: t)))
  (hr:Rest s (a+5) (c2 :: t)→Rds signs s (a+5) (L++[sg 41 a,sg g (a+2),sg 40 (a+4)]) R):Rds signs s a L R:=by
 obtain⟨h1,h2⟩:=op_at hg (t:=40 :: c2 :: t);refine rd_sign (p:=[]) (c:=41) (w:=[]) (l:=[32,g,32,40]++(c2 :: t)) h rfl rfl (.inl (by decide)) (signAt_of 26 rfl rfl) fun h=>?_;refine rd_sign (p:=[32]) (c:=g) (w:=[]) (l:=[32,40]++(c2 :: t)) h rfl h2 (.inr ⟨L,a,0,⟨#[]⟩,rfl⟩) h1 fun h=>?_;refine rd_sign (p:=[32]) (c:=40) (w:=[]) (l:=c2 :: t) h rfl rfl (.inl (by decide)) (signAt_of 25 rfl rfl) fun h=>?_;rw[List.append_assoc,List.append_assoc];exact hr h
theorem last_at:SignAt signs ([125]++[]) ⟨[125].toArray⟩:=by
 have key:(signs.take 30).all (fun t=>!Lib.hasPrefix [125] t.data.toList)=true:=rfl;exact⟨⟨30,rfl,rfl,fun j t hj ht=>by
  have:=List.all_eq_true.1 key t (List.mem_of_getElem? (i:=j) (by rw[List.getElem?_take_of_lt hj];exact ht));simpa using this⟩,by simp[ByteArray.size]⟩
theorem tail_rds {s:BA}{a:Nat}{L:List Tk} (h:Rest s a [41,59,32,125]):Rds signs s a L (L++[sg 41 a,sg 59 (a+1),sg 125 (a+3),⟨endK,a+4,0,⟨#[]⟩⟩]):=by
 refine rd_sign (p:=[]) (c:=41) (w:=[]) (l:=[59,32,125]) h rfl rfl (.inl (by decide)) (signAt_of 26 rfl rfl) fun h=>?_;refine rd_sign (p:=[]) (c:=59) (w:=[]) (l:=[32,125]) h rfl rfl (.inl (by decide)) (signAt_of 32 rfl rfl) fun h=>?_;refine rd_sign (p:=[32]) (c:=125) (w:=[]) (l:=[]) h rfl rfl (.inl (by decide)) last_at fun h=>?_;have e:L++[sg 41 a,sg 59 (a+1),sg 125 (a+3),⟨endK,a+4,0,⟨#[]⟩⟩]=(((L++[sg 41 a])++[sg 59 (a+1)])++[sg 125 (a+3)])++[⟨endK,a+4,0,⟨#[]⟩⟩]:=by simp
 rw[e];exact rd_end (p:=[]) h rfl
def headB:LB:=[66,69,71,73,78,32,123,32,112,114,105,110,116,32,40]
def headT:List Tk:=[wd [66,69,71,73,78] 0,sg 123 6,wd [112,114,105,110,116] 8,sg 40 14]
def sumB (g:UInt8) (x y:LB):LB:=headB++(x++([41,32,g,32,40]++(y++[41,59,32,125])))
theorem numB_cons (neg:Bool)(c:UInt8)(w z:LB):∃ d t,numB neg (c :: w)++z=d :: t:=by
 cases neg
 ·exact⟨c,w++z,rfl⟩
 exact⟨45,(c :: w)++z,rfl⟩
section
variable {g c1 c2:UInt8}{w1 w2:LB}{n1 n2:Bool}
theorem sum_rds (hg:g ∈ opK.map (·.1))(h1:(c1 :: w1).all (fun c=>isDg (c.toNat:Int))=true)(h2:(c2 :: w2).all (fun c=>isDg (c.toNat:Int))=true)(v1:numL (c1 :: w1)≤1000000000)(v2:numL (c2 :: w2)≤1000000000) :
  ∃ a b c d,Rds signs ⟨(sumB g (numB n1 (c1 :: w1)) (numB n2 (c2 :: w2))).toArray⟩ 0 [] (headT++numT n1 15 (numL (c1 :: w1))++[sg 41 a,sg g (a+2),sg 40 (a+4)]++numT n2 b (numL (c2 :: w2))++[sg 41 c,sg 59 (c+1),sg 125 (c+3),⟨endK,d,0,⟨#[]⟩⟩]):=by
 refine⟨15+(numB n1 (c1 :: w1)).length,15+(numB n1 (c1 :: w1)).length+5,15+(numB n1 (c1 :: w1)).length+5+(numB n2 (c2 :: w2)).length,15+(numB n1 (c1 :: w1)).length+5+(numB n2 (c2 :: w2)).length+4,?_⟩;have h0:=Rest.start (sumB g (numB n1 (c1 :: w1)) (numB n2 (c2 :: w2)));generalize (⟨(sumB g (numB n1 (c1 :: w1)) (numB n2 (c2 :: w2))).toArray⟩:BA)=S at h0 ⊢;unfold sumB at h0;obtain⟨d1,t1,e1⟩:=numB_cons n1 c1 w1 ([41,32,g,32,40]++(numB n2 (c2 :: w2)++[41,59,32,125]));obtain⟨d2,t2,e2⟩:=numB_cons n2 c2 w2 [41,59,32,125];have h0':=h0;rw[e1] at h0';refine head_rds h0' fun h=>?_;rw[← e1] at h;have h:Rest S 15 (numB n1 (c1 :: w1)++(41 :: ([32,g,32,40]++(numB n2 (c2 :: w2)++[41,59,32,125])))):=⟨h.le,h.is⟩;refine num_rds (neg:=n1) (c:=c1) (w:=w1) (t:=[32,g,32,40]++(numB n2 (c2 :: w2)++[41,59,32,125])) h h1 v1 fun h=>?_;have h':Rest _ _ ([41,32,g,32,40]++(numB n2 (c2 :: w2)++[41,59,32,125])):=h;rw[e2] at h';refine mid_rds hg h' fun h=>?_;rw[← e2] at h;refine num_rds (neg:=n2) (c:=c2) (w:=w2) (t:=[59,32,125]) h h2 v2 fun h=>?_;exact tail_rds h
end
end Tok
open Go.RowKit
open Wire
namespace Tok
open Ev
def sumT (g:UInt8) (s1 s2:Bool) (n1 n2 a b c d:Nat):List Tk:=headT++numT s1 15 n1++[sg 41 a,sg g (a+2),sg 40 (a+4)]++numT s2 b n2++[sg 41 c,sg 59 (c+1),sg 125 (c+3),⟨endK,d,0,⟨#[]⟩⟩]
def opN (g:UInt8):Nat:=cond (g==43) 18 (cond (g==45) 19 (cond (g==42) 20 (cond (g==47) 21 (cond (g==37) 22 29))))
def negL (s:Bool):List Ln:=cond s [(23,[])] []
def sumL (g:UInt8) (s1 s2:Bool) (z1 z2:Int):List Ln:=[(0,[z1])]++negL s1++[(0,[z2])]++negL s2++[(opN g,[]),(27,[]),(44,[1]),(52,[])]
def lnsC (L:List Ln):BA:=⟨(L.flatMap lnB).toArray⟩
def endF:Wire.Fn:=⟨0,0,lnsC [(52,[])]⟩
def sumFs (g:UInt8) (s1 s2:Bool) (n1 n2:Nat):List Wire.Fn:=[⟨0,0,lnsC (sumL g s1 s2 (wr .i64 (2*(n1:Int))) (wr .i64 (2*(n2:Int))))⟩,endF,endF]
def sumM (P:Program) (fn:Func) (g:UInt8) (s1 s2:Bool) (n1 n2 a b c d:Nat):Option (LV):=modF (thenM P (evT P fn signs (sumT g s1 s2 n1 n2 a b c d).length ((sumT g s1 s2 n1 n2 a b c d).flatMap tkC) 2000 100))
def SumIs (g:UInt8):Prop:=∀ (s1 s2:Bool) (n1 n2 a b c d:Nat),sumM prog f28 g s1 s2 n1 n2 a b c d=some ((sumFs g s1 s2 n1 n2).flatMap fnC)
end Tok
open Go.RowKit
open Wire Flow
namespace Tok
def stpOf (i:Nat) (x:Ln):Stp:=⟨i,i+(lnB x).length,x.1,(x.2.headD 0).toNat,0⟩
def stpsF:Nat→List Ln→List Stp
 | _,[]=>[]
 | i,x :: L=>stpOf i x :: stpsF (i+(lnB x).length) L
def Fit (m:Mo) (f locs:Nat) (x:Ln):Prop:=mayOp f x.1=true∧x.1≠38∧((sortsT.getD x.1 0=0∧x.2=[])∨(sortsT.getD x.1 0≠0∧∃ n:Nat,x.2=[(n:Int)]∧fitN m locs (sortsT.getD x.1 0) n=true∧n<34359738368))
theorem op_of {m:Mo}{f locs:Nat}{x:Ln} (h:Fit m f locs x):(UInt8.ofNat x.1).toNat=x.1:=by
 have:=mayOp_lt h.1;simp[UInt8.toNat_ofNat];omega
theorem line_decode {m:Mo}{f locs:Nat}{c:LB}{i:Nat}{x:Ln}{r:LB} (hi:i<c.length) (hc:c.drop i=lnB x++r) (h:Fit m f locs x):decodeL m f locs c i=.inr (stpOf i x):=by
 have hop:=op_of h;have h0:c.getD i 0=UInt8.ofNat x.1:=by
  have:(c.drop i)[0]?=some (UInt8.ofNat x.1):=by rw[hc];rfl
  rw[List.getElem?_drop,Nat.add_zero] at this;rw[List.getD_eq_getElem?_getD,this];rfl
 obtain⟨h1,h38,h2⟩:=h;unfold decodeL;rw[h0,hop,if_pos h1];rcases h2 with ⟨h2,h3⟩ | ⟨h2,n,h3,h4,h5⟩
 ·rw[if_pos h2];obtain⟨op,os⟩:=x;simp only at h3;subst h3;simp[stpOf,lnB]
 rw[if_neg h2];have hd:c.drop (i+1)=digs n++r:=by
  rw[← List.drop_drop,hc];obtain⟨op,os⟩:=x;simp only at h3;subst h3;simp[lnB,dgI_nat]
 have hl:(c.drop (i+1)).length=(digs n++r).length:=by rw[hd]
 rw[List.length_drop,Lla] at hl;have hlb:(lnB x).length=1+(digs n).length:=by
  obtain⟨op,os⟩:=x;simp only at h3;subst h3;simp[lnB,dgI_nat];omega
 have e:operandL m locs c (sortsT.getD x.1 0) (i+1)=some (n,i+(lnB x).length):=by
  unfold operandL;rw[hd,num_digs h5];simp only[h4,if_true,Option.some.injEq,Prod.mk.injEq,true_and];omega
 rw[e];simp only[if_neg h38];obtain⟨op,os⟩:=x;simp only at h3;subst h3;simp[stpOf]
theorem chain_lines {m:Mo}{f locs:Nat}{c:LB}:∀ (L:List Ln) (i:Nat),(∀ x ∈ L,Fit m f locs x)→i≤c.length→c.drop i=L.flatMap lnB→Chain m f locs c i (stpsF i L) c.length
 | [],i,_,hi,hc=>by
  have:(c.drop i).length=0:=by rw[hc];rfl
  rw[List.length_drop] at this
  show i=c.length
  omega
 | x :: L,i,h,hi,hc=>by
  rw[List.flatMap_cons] at hc
  have hl:(c.drop i).length=(lnB x++L.flatMap lnB).length:=by rw[hc]
  rw[List.length_drop,Lla] at hl
  have hx:0<(lnB x).length:=by simp[lnB]
  have hi':i<c.length:=by omega
  refine⟨hi',line_decode hi' hc (h x (by simp)),chain_lines L _ (fun y hy=>h y (by simp[hy])) ?_ ?_⟩
  ·show i+(lnB x).length≤c.length
   omega
  ·show c.drop (i+(lnB x).length)=_
   rw[← List.drop_drop,hc,List.drop_left]
def NoFar (L:List Ln):Prop:=∀ x ∈ L,far x.1=false
theorem badJump_none (l:List Stp):∀ (L:List Ln) (i:Nat),NoFar L→badJump l (stpsF i L)=none
 | [],_,_=>rfl
 | x :: L,i,h=>by
  have:=h x (by simp)
  simp only[stpsF,badJump]
  rw[if_neg (by simp[stpOf,this])]
  exact badJump_none l L _ fun y hy=>h y (by simp[hy])
theorem stps_len:∀ (L:List Ln)(i:Nat),(stpsF i L).length=L.length
 | [],_=>rfl
 | x :: L,i=>by simp[stpsF,stps_len L]
theorem fnOk_lines {m:Mo}{f:Nat}{L:List Ln}{p q:Int} (hf:m.fns[f]?=some ⟨p,q,lnsC L⟩) (hL:∀ x ∈ L,Fit m f q.toNat x) (hn:NoFar L) {G:List (Option (LB))} (h0:firstB G=true) (hG:eachB (Mach.parOf m) (stpsF 0 L) G 0 (stpsF 0 L) G=true) :
  Reads m f (Mach.locsOf m f) (Mach.codeOf m f) (stpsF 0 L)∧badJump (stpsF 0 L) (stpsF 0 L)=none∧Flow.Safe (Mach.parOf m) (stpsF 0 L):=by
 have e:Mach.fnOf m f=⟨p,q,lnsC L⟩:=by unfold Mach.fnOf;rw[List.getD_eq_getElem?_getD,hf];rfl
 have e2:Mach.codeOf m f=L.flatMap lnB:=by unfold Mach.codeOf;rw[e];simp[lnsC,bl]
 refine⟨?_,badJump_none _ _ _ hn,G,sol_of h0 hG⟩;unfold Mach.locsOf;rw[e2,e];exact chain_lines L 0 hL (Nat.zero_le _) rfl
end Tok
open Go.RowKit
open Wire Flow
namespace Ev
theorem Rel.plusDead {P:Program}{G:Nat}{m:Mp}{h:AH}{w:WL} (R:Rel P G m h w) (hn:h.n<4096):Rel P G (m.put h.n none) (h.new AO.dead) w∧∀ r x,m r=some x→(m.put h.n none) r=some x:=by
 have hno:=R.none_at (Nat.le_refl h.n);have hle:=Mp.put_le none hno;have hold:∀ r x,m r=some x→(m.put h.n none) r=some x:=fun r x e=>by
  rw[Mp.put_off m _ (fun q=>by rw[q,hno] at e;cases e)];exact e
 have hget:∀ r,r<h.n→(h.new AO.dead).get r=h.get r:=fun r hr=>by rw[AH.get_new hn,if_neg (by omega)]
 refine⟨⟨by rw[AH.new_n];omega,fun q y e=>?_,fun q e=>?_,fun q q' y y' e e' eb=>?_,fun g hg=>?_,fun r hr=>by rw[AH.new_n] at hr;rw[AH.get_new hn,if_neg (by omega)];exact R.top r (by omega)⟩,hold⟩
 ·by_cases c:q=h.n
  ·subst c;rw[Mp.put_same] at e;cases e
  rw[Mp.put_off m _ c] at e;obtain⟨h1,h2,q',h3,h4⟩:=R.row q y e;exact⟨by rw[AH.new_n];omega,h2,q',by rw[hget q h1];exact h3,h4.mono hle rfl⟩
 ·by_cases c:q=h.n
  ·subst c;exact⟨by rw[AH.new_n];omega,fun u hu=>by rw[AH.get_new hn,if_pos rfl] at hu;cases hu;rfl⟩
  rw[Mp.put_off m _ c] at e;obtain⟨h1,h2⟩:=R.dead q e;exact⟨by rw[AH.new_n];omega,fun u hu=>h2 u (by rw[← hget q h1];exact hu)⟩
 ·have f:∀ q y,(m.put h.n none) q=some (some y)→m q=some (some y):=fun q y e=>by
   by_cases c:q=h.n
   ·subst c;rw[Mp.put_same] at e;cases e
   rw[Mp.put_off m _ c] at e;exact e
  exact R.inj q q' y y' (f q y e) (f q' y' e') eb
 obtain⟨y,h1,h2,h3⟩:=R.glo g hg;exact⟨y,hold g _ h1,h2,h3⟩
end Ev
namespace Tok
open Ev
def hC (ss:LY) (F I:LV):AH:=(((hs0 ss).new (tb F)).new (tb I)).new AO.dead
def insV (l:List Stp) (T:LN):LV:=(l.zip T).flatMap insC
def couldE (P:Program) (ss:LY) (F I:LV) (nf nl g a nt:Nat) (o1 o2:OA) (c1 c2:Nat):Option (Value × AH):=
 evF P 2 2000 (bothX 58 328) 100 109 [.agg #[.slice o1 nt c1,.slice o2 0 c2,.int .i64 (g:Nat),.int .i64 (a:Nat),.slice (some ⟨3,0,none⟩) nf nf],.slice (some ⟨4,0,none⟩) nl nl] (hC ss F I)
def isF:Option (Value × AH)→Bool
 | some (.bool false,_)=>true
 | _=>false
def BothOk:Prop:=∀ f args h r,bothX 58 328 f args h=some (some r)→(∃ fn,entered prog f=some fn)∧∀ m w args',Rel prog 2 m h w→L2 (S3 m) args args'.toList→Calls prog f args' w fun
  | .returned v',w'=>Wrote prog 2 m h w r v' w'
  | _,_=>False
def AnySl (v:Value) (n:Nat):Prop:=v=.slice none n 0∨∃ (b:Addr) (c:Nat),v=.slice (some b) n c∧b.spot=none
theorem anySl {m:Mp}{v:Value}{n:Nat} (h:AnySl v n) (hm:m 5=some none):∃ o c,S1 m (.slice o n c) v:=by
 rcases h with rfl | ⟨b,c,rfl,hb⟩
 ·exact⟨none,0,.inl ⟨rfl,rfl⟩⟩
 exact⟨some (Ad 5 0),c,.inl ⟨rfl,Nat.le_refl _,id,rfl,hb,.inl hm⟩⟩
theorem could_of (HB:BothOk){W0 w1 w2:WL}(ht:TabS signs W0)(K1:Kept W0 w1)(K2:Kept w1 w2){F I:LV}{gF cF nf gI cI nl g a nt:Nat} (hF1:W0.heap.size≤gF) (hF2:gF<w1.heap.size) (hFc:∀ i v,F[i]?=some v→w1.cell? (Ad gF i)=some v) (hFp:F.all plainV=true) (hnf:0<nf) (hcf:nf≤cF)
  (hI1:w1.heap.size≤gI) (hI2:gI<w2.heap.size) (hIc:∀ i v,I[i]?=some v→w2.cell? (Ad gI i)=some v) (hIp:I.all plainV=true) (hnl:0<nl) (hcl:nl≤cI) (hg:g≤100000) (ha:a≤100000) {tv pv:Value} (htv:AnySl tv nt) (hpv:AnySl pv 0)
  (he:∀ o1 o2 c1 c2,isF (couldE prog signs F I nf nl g a nt o1 o2 c1 c2)=true) :
  Calls prog 109 #[.agg #[tv,pv,iA (g:Nat),iA (a:Nat),.slice (some (Ad gF 0)) nf cF],.slice (some (Ad gI 0)) nl cI] w2 fun e w'=>e=.returned (.bool false)∧Fr [] w2 w':=by
 obtain⟨B,o,c,h1,h2,h3,h4,h5,h6⟩:=ht;have R0:Rel prog 2 (Ev.ms0 B o (o+c)) (hs0 signs) W0:=rel0 h1 h2 h3 h4 h5 h6;have n0:(hs0 signs).n=3:=by simp only[hs0,AH.set_n];rfl
 obtain⟨R1,E1⟩:=R0.plus (w':=w1) (by rw[n0];omega) K1 (o:=tb F) (x:=⟨gF,0,cF*3,3⟩) hF1 rfl hF2 (fun m' hm=>.inr (.inr ⟨rfl,fun i v hv=>⟨v,hFc i v hv,plain_s1 (List.all_eq_true.1 hFp v (List.mem_of_getElem? hv))⟩⟩));rw[n0] at R1 E1;have n1:((hs0 signs).new (tb F)).n=4:=by rw[AH.new_n,n0]
 obtain⟨R2,E2⟩:=R1.plus (w':=w2) (by rw[n1];omega) K2 (o:=tb I) (x:=⟨gI,0,cI*5,5⟩) hI1 rfl hI2 (fun m' hm=>.inr (.inr ⟨rfl,fun i v hv=>⟨v,hIc i v hv,plain_s1 (List.all_eq_true.1 hIp v (List.mem_of_getElem? hv))⟩⟩));rw[n1] at R2 E2;have n2:(((hs0 signs).new (tb F)).new (tb I)).n=5:=by rw[AH.new_n,n1]
 obtain⟨R3,hold⟩:=R2.plusDead (by rw[n2];omega);rw[n2] at R3 hold;obtain⟨m,hm⟩:=eXi (Mp.put (Mp.put (Mp.put (Ev.ms0 B o (o+c)) 3 (some ⟨gF,0,cF*3,3⟩)) 4 (some ⟨gI,0,cI*5,5⟩)) 5 none);rw[hm] at R3 hold;have m5:m 5=some none:=by rw[← hm];exact Mp.put_same _ _ _
 have m4:m 4=some (some ⟨gI,0,cI*5,5⟩):=hold 4 _ (by simp[Mp.put]);have m3:m 3=some (some ⟨gF,0,cF*3,3⟩):=hold 3 _ (by simp[Mp.put]);have hall:∀ r x,m r=some (some x)→∃ q,(hC signs F I).get r=some q∧q.k=3:=by
  intro r x hx;have hr:=(R3.row r x hx).1;rw[AH.new_n,n2] at hr;have gg:∀ r,r<3→(hC signs F I).get r=(hs0 signs).get r:=fun r hr=>by
   unfold hC;rw[AH.get_new (by rw[n2];omega),if_neg (by rw[n2];omega),AH.get_new (by rw[n1];omega),if_neg (by rw[n1];omega),AH.get_new (by rw[n0];omega),if_neg (by rw[n0];omega)]
  rcases (show r=0∨r=1∨r=2∨r=3∨r=4∨r=5 by omega) with rfl | rfl | rfl | rfl | rfl | rfl
  ·rw[gg 0 (by omega),hs0_get];exact⟨_,rfl,rfl⟩
  ·rw[gg 1 (by omega),hs0_get];exact⟨_,rfl,rfl⟩
  ·rw[gg 2 (by omega),hs0_get];exact⟨_,rfl,rfl⟩
  ·refine⟨tb F,?_,rfl⟩;unfold hC;rw[AH.get_new (by rw[n2];omega),if_neg (by rw[n2];omega),AH.get_new (by rw[n1];omega),if_neg (by rw[n1];omega),AH.get_new (by rw[n0];omega),if_pos n0.symm]
  ·refine⟨tb I,?_,rfl⟩;unfold hC;rw[AH.get_new (by rw[n2];omega),if_neg (by rw[n2];omega),AH.get_new (by rw[n1];omega),if_pos n1.symm]
  rw[m5] at hx;cases hx
 obtain⟨o1,c1,s1⟩:=anySl htv m5;obtain⟨o2,c2,s2⟩:=anySl hpv m5;have h:=he o1 o2 c1 c2;cases hq:couldE prog signs F I nf nl g a nt o1 o2 c1 c2 with
 | none=>rw[hq] at h;cases h
 | some r=>
  rw[hq] at h;obtain⟨v,q⟩:=r;unfold isF at h;split at h
  ·rename_i q' e
   cases e;have hargs:L2 (S3 m) [Value.agg #[.slice o1 nt c1,.slice o2 0 c2,iA (g:Nat),iA (a:Nat),.slice (some (Ad 3 0)) nf nf],.slice (some (Ad 4 0)) nl nl] [Value.agg #[tv,pv,iA (g:Nat),iA (a:Nat),.slice (some (Ad gF 0)) nf cF],.slice (some (Ad gI 0)) nl cI]:=by
    refine .cons (.inl (.inr ⟨_,_,rfl,rfl,?_⟩)) (.cons (S0.s3 ?_) .nil)
    ·refine .cons s1 (.cons s2 (.cons (.inl (s0_int _ _ fun _=>by omega)) (.cons (.inl (s0_int _ _ fun _=>by omega)) (.cons (.inl ?_) .nil))));exact⟨rfl,hcf,fun q=>by omega,rfl,rfl,.inr ⟨_,m3,rfl,by simp,by simp⟩⟩
    exact⟨rfl,hcl,fun q=>by omega,rfl,rfl,.inr ⟨_,m4,rfl,by simp,by simp⟩⟩
   have:=(evF_ok mixed 2000 HB 100 109 _ (hC signs F I) (.bool false,q) hq).2 m w2 #[.agg #[tv,pv,iA (g:Nat),iA (a:Nat),.slice (some (Ad gF 0)) nf cF],.slice (some (Ad gI 0)) nl cI] R3 hargs;refine Calls.mono this fun e w' hh=>?_;cases e with
   | returned v'=>
    obtain⟨m',R',E',S'⟩:=hh;exact⟨by rw[S'.bool],⟨E'.os,E'.tape,E'.output,E'.size,fun k hk _=>E'.blk k hk fun r x hx _=>hall r x hx⟩⟩
   | _=>exact hh.elim
  cases h
end Tok
open Go.RowKit
open Wire Flow
namespace Tok
open Ev (TabS Kept plainV signs)
theorem read_good {mv:Value}{m:Mo}{w:WL}{f:Nat} (hM:ModIn w mv m) (hMo:MoOk m) (hf:f<m.fns.length) {l:List Stp} (hr:Reads m f (Mach.locsOf m f) (Mach.codeOf m f) l) (hj:badJump l l=none) (hl:0<l.length) :
  Calls prog 60 #[mv,iA f] w fun e w'=>∃ g cap T,e=.returned (.tuple #[.slice (some (Ad g 0)) l.length cap,iA 0,iA 0])∧Fr [] w w'∧w.heap.size≤g∧g<w'.heap.size∧l.length≤cap∧InsM w' g l T∧Joined l T l.length:=by
 obtain⟨x,hx⟩:∃ x,m.fns[f]?=some x:=⟨_,Lge hf⟩;have e1:Mach.fnOf m f=x:=by
  unfold Mach.fnOf;rw[List.getD_eq_getElem?_getD,hx];rfl
 unfold Mach.locsOf Mach.codeOf at hr;rw[e1] at hr;refine (readI_any mv m w f x hM hMo hx).mono ?_;rintro e w' ⟨F,⟨j,y,rfl,hy,-,-,h⟩ | ⟨a0,cap,g,l',T,rfl,hl',hj',hc,hg⟩⟩
 ·rcases h with h | ⟨l',hl',hb,-⟩
  ·exact (reads_not_faulty hr h).elim
  have:=chain_unique hr hl';subst this;rw[hj] at hb;cases hb
 have:=chain_unique hr hl';subst this;obtain⟨rfl,q1,q2,q3,q4⟩:=hg hl;exact⟨g,cap,T,rfl,F,q2,q1,hc,q3,q4⟩
theorem codeM_of {m:Mo}{w:WL}{f g cap:Nat}{l:List Stp}{T:LN} (hr:Reads m f (Mach.locsOf m f) (Mach.codeOf m f) l) (hj:badJump l l=none) (h1:g<w.heap.size) (h2:l.length≤cap) (h3:InsM w g l T) (h4:Joined l T l.length) (hl:(Mach.codeOf m f).length≤20000) (tag:NN) (ht:tag g=9) :
  CodeM m w tag f (.slice (some (Ad g 0)) l.length cap) l:=by
 refine⟨⟨g,cap,T,rfl,h2,h1,ht,⟨h3.len,h3.cell⟩,h4⟩,hr,hj,?_⟩;have:=Chain.le hr (by omega);omega
theorem insV_cell {w:WL}{g:Nat}{l:List Stp}{T:LN} (h:InsM w g l T) {i:Nat}{v:Value} (hv:(insV l T)[i]?=some v):w.cell? (Ad g i)=some v:=by
 have hlen:(l.zip T).length=l.length:=by rw[List.length_zip,h.len];simp
 have hf:∀ p:Stp × Nat,(insC p).length=5:=fun _=>rfl
 have hl5:(insV l T).length=l.length*5:=by
  unfold insV
  rw[List.length_flatMap]
  simp only[hf,List.map_const',List.sum_replicate_nat,hlen]
 have hi:i<l.length*5:=by rw[← hl5];exact (Lgs.1 hv).1
 obtain⟨q,j,hj,rfl⟩:∃ q j,j<5∧i=q*5+j:=⟨i / 5,i % 5,by omega,by omega⟩
 have hq:q<(l.zip T).length:=by rw[hlen];omega
 obtain⟨⟨s,t⟩,hst⟩:∃ p,(l.zip T)[q]?=some p:=⟨_,Lge hq⟩
 obtain⟨hs,ht⟩:=List.getElem?_zip_eq_some.1 hst
 unfold insV at hv
 rw[flat_get (f:=insC) (z:=5) hf hst hj] at hv
 obtain⟨c0,c1,c2,c3,c4⟩:=h.cell q s t hs ht
 match j,hj with
 | 0,_=>cases hv;exact c0
 | 1,_=>cases hv;exact c1
 | 2,_=>cases hv;exact c2
 | 3,_=>cases hv;exact c3
 | 4,_=>cases hv;exact c4
theorem plain_nat {n:Nat}(h:n≤34359738368):plainV (iA (n:Nat))=true:=by
 show Nat.blt n 9223372036854775808=true;rw[Nat.blt_eq];omega
theorem insV_plain {w:WL}{g:Nat}{l:List Stp}{T:LN} (h:InsM w g l T) (hp:∀ s ∈ l,s.pl≤20000):(insV l T).all plainV=true:=by
 rw[List.all_eq_true];intro v hv;obtain⟨⟨s,t⟩,hst,hv⟩:=List.mem_flatMap.1 hv;obtain⟨i,hi⟩:=List.getElem?_of_mem hst;obtain⟨hs,ht⟩:=List.getElem?_zip_eq_some.1 hi;have h1:=hp s (List.mem_of_getElem? hs);have h2:=h.sm t (List.mem_of_getElem? ht);simp only[insC,List.mem_cons,List.not_mem_nil,or_false] at hv;rcases hv with rfl | rfl | rfl | rfl | rfl
 ·rfl
 ·exact plain_nat (by omega)
 ·exact plain_nat (by omega)
 ·exact plain_nat (by omega)
 exact plain_nat (by omega)
def FnGood (m:Mo) (gn an nt k:Nat):Prop:=∃ l,(Reads m k (Mach.locsOf m k) (Mach.codeOf m k) l∧badJump l l=none∧0<l.length∧∀ s ∈ l,opB s.op=true)∧∀ T,T.length=l.length→Joined l T l.length→∀ o1 o2 c1 c2,isF (couldE prog signs (fnsV m) (insV l T) m.fns.length l.length gn an nt o1 o2 c1 c2)=true
theorem check_good (HB:BothOk){m:Mo}{gn an:Nat}{W0 w:WL} (ht:TabS signs W0) (K1:Kept W0 w) (hMo:MoOk m) (hgn:m.globs=(gn:Nat)) (han:m.arrs=(an:Nat)) {a0 a1:OA}{c0 c1 gF cF nt nf:Nat} (hnf:m.fns.length=nf) (hnt:m.texts.length=nt) (htv:StrsIn w (.slice a0 nt c0) m.texts) (hpv:StrsIn w (.slice a1 0 c1) m.pats) (hfv:FnsIn w (.slice (some (Ad gF 0)) nf cF) m.fns)
  (hat:AnySl (.slice a0 nt c0) nt) (hap:AnySl (.slice a1 0 c1) 0) (hF1:W0.heap.size≤gF) (hF2:gF<w.heap.size) (hFc:∀ i v,(fnsV m)[i]?=some v→w.cell? (Ad gF i)=some v) (hFp:(fnsV m).all plainV=true) (h3:3≤nf) (hcF:nf≤cF) (hpl:m.fns.all (fun x=>decide (x.code.size≤20000))=true)
  (hG:∀ k,k<nf→FnGood m gn an nt k) :
  Calls prog 52 #[.agg #[.slice a0 nt c0,.slice a1 0 c1,iA (gn:Nat),iA (an:Nat),.slice (some (Ad gF 0)) nf cF]] w fun e w'=>e=.returned (.tuple #[iA 0,iA 0,iA 0])∧Fr [] w w':=by
 obtain⟨mv,hmv⟩:=eXi (Value.agg #[.slice a0 nt c0,.slice a1 0 c1,iA (gn:Nat),iA (an:Nat),.slice (some (Ad gF 0)) nf cF]);have hM:ModIn w mv m:=⟨_,_,_,by rw[← hmv,hgn,han],htv,hpv,hfv⟩;have hgs:=hMo.g;have has:=hMo.a;have hn1:=hMo.f.n;have HC:Hid (∀ V k,Fr [] w V→k<nf→Calls prog 60 #[mv,iA (k:Nat)] V fun e w'=>∃ g cap n:Nat,e=.returned (.tuple #[.slice (some (Ad g 0)) n cap,iA 0,iA 0])∧Fr [] V w'∧∀ V',Fr [] w' V'→Calls prog 109 #[mv,.slice (some (Ad g 0)) n cap] V' fun e w'=>e=.returned (.bool false)∧Fr [] V' w'):=by
  intro V k F hk;obtain⟨l,⟨q1,q2,q3,-⟩,q4⟩:=hG k hk;refine (read_good (hM.fr F) hMo (by omega) q1 q2 q3).mono ?_;rintro e w' ⟨g,cap,T,rfl,F',z1,z2,z3,z4,z5⟩;refine⟨g,cap,l.length,rfl,F',fun V' FV=>?_⟩;have hsmall:∀ s ∈ l,s.pl≤20000:=fun s hs=>by
   have h1:=Chain.pls q1 s hs;obtain⟨x,hx⟩:∃ x,m.fns[k]?=some x:=⟨_,Lge (by omega)⟩;have h2:=List.all_eq_true.1 hpl x (List.mem_of_getElem? hx);have e1:Mach.fnOf m k=x:=by unfold Mach.fnOf;rw[List.getD_eq_getElem?_getD,hx];rfl
   unfold Mach.codeOf at h1;rw[e1,bl_length] at h1;have:=of_decide_eq_true h2;omega
  have F2:=(F.trans F').trans FV;rw[← hmv];exact could_of HB ht K1 (F2.kept) hF1 hF2 hFc hFp (by omega) hcF (by have:=F.size;omega) (Nll z2 FV.size) (fun i v hv=>(FV.cell (p:=Ad g i) z2 (by simp)).trans (insV_cell z4 hv)) (insV_plain z4 hsmall) q3 z3 (by omega) (by omega) hat hap (fun o1 o2 c1 c2=>by
   have:=q4 T z4.len z5 o1 o2 c1 c2;rw[hnf] at this;exact this)
 have F0:Fr [] w (w.alloc (.cells #[.slice a0 nt c0,.slice a1 0 c1,iA (gn:Nat),iA (an:Nat),.slice (some (Ad gF 0)) nf cF] 70)):=(Fr.refl [] w).alloc _;have k0:=wan w (.cells #[.slice a0 nt c0,.slice a1 0 c1,iA (gn:Nat),iA (an:Nat),.slice (some (Ad gF 0)) nf cF] 70);obtain⟨W1,hW1⟩:=eXi (w.alloc (.cells #[.slice a0 nt c0,.slice a1 0 c1,iA (gn:Nat),iA (an:Nat),.slice (some (Ad gF 0)) nf cF] 70));rw[hW1] at F0 k0;have kl:=(Age.1 k0).1;have hst:∀ W,Fr [] W1 W→W.cell? (Ad w.heap.size 0)=some (.slice a0 nt c0)∧W.cell? (Ad w.heap.size 1)=some (.slice a1 0 c1)∧W.cell? (Ad w.heap.size 2)=some (iA (gn:Nat))∧W.cell? (Ad w.heap.size 3)=some (iA (an:Nat))∧W.cell? (Ad w.heap.size 4)=some (.slice (some (Ad gF 0)) nf cF):=fun W hW=>by
  have e1:∀ j v,(#[.slice a0 nt c0,.slice a1 0 c1,iA (gn:Nat),iA (an:Nat),.slice (some (Ad gF 0)) nf cF]:Array Value)[j]?=some v→W.cell? (Ad w.heap.size j)=some v:=fun j v hv=>by
   unfold World.cell?;rw[hW.block _ kl (by simp),k0];exact hv
  exact⟨e1 0 _ rfl,e1 1 _ rfl,e1 2 _ rfl,e1 3 _ rfl,e1 4 _ rfl⟩
 obtain⟨-,-,-,-,d4⟩:=hst W1 (Fr.refl [] W1);have HS:Hid _:=hst;have HF0:Hid _:=F0;rw[← hmv] at HC;clear hM hmv hst k0 hMo htv hpv hfv hat hap hFc hFp hG K1 ht hgs has F0 kl hpl;go_enter func52,ntmps52;go_wp2;clear hW1
 go_loopw [12] (fun i wr=>∃ k:Nat,k≤nf∧i=iA (k:Nat)∧Hid (Fr [] W1 wr)) (fun i _=>nf-(intOf i).toNat)
 case atStart=>exact⟨0,by omega,rfl,Fr.refl [] _⟩
 case round=>
  clear d4;obtain⟨k,hk,rfl,HF⟩:=hrel;by_cases hlt:k<nf
  ·have g1:(k:Int)<nf:=by omega
   obtain⟨d0,d1,d2,d3,d4⟩:=HS.out wr HF.out;have HR:Hid _:=fun (_:Unit)=>HC.out wr k (HF0.out.trans HF.out) hlt;go_wp2_with fail;refine Calls.mono (HR.out ()) ?_;rintro e w2 ⟨g',cap,n,rfl,F2,hW⟩;have HF2:Hid (Fr [] W1 w2):=HF.out.trans F2;have HW:Hid _:=fun (_:Unit)=>hW w2 (Fr.refl [] w2);clear d0 d1 d2 d3 d4 HR F2 hW HF;obtain⟨d0,d1,d2,d3,d4⟩:=HS.out w2 HF2.out;go_wp2_with fail;refine Calls.mono (HW.out ()) ?_;rintro e w3 ⟨rfl,F3⟩;have HF3:Hid (Fr [] W1 w3):=HF2.out.trans F3;clear d0 d1 d2 d3 d4 HW F3 HF2;go_wp2;exact⟨⟨k+1,by omega,by go_num,HF3.out⟩,by simp[intOf];omega⟩
  obtain rfl:k=nf:=by omega
  have g1:¬ (k:Int)<k:=by omega
  go_wp2;go_ret3;exact⟨rfl,HF0.out.trans HF.out⟩
end Tok
end Go.Proofs.YtmolfmgchbjnbaaGreatDoor
