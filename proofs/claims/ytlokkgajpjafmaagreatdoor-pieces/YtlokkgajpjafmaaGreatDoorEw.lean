/-
  gleankeep.Pieces answers true for every module, every list of records and of draws and every list of numbers of instructions: instructions piece by piece, with refused calls between and another machine beside, leave what they leave at once; there is a machine just where Check and the script allow one; what was printed stays, what has ended stays (P10 to P12). Conditions: the listed tables as the program's text lays them.
-/
import Derived.Test.YtlokkgajpjafmaaGreatDoorCards
import Derived.Test.YtlokkgajpjafmaaGreatDoorTie
import Derived.Test.YtlokkgajpjafmaaGreatDoorM31
import Derived.Test.YtlokkgajpjafmaaGreatDoorM32
set_option linter.unusedSimpArgs false
set_option linter.unusedVariables false
set_option maxRecDepth 100000
namespace Go.Proofs.YtlokkgajpjafmaaGreatDoor
open Go.ChangeShapes Go.WideShapes Go.ChangeAt Go.RowKit Go.ChangeMaps
open Wire Flow
/-! The listed variables. -/
def rS : String := Rows.piecesRow.named.getD 0 ""
theorem aXa:(Rows.piecesRow.laid.filter fun x=>x.1==rS)=[(rS,Lib.tabData .u8 (Lib.deBruijn64tab.map Int.ofNat))]:=by kernel_rfl
theorem aZk:Tryz.prog.globalNamed rS=some 1:=by kernel_rfl
theorem aPu:(Tryz.prog.globals[1]?).map (·.type)=some 289:=by kernel_rfl
theorem aXx:Tryz.prog.cellsOf 289=64:=by kernel_rfl
theorem Y3 {W:World} (h:laidMetH Tryz.prog Rows.piecesRow.laid W):Tab W:=by
 have h1:=laidMetH.filter (fun x=>x.1==rS) h
 rw[aXa] at h1
 have ht:Lib.TabIs Tryz.prog W rS .u8 (Lib.deBruijn64tab.map Int.ofNat):=
  Lib.tabIs_of_head (rest:=[]) aZk aPu Tryz.underlying289 Tryz.underlying5 bBx aXx h1
 intro j hj
 have:=ht.cell aZk j (by simpa using hj)
 rw[this]
 congr 2
 rw[List.getD_eq_getElem?_getD,List.getElem?_map,List.getD_eq_getElem?_getD]
 cases hx:Lib.deBruijn64tab[j]? with
 | none=>rfl
 | some y=>rfl
theorem aTs:(Rows.piecesRow.laid.filter fun x=>x.1==r6)=[(r6,Lib.tabData .u64 Lib.pow10Tab)]:=by kernel_rfl
theorem bBs:Tryz.prog.globalNamed r6=some 2:=by kernel_rfl
theorem aPv:(Tryz.prog.globals[2]?).map (·.type)=some 291:=by kernel_rfl
theorem aXy:Tryz.prog.cellsOf 291=20:=by kernel_rfl
theorem aAi {W:World} (h:laidMetH Tryz.prog Rows.piecesRow.laid W):eL W:=by
 have h1:=laidMetH.filter (fun x=>x.1==r6) h
 rw[aTs] at h1
 exact Lib.tabIs_of_head (rest:=[]) bBs aPv Tryz.underlying291 Tryz.underlying115 (by kernel_rfl) aXy h1
theorem aVf {W:World} (h:laidMetH Tryz.prog Rows.piecesRow.laid W) (hs:W.ShapedOpen Tryz.prog):uG W where
 six:=by
  obtain⟨cs,hc,-⟩:=hs.1 5 _ _ (of_decide_eq_true (by kernel_rfl)) (show _=some (Array.replicate 32 (Value.int .u8 0),299) by kernel_rfl)
  have:=(Array.getElem?_eq_some_iff.1 hc).1
  omega
 pow:=aAi h
 mxl:=Go.Proofs.cell_of_shapedOpen_int hs (of_decide_eq_true (by kernel_rfl)) (show _=some (#[Value.int .i64 0],3) by kernel_rfl) rfl (by kernel_rfl) (by kernel_rfl) Tryz.underlying3
 tab:=Y3 h
def slN {H:Type}:DataW H→Nat
 | .slice el _=>el.length
 | _=>0
theorem bCg {H:Type} (d:DataW H):∀ el sp,d=.slice el sp→el.length≤slN d:=fun el sp e=>by rw[e];exact Nat.le_refl _
theorem vG (H:Type) (enc:TypeId × Value→H) (W:World) (base:Nat) (args:Array Value) (ds gs:List (DataW H)) (before:List MemPlace)
  (hval:∀ (j:Nat) t v,Tryz.f3.params[j]?=some t→args[j]?=some v→Value.okWide Tryz.prog W .any base t v)
  (hW:DataW.Whole enc Tryz.prog Tryz.f3.params.toList Rows.piecesSpec.vars false W args.toList ds gs before)
  (hsz:(DataW.weightsEach Tryz.prog (Tryz.f3.params.toList++(OpenSpec.ofChange Rows.piecesSpec).bare.plain.varTypes Tryz.prog) (ds++gs)).all (·≤reachBytes)=true)
  (hL:laidMetH Tryz.prog Rows.piecesRow.laid W) (hsh:W.ShapedOpen Tryz.prog) :
  Calls Tryz.prog 3 args W fun e W'=>∃ v,e=.returned v∧Rows.piecesSpec.post enc Tryz.prog Tryz.f3 false true false false W args v W':=by
 have hW':=hW
 obtain⟨p,q,hA0,hV,rfl,hfz,hnd⟩:=hW
 have hA:DataW.TrodAll enc Tryz.prog W 0 (fun _=>true) true Tryz.f3.params.toList args.toList ds p:=hA0
 rw[Tryz.params3] at hA hval hsz
 obtain⟨v0,vs0,d0,ds0,p0,q0,hargs,rfl,rfl,h0,r0⟩:=trodAll_cons hA
 obtain⟨v1,vs1,d1,ds1,p1,q1,rfl,rfl,rfl,h1,r1⟩:=trodAll_cons r0
 obtain⟨v2,vs2,d2,ds2,p2,q2,rfl,rfl,rfl,h2,r2⟩:=trodAll_cons r1
 obtain⟨v3,vs3,d3,ds3,p3,q3,rfl,rfl,rfl,h3,r3⟩:=trodAll_cons r2
 obtain⟨rfl,rfl,rfl⟩:=trodAll_nil r3
 obtain rfl:args=#[v0,v1,v2,v3]:=by cases args;simp_all
 obtain⟨rfl,rfl⟩:=trodVars_none hV
 have k0:=hval 0 25 v0 rfl rfl
 have k1:=hval 1 22 v1 rfl rfl
 have k2:=hval 2 26 v2 rfl rfl
 have k3:=hval 3 26 v3 rfl rfl
 clear hval
 have h0k:=h0
 have h1k:=h1
 have h2k:=h2
 have h3k:=h3
 obtain⟨fuel0,hf0⟩:=h0
 obtain⟨fuel1,hf1⟩:=h1
 obtain⟨fuel2,hf2⟩:=h2
 obtain⟨fuel3,hf3⟩:=h3
 obtain⟨cs,rfl,hcs⟩:=okWide_struct Tryz.underlying25 k0
 rw[aZo] at hcs
 obtain⟨ra,nr,rc,rfl⟩:=okWide_slice Tryz.underlying22 k1
 obtain⟨da,nd,dc,rfl⟩:=okWide_slice Tryz.underlying26 k2
 obtain⟨na,nn,nc,rfl⟩:=okWide_slice Tryz.underlying26 k3
 clear hA0
 simp only[List.append_nil] at hW'
 have hz3:∀ el sp,d3=.slice el sp→el.length≤20000000000000:=fun el sp e=>by
  have:=sized_slice hsz (j:=3) (t:=26) (e:=3) (elems:=el) (spare:=sp) rfl (by rw[e];rfl) Tryz.underlying26
  rw[show Tryz.prog.bytesOf 3=8 by kernel_rfl] at this
  unfold reachBytes at this
  omega
 obtain⟨m,tv,pv,fv,ec,hM,hz⟩:=aOa hcs hf0
 have hQ3:∀ (k:Nat) (y:Value) (z:DataW H × List MemPlace),DataW.trod enc Tryz.prog W 0 (fun _=>true) true k 3 [y]=some z→∃ n:Int,y=.int .i64 n:=fun k y z hz=>by
  obtain⟨n,e,-,-⟩:=DataW.trod_int Tryz.underlying3 hz
  exact⟨n,by simpa using e⟩
 obtain⟨recs,-,hr⟩:=tO (f:=Value.string) Tryz.underlying22 aXz (fun k y z hz=>by
  obtain⟨s,e,-,-⟩:=DataW.trod_string Tryz.underlying9 hz
  exact⟨s,by simpa using e⟩) (x:=(d1,p1)) hf1 (bCg d1)
 obtain⟨draws,-,hd⟩:=tO (f:=Value.int .i64) Tryz.underlying26 aUw hQ3 (x:=(d2,p2)) hf2 (bCg d2)
 obtain⟨ns,hnl,hn⟩:=tO (f:=Value.int .i64) Tryz.underlying26 aUw hQ3 (x:=(d3,p3)) hf3 hz3
 have hlt0:∀ x ∈ p0,x.block<W.heap.size:=fun x hx=>by simpa using hW'.lt x (by simp[hx])
 have hlt1:∀ x ∈ p1,x.block<W.heap.size:=fun x hx=>by simpa using hW'.lt x (by simp[hx])
 have hlt2:∀ x ∈ p2,x.block<W.heap.size:=fun x hx=>by simpa using hW'.lt x (by simp[hx])
 have hlt3:∀ x ∈ p3,x.block<W.heap.size:=fun x hx=>by simpa using hW'.lt x (by simp[hx])
 obtain⟨tv',pv',fv',e,⟨ta,tc,gt,ot,htv,-⟩,⟨pa,pc,gp,op,hpv,-⟩,⟨fa,fc,gf,of_,hfv,-⟩⟩:=hM.is
 simp only[Value.agg.injEq,Array.mk.injEq,List.cons.injEq,and_true] at e
 obtain⟨rfl,rfl,-,-,rfl⟩:=e
 subst htv hpv hfv
 obtain rfl:cs=#[.slice ta m.texts.length tc,.slice pa m.pats.length pc,.int .i64 m.globs,.int .i64 m.arrs,.slice fa m.fns.length fc]:=Array.ext' ec
 refine (aEq (aVf hL hsh) hM hz hr hd hn hnl).mono fun e W' ⟨he,hf⟩=>?_
 subst he
 refine⟨_,rfl,[d0,d1,d2,d3],[],_,[],p0++(p1++(p2++(p3++[]))),[],hW',trodAll_cons_mk (shut_bool Tryz.underlying4 _) trodAll_mk0,?_,?_,(pC hf).frame _,fun h=>by cases h⟩
 ·exact trodAll_cons_mk (Below.trod sM (by kernel_rfl) (of_decide_eq_true (by kernel_rfl)) h0k (pC hf) hlt0) (trodAll_cons_mk (Below.trod sM (by kernel_rfl) (of_decide_eq_true (by kernel_rfl)) h1k (pC hf) hlt1) (trodAll_cons_mk (Below.trod sM (by kernel_rfl) (of_decide_eq_true (by kernel_rfl)) h2k (pC hf) hlt2) (trodAll_cons_mk (Below.trod sM (by kernel_rfl) (of_decide_eq_true (by kernel_rfl)) h3k (pC hf) hlt3) trodAll_mk0)))
 ·rfl
def sX:Array Value:=#[.agg #[.slice none 0 0,.slice none 0 0,.int .i64 0,.int .i64 0,.slice none 0 0],.slice none 0 0,.slice none 0 0,.slice none 0 0]
theorem aFc (os:Os):(World.holding Tryz.prog os ⟨#[],#[],[]⟩).layFits Tryz.prog Rows.piecesRow.laid []=true:=by kernel_rfl
theorem P6 (os:Os):(World.holding Tryz.prog os ⟨#[],#[],[]⟩).layIfaces Tryz.prog Rows.piecesRow.laid (World.laidAll Tryz.prog os Rows.piecesRow.laid)=true:=by kernel_rfl
theorem aBx (os:Os):∃ w0:World,w0.os=os∧(w0.forCall (fun _ _=>0) ⟨#[],sX,[]⟩).variablesB Tryz.prog=true ∧
  ((w0.forCall (fun _ _=>0) ⟨#[],sX,[]⟩).heap.toList.drop Tryz.prog.globals.size).take ((begin Tryz.prog (fun _ _=>0) default).world.heap.size-Tryz.prog.globals.size) =
   (begin Tryz.prog (fun _ _=>0) default).world.heap.toList.drop Tryz.prog.globals.size ∧
  Input.okWideB Tryz.prog (w0.forCall (fun _ _=>0) ⟨#[],sX,[]⟩) 3 ⟨#[],sX,[]⟩=true ∧
  laidMet Tryz.prog Rows.piecesRow.laid (w0.forCall (fun _ _=>0) ⟨#[],sX,[]⟩).memory ∧
  ∀ {H:Type} (enc:TypeId × Value→H),DataW.whole enc Tryz.prog (w0.forCall (fun _ _=>0) ⟨#[],sX,[]⟩).memory Tryz.f3.params.toList Rows.piecesSpec.vars false sX.toList 8=some ([.agg [.nil,.nil,.lit (.int .i64 0),.lit (.int .i64 0),.nil],.nil,.nil,.nil],[],[]):=by
 refine⟨World.laidAll Tryz.prog os Rows.piecesRow.laid,World.laidAll_os _ _ _,?_,?_,?_,laidMet_laidAll sX (aFc os) (P6 os),?_⟩
 ·kernel_rfl
 ·kernel_rfl
 ·kernel_rfl
 ·intro H enc
  kernel_rfl
theorem zW (os:Os) (started:os.Started) (H:Type) (enc:TypeId × Value→H) (F:Stop.Interp) :
  ReturnsInHanded {} Tryz.checked os 3 .any ((OpenSpec.ofChange Rows.piecesSpec).preRow enc Tryz.prog Tryz.f3 Rows.piecesRow.domain false Rows.piecesRow.laid) (((OpenSpec.ofChange Rows.piecesSpec).at F).post enc Tryz.prog Tryz.f3 false true false false):=by
 obtain⟨w0,hos,hv,hr,hok,hlm,hx⟩:=aBx os
 refine returnsInHanded_of_row (C:=Tryz.checked) (s:=OpenSpec.ofChange Rows.piecesSpec) bAm started (by kernel_rfl) Tryz.func3
  (witness_row_at (enc:=enc) (C:=Tryz.checked) false w0 sX hos hv hr hok
   (OpenSpec.preRow_of_cond 8 (hx enc) (by kernel_rfl) (fun k hk=>by cases hk) (by kernel_rfl) hlm)) ?_
 intro W base args ds gs before hval hW _ _ hsz hL hsh _
 exact vG H enc W base args ds gs before hval hW hsz hL hsh
theorem aAm:Rows.PiecesSaid:=
 OpenClaim.holds_of_cond 3 Tryz.f3 rfl rfl rfl rfl rfl rfl rfl ⟨rfl,rfl,rfl,rfl,rfl⟩ rfl rfl rfl rfl rfl (by kernel_rfl) Tryz.func3 N1
  (of_decide_eq_true (by kernel_rfl)) (by unfold Func.isWrapper;first | (rw[if_pos (by decide +kernel)];kernel_rfl) | (rw[if_neg (by decide +kernel)];exact⟨rfl,rfl⟩))
  (fun os started H enc _ F=>by rw[OpenClaim.pre_eq_preRow];exact zW os started H enc F)
theorem N0 (f:FuncId) (fn:Func) (hf:Tryz.pinned.checked.prog.funcNamed Tryz.f3.name=some f) (hfn:Tryz.pinned.checked.prog.funcs[f]?=some fn) :
  false=Tryz.pinned.checked.prog.looks []∧∀ (j:Nat) t,fn.params[j]?=some t→Tryz.pinned.checked.prog.wantsStandIn t=false:=by
 obtain rfl:f=3:=Option.some.inj ((show Tryz.prog.funcNamed Tryz.f3.name=some 3 by kernel_rfl).symm.trans hf) |>.symm
 obtain rfl:fn=Tryz.f3:=(Option.some.inj (Tryz.func3.symm.trans hfn)).symm
 refine⟨by kernel_rfl,fun j t ht=>?_⟩
 rw[Tryz.params3] at ht
 have hm:=Array.mem_of_getElem? ht
 simp at hm
 rcases hm with rfl | rfl | rfl
 ·exact (show Tryz.prog.wantsStandIn 25=false by kernel_rfl)
 ·exact (show Tryz.prog.wantsStandIn 22=false by kernel_rfl)
 ·exact (show Tryz.prog.wantsStandIn 26=false by kernel_rfl)
theorem pieces_card:Rows.PiecesCardSaid:=
 Claim7.holds_tied_plain_at .later [] _ _ _ _ aAm (fun _ h=>by cases h) (by kernel_rfl) (fun _ h=>by cases h) pieces_row_tie rfl ⟨rfl,rfl⟩ (by kernel_rfl) rfl N0 (by kernel_rfl)
#print axioms pieces_card
end Go.Proofs.YtlokkgajpjafmaaGreatDoor
