/-
  gleanlaw.Checks answers true, whatever its two arguments are: every Check of a script, of the opening's bytes, of bytes that the script gives, of the bytes of any of the modules, marred or not, answers as the document's does (P9). The card: the row's listed variables are tied to the program's text.
-/
import Derived.Test.YtclkgoigmgkffaaGreatDoorCards
import Derived.Test.YtclkgoigmgkffaaGreatDoorTie
import Derived.Test.YtclkgoigmgkffaaGreatDoorM44
import Derived.Test.YtclkgoigmgkffaaGreatDoorM45
set_option linter.unusedSimpArgs false
set_option linter.unusedVariables false
namespace Go.Proofs.YtclkgoigmgkffaaGreatDoor
open Go.ChangeShapes Go.WideShapes Go.ChangeAt Go.RowKit Go.ChangeMaps
open Wire Flow Mach
def tabName : String := Rows.checksRow.named.getD 0 ""
def sortsName : String := Rows.checksRow.named.getD 1 ""
def takesName : String := Rows.checksRow.named.getD 2 ""
def givesName : String := Rows.checksRow.named.getD 3 ""
def takesD:List ByteArray:=takesT.map wdK
def givesD:List ByteArray:=givesT.map wdK
theorem laid64:(Rows.checksRow.laid.filter fun x=>x.1==tabName)=[(tabName,Lib.tabData .u8 (Lib.deBruijn64tab.map Int.ofNat))]:=by kernel_rfl
theorem laidSorts:(Rows.checksRow.laid.filter fun x=>x.1==sortsName)=[(sortsName,Lib.tabData .i64 (sortsT.map Int.ofNat))]:=by kernel_rfl
theorem laidTakes:(Rows.checksRow.laid.filter fun x=>x.1==takesName)=[(takesName,strData takesD)]:=by kernel_rfl
theorem laidGives:(Rows.checksRow.laid.filter fun x=>x.1==givesName)=[(givesName,strData givesD)]:=by kernel_rfl
theorem gTab:Tryz.prog.globalNamed tabName=some 6:=by kernel_rfl
theorem gTabType:(Tryz.prog.globals[6]?).map (·.type)=some 381:=by kernel_rfl
theorem gSorts:Tryz.prog.globalNamed sortsName=some 0:=by kernel_rfl
theorem gSortsType:(Tryz.prog.globals[0]?).map (·.type)=some 196:=by kernel_rfl
theorem gTakes:Tryz.prog.globalNamed takesName=some 1:=by kernel_rfl
theorem gTakesType:(Tryz.prog.globals[1]?).map (·.type)=some 315:=by kernel_rfl
theorem gGives:Tryz.prog.globalNamed givesName=some 2:=by kernel_rfl
theorem gGivesType:(Tryz.prog.globals[2]?).map (·.type)=some 315:=by kernel_rfl
theorem cells381:Tryz.prog.cellsOf 381=64:=by kernel_rfl
theorem cells196:Tryz.prog.cellsOf 196=54:=by kernel_rfl
theorem cells315:Tryz.prog.cellsOf 315=54:=by kernel_rfl
theorem tab_of_laid {W:World} (h:laidMetH Tryz.prog Rows.checksRow.laid W):Tab W:=by
 have h1:=laidMetH.filter (fun x=>x.1==tabName) h
 rw[laid64] at h1
 have ht:Lib.TabIs Tryz.prog W tabName .u8 (Lib.deBruijn64tab.map Int.ofNat):=
  Lib.tabIs_of_head (rest:=[]) gTab gTabType Tryz.underlying381 Tryz.underlying5 cells5 cells381 h1
 intro j hj
 have:=ht.cell gTab j (by simpa using hj)
 rw[this]
 congr 2
 rw[List.getD_eq_getElem?_getD,List.getElem?_map,List.getD_eq_getElem?_getD]
 cases hx:Lib.deBruijn64tab[j]? with
 | none=>rfl
 | some y=>rfl
theorem sorts_of_laid {W:World} (h:laidMetH Tryz.prog Rows.checksRow.laid W):DocS W:=by
 have h1:=laidMetH.filter (fun x=>x.1==sortsName) h
 rw[laidSorts] at h1
 have ht:Lib.TabIs Tryz.prog W sortsName .i64 (sortsT.map Int.ofNat):=
  Lib.tabIs_of_head (rest:=[]) gSorts gSortsType Tryz.underlying196 Tryz.underlying3 cells3 cells196 h1
 refine⟨fun j hj=>?_⟩
 have:=ht.cell gSorts j (by simpa [sortsT] using hj)
 rw[this]
 congr 2
 rw[List.getD_eq_getElem?_getD,List.getElem?_map,List.getD_eq_getElem?_getD]
 cases hx:sortsT[j]? with
 | none=>rfl
 | some y=>rfl
theorem getD_wdK (L:List (List UInt8)) (i:Nat) (h:i<L.length):(L.map wdK).getD i ⟨#[]⟩=wdK (L.getD i []):=by
 rw[List.getD_eq_getElem?_getD,List.getElem?_map,List.getD_eq_getElem?_getD,List.getElem?_eq_getElem h]
 rfl
theorem words_of_laid {W:World} (h:laidMetH Tryz.prog Rows.checksRow.laid W):DocT W:=by
 have h1:=laidMetH.filter (fun x=>x.1==takesName) h
 rw[laidTakes] at h1
 have h2:=laidMetH.filter (fun x=>x.1==givesName) h
 rw[laidGives] at h2
 refine⟨fun i hi=>?_,fun i hi=>?_⟩
 ·have:=strs_of_head (rest:=[]) gTakes gTakesType Tryz.underlying315 Tryz.underlying9 cells9 cells315 h1 i (by simpa [takesD,takesT] using hi)
  rw[this,takesD,getD_wdK _ _ (by simpa [takesT] using hi)]
 ·have:=strs_of_head (rest:=[]) gGives gGivesType Tryz.underlying315 Tryz.underlying9 cells9 cells315 h2 i (by simpa [givesD,givesT] using hi)
  rw[this,givesD,getD_wdK _ _ (by simpa [givesT] using hi)]
set_option maxRecDepth 100000 in
theorem checks_contract (H:Type) (enc:TypeId × Value→H) (W:World) (base:Nat) (args:Array Value) (ds gs:List (DataW H)) (before:List MemPlace)
  (hval:∀ (j:Nat) t v,Tryz.f5.params[j]?=some t→args[j]?=some v→Value.okWide Tryz.prog W .any base t v)
  (hW:DataW.Whole enc Tryz.prog Tryz.f5.params.toList Rows.checksSpec.vars false W args.toList ds gs before)
  (hsz:(DataW.weightsEach Tryz.prog (Tryz.f5.params.toList++(OpenSpec.ofChange Rows.checksSpec).bare.plain.varTypes Tryz.prog) (ds++gs)).all (·≤reachBytes)=true)
  (hL:laidMetH Tryz.prog Rows.checksRow.laid W) :
  Calls Tryz.prog 5 args W fun e W'=>∃ v,e=.returned v∧Rows.checksSpec.post enc Tryz.prog Tryz.f5 false true false false W args v W':=by
 have hW':=hW
 obtain⟨p,q,hA0,hV,rfl,hfz,hnd⟩:=hW
 have hA:DataW.TrodAll enc Tryz.prog W 0 (fun _=>true) true Tryz.f5.params.toList args.toList ds p:=hA0
 rw[Tryz.params5] at hA hval hsz
 obtain⟨v0,vs0,d0,ds0,p0,q0,hargs,rfl,rfl,h0,r0⟩:=trodAll_cons hA
 obtain⟨v1,vs1,d1,ds1,p1,q1,rfl,rfl,rfl,h1,r1⟩:=trodAll_cons r0
 obtain⟨rfl,rfl,rfl⟩:=trodAll_nil r1
 obtain rfl:args=#[v0,v1]:=by cases args;simp_all
 obtain⟨rfl,rfl⟩:=trodVars_none hV
 have h0k:=h0
 have h1k:=h1
 obtain⟨fuel0,hf0⟩:=h0
 obtain⟨fuel1,hf1⟩:=h1
 clear hA0
 simp only[List.append_nil] at hW'
 obtain⟨ma,mn,mc,rfl⟩:=okWide_slice Tryz.underlying25 (hval 0 25 v0 rfl rfl)
 obtain⟨a1,n1,c1,rfl⟩:=okWide_slice Tryz.underlying22 (hval 1 22 v1 rfl rfl)
 have hM:=open_mods (x:=(d0,p0)) hf0
 have hz:∀ el sp,d1=.slice el sp→(el.length+sp.length)*72≤reachBytes:=fun el sp e=>by
  have:=sized_slice hsz (j:=1) (t:=22) (e:=61) (elems:=el) (spare:=sp) rfl (by rw[e];rfl) Tryz.underlying22
  rw[bytes61] at this
  exact this
 obtain⟨a0,len,cap,g,off,hv1,hn,hcap,ha,hops⟩:=open_script (x:=(d1,p1)) hf1 hz
 rw[hv1] at hW' h1k ⊢
 have hlt0:∀ x ∈ p0,x.block<W.heap.size:=fun x hx=>by simpa using hW'.lt x (by simp[hx])
 have hlt1:∀ x ∈ p1,x.block<W.heap.size:=fun x hx=>by simpa using hW'.lt x (by simp[hx])
 refine (checks_any ma mn mc a0 len cap g off W hM (tab_of_laid hL) (words_of_laid hL) (sorts_of_laid hL) hn ha hops hcap).mono fun e W' ⟨he,hf⟩=>?_
 subst he
 refine⟨_,rfl,[d0,d1],[],_,[],p0++(p1++[]),[],hW',trodAll_cons_mk (shut_bool Tryz.underlying4 _) trodAll_mk0,?_,?_,(fr_below hf).frame _,fun h=>by cases h⟩
 ·exact trodAll_cons_mk (Below.trod laid_out (by kernel_rfl) (of_decide_eq_true (by kernel_rfl)) h0k (fr_below hf) hlt0) (trodAll_cons_mk (Below.trod laid_out (by kernel_rfl) (of_decide_eq_true (by kernel_rfl)) h1k (fr_below hf) hlt1) trodAll_mk0)
 ·rfl
def args0:Array Value:=#[.slice none 0 0,.slice none 0 0]
set_option maxRecDepth 100000 in
theorem laid_fits (os:Os):(World.holding Tryz.prog os ⟨#[],#[],[]⟩).layFits Tryz.prog Rows.checksRow.laid []=true:=by kernel_rfl
set_option maxRecDepth 100000 in
theorem laid_ifaces (os:Os):(World.holding Tryz.prog os ⟨#[],#[],[]⟩).layIfaces Tryz.prog Rows.checksRow.laid (World.laidAll Tryz.prog os Rows.checksRow.laid)=true:=by kernel_rfl
set_option maxRecDepth 100000 in
theorem laid_world (os:Os):∃ w0:World,w0.os=os∧(w0.forCall (fun _ _=>0) ⟨#[],args0,[]⟩).variablesB Tryz.prog=true ∧
  ((w0.forCall (fun _ _=>0) ⟨#[],args0,[]⟩).heap.toList.drop Tryz.prog.globals.size).take ((begin Tryz.prog (fun _ _=>0) default).world.heap.size-Tryz.prog.globals.size) =
   (begin Tryz.prog (fun _ _=>0) default).world.heap.toList.drop Tryz.prog.globals.size ∧
  Input.okWideB Tryz.prog (w0.forCall (fun _ _=>0) ⟨#[],args0,[]⟩) 5 ⟨#[],args0,[]⟩=true ∧
  laidMet Tryz.prog Rows.checksRow.laid (w0.forCall (fun _ _=>0) ⟨#[],args0,[]⟩).memory ∧
  ∀ {H:Type} (enc:TypeId × Value→H),DataW.whole enc Tryz.prog (w0.forCall (fun _ _=>0) ⟨#[],args0,[]⟩).memory Tryz.f5.params.toList Rows.checksSpec.vars false args0.toList 8=some ([.nil,.nil],[],[]):=by
 refine⟨World.laidAll Tryz.prog os Rows.checksRow.laid,World.laidAll_os _ _ _,?_,?_,?_,laidMet_laidAll args0 (laid_fits os) (laid_ifaces os),?_⟩
 ·kernel_rfl
 ·kernel_rfl
 ·kernel_rfl
 ·intro H enc
  kernel_rfl
set_option maxRecDepth 100000 in
theorem checks_lifted (os:Os) (started:os.Started) (H:Type) (enc:TypeId × Value→H) (F:Stop.Interp) :
  ReturnsInHanded {} Tryz.checked os 5 .any ((OpenSpec.ofChange Rows.checksSpec).preRow enc Tryz.prog Tryz.f5 Rows.checksRow.domain false Rows.checksRow.laid) (((OpenSpec.ofChange Rows.checksSpec).at F).post enc Tryz.prog Tryz.f5 false true false false):=by
 obtain⟨w0,hos,hv,hr,hok,hlm,hx⟩:=laid_world os
 refine returnsInHanded_of_row (C:=Tryz.checked) (s:=OpenSpec.ofChange Rows.checksSpec) ownK started (by kernel_rfl) Tryz.func5
  (witness_row_at (enc:=enc) (C:=Tryz.checked) false w0 args0 hos hv hr hok
   (OpenSpec.preRow_of_cond 8 (hx enc) (by kernel_rfl) (fun k hk=>by cases hk) (by kernel_rfl) hlm)) ?_
 intro W base args ds gs before hval hW _ _ hsz hL _ _
 exact checks_contract H enc W base args ds gs before hval hW hsz hL
theorem checks_said:Rows.ChecksSaid:=
 OpenClaim.holds_of_cond 5 Tryz.f5 rfl rfl rfl rfl rfl rfl rfl ⟨rfl,rfl,rfl,rfl,rfl⟩ rfl rfl rfl rfl rfl (by kernel_rfl) Tryz.func5 checks_facts
  (of_decide_eq_true (by kernel_rfl)) (by unfold Func.isWrapper;first | (rw[if_pos (by decide +kernel)];kernel_rfl) | (rw[if_neg (by decide +kernel)];exact⟨rfl,rfl⟩))
  (fun os started H enc _ F=>by rw[OpenClaim.pre_eq_preRow];exact checks_lifted os started H enc F)
theorem checks_plain (f:FuncId) (fn:Func) (hf:Tryz.pinned.checked.prog.funcNamed Tryz.f5.name=some f) (hfn:Tryz.pinned.checked.prog.funcs[f]?=some fn) :
  false=Tryz.pinned.checked.prog.looks []∧∀ (j:Nat) t,fn.params[j]?=some t→Tryz.pinned.checked.prog.wantsStandIn t=false:=by
 obtain rfl:f=5:=Option.some.inj ((show Tryz.prog.funcNamed Tryz.f5.name=some 5 by kernel_rfl).symm.trans hf) |>.symm
 obtain rfl:fn=Tryz.f5:=(Option.some.inj (Tryz.func5.symm.trans hfn)).symm
 refine⟨by kernel_rfl,fun j t ht=>?_⟩
 rw[Tryz.params5] at ht
 have hm:=Array.mem_of_getElem? ht
 simp at hm
 rcases hm with rfl | rfl
 ·exact (show Tryz.prog.wantsStandIn 25=false by kernel_rfl)
 ·exact (show Tryz.prog.wantsStandIn 22=false by kernel_rfl)
theorem checks_card:Rows.ChecksCardSaid:=
 Claim7.holds_tied_plain_at .later [] _ _ _ _ checks_said (fun _ h=>by cases h) (by kernel_rfl) (fun _ h=>by cases h) checks_row_tie rfl ⟨rfl,rfl⟩ (by kernel_rfl) rfl checks_plain (by kernel_rfl)
#print axioms checks_card
end Go.Proofs.YtclkgoigmgkffaaGreatDoor
