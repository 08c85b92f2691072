import Derived.Test.YtmolfmgchbjnbaaGreatDoorM03
set_option linter.unusedSimpArgs false
set_option linter.unusedVariables false
set_option linter.unusedSectionVars false
set_option maxRecDepth 100000
set_option maxHeartbeats 40000000
namespace Go.Proofs.YtmolfmgchbjnbaaGreatDoor
namespace Mach
open Wire Flow
structure SmV (v:Val):Prop where
 lo:-1000000000≤v.n
 hi:v.n≤1000000000
 sz:v.s.size≤100
def SmC (c:Cell):Prop:=SmV c.v∧∀ k ∈ c.keys,k.size≤100
structure SmA (a:List (BA × Val)):Prop where
 len:a.length≤30
 once:(keysA a).Nodup
 each:∀ e ∈ a,e.1.size≤100∧SmV e.2
structure SmW (w:Wd):Prop where
 recs:∀ s ∈ w.recs,s.size≤100
 nr:w.nr≤w.recs.length
 nrec:w.recs.length≤50
 draws:∀ n ∈ w.draws,-1000000000≤n∧n≤1000000000
 ndr:w.draws.length≤50
 drawn:w.drawn≤w.draws.length
 rcd:w.rcd.size≤100
 flds:∀ s ∈ w.flds,s.size≤100
 nf:w.flds.length≤100
 out:w.out.size≤1000
 globs:∀ v ∈ w.globs,SmV v
 arrs:∀ a ∈ w.arrs,SmA a
structure SmE (E:Env):Prop where
 texts:∀ s ∈ E.mo.texts,s.size≤100
 fnd:∀ p s,s.size≤100→-1≤(E.fnd p s).1∧(E.fnd p s).1≤100∧0≤(E.fnd p s).2∧(E.fnd p s).2≤100
 spl:∀ p s,s.size≤100→∀ t ∈ E.spl p s,t.size≤100
 itoa:∀ n,-1000000000≤n→n≤1000000000→(E.itoa n).size≤100
 inj:∀ i j:Nat,i≤30→j≤30→E.itoa (i:Int)=E.itoa (j:Int)→i=j
 wr:∀ n:Int,-2000000000000000000≤n→n≤2000000000000000000→E.wr n=n
theorem smV_nothing:SmV nothing:=⟨by decide,by decide,by decide⟩
theorem smV_words {s:BA}(h:s.size≤100):SmV (words s):=⟨by simp[words],by simp[words],h⟩
theorem smV_whole {n:Int}(h1:-1000000000≤n)(h2:n≤1000000000):SmV (whole n):=⟨h1,h2,(by decide:none0.size≤100)⟩
theorem smV_read {s:BA}(h:s.size≤100):SmV (readV s):=by
 unfold readV;split
 ·exact⟨by simp,by simp,h⟩
 exact smV_words h
theorem smC_cv {v:Val}(h:SmV v):SmC (cv v):=⟨h,by simp[cv]⟩
theorem smC_c0:SmC c0:=smC_cv smV_nothing
theorem clamp_sm (n:Int):-1000000000≤clampN n∧clampN n≤1000000000:=by
 unfold clampN;split
 ·omega
 split <;> omega
theorem numV_sm {v:Val}(h:SmV v):-1000000000≤numV v∧numV v≤1000000000:=by
 unfold numV;split
 ·omega
 split
 ·exact⟨h.lo,h.hi⟩
 exact clamp_sm _
theorem textV_sm {E:Env}(hE:SmE E){v:Val}(h:SmV v):(textV E v).size≤100:=by
 unfold textV;split
 ·decide
 split
 ·exact hE.itoa _ h.lo h.hi
 exact h.sz
theorem truth_sm (b:Bool):SmV (whole (truth b)):=by
 unfold truth;split
 ·exact smV_whole (by omega) (by omega)
 exact smV_whole (by omega) (by omega)
theorem getD_sm {l:List Val}(h:∀ v ∈ l,SmV v)(i:Nat):SmV (l.getD i nothing):=by
 rw[List.getD_eq_getElem?_getD];rcases hq:l[i]? with _ | v
 ·exact smV_nothing
 exact h v (List.mem_of_getElem? hq)
theorem set_sm {l:List Val}(h:∀ v ∈ l,SmV v)(i:Nat){v:Val}(hv:SmV v):∀ x ∈ l.set i v,SmV x:=by
 intro x hx;rcases List.mem_or_eq_of_mem_set hx with hx | rfl
 ·exact h x hx
 exact hv
theorem arr_sm {l:List (List (BA × Val))}(h:∀ a ∈ l,SmA a)(i:Nat):SmA (l.getD i []):=by
 rw[List.getD_eq_getElem?_getD];rcases hq:l[i]? with _ | v
 ·exact⟨by simp,by simp[keysA],by simp⟩
 exact h v (List.mem_of_getElem? hq)
theorem set_arr {l:List (List (BA × Val))}(h:∀ a ∈ l,SmA a)(i:Nat){b:List (BA × Val)}(hb:SmA b):∀ x ∈ l.set i b,SmA x:=by
 intro x hx;rcases List.mem_or_eq_of_mem_set hx with hx | rfl
 ·exact h x hx
 exact hb
theorem hasK_iff {a:List (BA × Val)}{k:BA}:hasK a k=true↔k ∈ keysA a:=by
 unfold hasK keysA;rw[List.any_eq_true,List.mem_map];constructor
 ·rintro ⟨e,he,h⟩;exact⟨e,he,of_decide_eq_true h⟩
 rintro ⟨e,he,h⟩;exact⟨e,he,decide_eq_true h⟩
theorem keys_setK_has {a:List (BA × Val)}{k:BA}{v:Val} (h:hasK a k=true):keysA (setK a k v)=keysA a:=by
 rw[hasK_iff] at h;induction a with
 | nil=>simp[keysA] at h
 | cons e a ih=>
  simp only[setK];split
  ·rename_i he
   simp[keysA,he]
  ·rename_i he
   have:k ∈ keysA a:=by
    simp only[keysA,List.map_cons,List.mem_cons] at h;rcases h with h | h
    ·exact absurd h.symm he
    exact h
   have:=ih this;simp only[keysA,List.map_cons] at this ⊢;rw[this]
theorem setK_new {a:List (BA × Val)}{k:BA}{v:Val} (h:hasK a k=false):setK a k v=a++[(k,v)]:=by
 have h':k ∉ keysA a:=by
  intro hm;rw[hasK_iff.2 hm] at h;cases h
 clear h;induction a with
 | nil=>rfl
 | cons e a ih=>
  simp only[setK];simp only[keysA,List.map_cons,List.mem_cons,not_or] at h';rw[if_neg (fun q=>h'.1 q.symm),ih h'.2];rfl
theorem setK_mem {a:List (BA × Val)}{k:BA}{v:Val}{e:BA × Val} (h:e ∈ setK a k v):e ∈ a∨e=(k,v):=by
 induction a with
 | nil=>exact Or.inr (by simpa [setK] using h)
 | cons x a ih=>
  simp only[setK] at h;split at h
  ·rcases List.mem_cons.1 h with h | h
   ·exact Or.inr h
   exact Or.inl (List.mem_cons_of_mem _ h)
  rcases List.mem_cons.1 h with h | h
  ·exact Or.inl (by rw[h];exact List.mem_cons_self)
  rcases ih h with h | h
  ·exact Or.inl (List.mem_cons_of_mem _ h)
  exact Or.inr h
theorem setK_sm {a:List (BA × Val)}(h:SmA a){k:BA}(hk:k.size≤100){v:Val}(hv:SmV v)(hf:hasK a k=true∨a.length<30):SmA (setK a k v):=by
 have he:∀ e ∈ setK a k v,e.1.size≤100∧SmV e.2:=by
  intro e he;rcases setK_mem he with he | rfl
  ·exact h.each e he
  exact⟨hk,hv⟩
 cases hh:hasK a k with
 | true=>
  have e1:=keys_setK_has (v:=v) hh;refine⟨?_,by rw[e1];exact h.once,he⟩;have:(keysA (setK a k v)).length=(keysA a).length:=by rw[e1]
  simp only[keysA,List.length_map] at this;rw[this];exact h.len
 | false=>
  have e1:=setK_new (v:=v) hh;refine⟨?_,?_,he⟩
  ·rw[e1,Lla];rcases hf with hf | hf
   ·rw[hh] at hf;cases hf
   simp;omega
  rw[e1];have:keysA (a++[(k,v)])=keysA a++[k]:=by simp[keysA]
  rw[this,List.nodup_append];refine⟨h.once,by simp,?_⟩;intro x hx y hy;simp only[List.mem_singleton] at hy;subst hy;rintro rfl;rw[hasK_iff.2 hx] at hh;cases hh
theorem dropK_sm {a:List (BA × Val)}(h:SmA a)(k:BA):SmA (dropK a k):=by
 refine⟨Nat.le_trans (List.length_filter_le _ _) h.len,?_,?_⟩
 ·exact List.Nodup.sublist (List.Sublist.map _ List.filter_sublist) h.once
 intro e he;exact h.each e (List.mem_filter.1 he).1
theorem getK_sm {a:List (BA × Val)}(h:∀ e ∈ a,e.1.size≤100∧SmV e.2)(k:BA):SmV (getK a k):=by
 induction a with
 | nil=>exact smV_nothing
 | cons e a ih=>
  simp only[getK];split
  ·exact (h e List.mem_cons_self).2
  exact ih fun x hx=>h x (List.mem_cons_of_mem _ hx)
theorem fillA_length (E:Env)(i:Nat)(l:LY):(fillA E i l).length=l.length:=by
 induction l generalizing i with
 | nil=>rfl
 | cons s l ih=>simp[fillA,ih]
theorem fillA_keys {E:Env}{i:Nat}{l:LY}{k:BA} (h:k ∈ keysA (fillA E i l)):∃ j,i<j∧j≤i+l.length∧k=E.itoa (j:Int):=by
 induction l generalizing i with
 | nil=>simp[fillA,keysA] at h
 | cons s l ih=>
  simp only[fillA,keysA,List.map_cons,List.mem_cons] at h;rcases h with h | h
  ·exact⟨i+1,by omega,by simp only[List.length_cons];omega,by rw[h];rfl⟩
  obtain⟨j,h1,h2,h3⟩:=ih h;exact⟨j,by omega,by simp only[List.length_cons];omega,h3⟩
theorem fillA_sm {E:Env}(hE:SmE E){l:LY}(hl:∀ t ∈ l,t.size≤100){i:Nat}(hn:i+l.length≤30):(keysA (fillA E i l)).Nodup∧∀ e ∈ fillA E i l,e.1.size≤100∧SmV e.2:=by
 induction l generalizing i with
 | nil=>simp[fillA,keysA]
 | cons s l ih=>
  simp only[List.length_cons] at hn;obtain⟨h1,h2⟩:=ih (fun t ht=>hl t (List.mem_cons_of_mem _ ht)) (i:=i+1) (by omega);refine⟨?_,?_⟩
  ·simp only[fillA,keysA,List.map_cons,List.nodup_cons];refine⟨?_,h1⟩;intro hm;obtain⟨j,g1,g2,g3⟩:=fillA_keys (E:=E) (i:=i+1) (l:=l) hm;have:=hE.inj (i+1) j (by omega) (by omega) (by rw[← g3];congr 1);omega
  intro e he;simp only[fillA,List.mem_cons] at he;rcases he with rfl | he
  ·exact⟨hE.itoa _ (by omega) (by omega),smV_read (hl s List.mem_cons_self)⟩
  exact h2 e he
theorem fields_sm {f l:LB}:∀ t ∈ fieldsL f l,t.size≤f.length+l.length:=by
 induction l generalizing f with
 | nil=>
  intro t ht;simp only[fieldsL] at ht;split at ht
  ·simp at ht
  simp only[List.mem_singleton] at ht;subst ht;simp[ByteArray.size]
 | cons c l ih=>
  intro t ht;simp only[fieldsL] at ht;split at ht
  ·split at ht
   ·have:=ih t ht;simp at this ⊢;omega
   rcases List.mem_cons.1 ht with rfl | ht
   ·simp[ByteArray.size]
   have:=ih t ht;simp at this ⊢;omega
  have:=ih t ht;simp at this ⊢;omega
theorem fields_count {f l:LB}:(fieldsL f l).length≤l.length+1∧(f=[]→(fieldsL f l).length≤l.length):=by
 induction l generalizing f with
 | nil=>
  simp only[fieldsL];split
  ·simp
  ·rename_i h
   simp[h]
 | cons c l ih=>
  simp only[fieldsL];split
  ·split
   ·rename_i h0
    have:=(ih (f:=[])).2 rfl;refine⟨by simp;omega,fun _=>by simp;omega⟩
   ·rename_i h0
    have:=(ih (f:=[])).2 rfl;refine⟨by simp;omega,fun h=>absurd h h0⟩
  have:=(ih (f:=f++[c])).1;refine⟨by simp;omega,fun _=>by simp;omega⟩
theorem cutF_sm {s:BA}(h:s.size≤100):(∀ t ∈ cutF s,t.size≤100)∧(cutF s).length≤100:=by
 have hb:(bl s).length=s.size:=Array.length_toList;refine⟨?_,?_⟩
 ·intro t ht;have:=fields_sm t ht;simp at this;omega
 have:=(fields_count (f:=[]) (l:=bl s)).2 rfl;unfold cutF;omega
theorem part_length (m e:Int)(i:Nat)(l:LB):(partL m e i l).length≤l.length:=by
 induction l generalizing i with
 | nil=>simp[partL]
 | cons c l ih=>
  simp only[partL];have:=ih (i+1);split <;> simp <;> omega
theorem index_le (t:LB)(i:Nat)(s:LB):indexL t i s≤i+s.length+1:=by
 induction s generalizing i with
 | nil=>
  unfold indexL;split <;> simp
 | cons c s ih=>
  unfold indexL;split
  ·simp
  have:=ih (i+1);simp only[List.length_cons];omega
theorem signed_sm {a:Nat}(h:a<2000000001):-1000000000≤signedN a∧signedN a≤1000000000:=by
 unfold signedN;split <;> omega
theorem sum_sm {E:Env}(hE:SmE E){op:Nat}{x y:Int}:-1000000000≤(sumOp E op x y).1∧(sumOp E op x y).1≤1000000000:=by
 unfold sumOp;split
 ·simp
 simp only;generalize (if op=18 then E.wr (x+y) else if op=19 then E.wr (x-y) else if op=20 then E.wr (x*y) else if op=21 then E.wr (x.tdiv y) else E.wr (x-E.wr (E.wr (x.tdiv y)*y)))=n;split
 ·simp
 ·rename_i h
  simp only;omega
theorem putF_mem {l:LY}{n:Nat}{s t:BA} (h:t ∈ putF l n s):t ∈ l∨t=none0∨t=s:=by
 unfold putF at h;rcases List.mem_or_eq_of_mem_set h with h | h
 ·rcases List.mem_append.1 h with h | h
  ·exact Or.inl h
  exact Or.inr (Or.inl (List.eq_of_mem_replicate h))
 exact Or.inr (Or.inr h)
theorem putF_length (l:LY)(n:Nat)(s:BA):(putF l n s).length=max l.length n:=by
 unfold putF;simp only[List.length_set,Lla,List.length_replicate];omega
theorem nextR_sm {w:Wd}(h:SmW w):SmW (nextR w).1:=by
 unfold nextR;split
 ·exact h
 ·rename_i s hs
  have hm:=List.mem_of_getElem? hs;have hl:w.nr<w.recs.length:=by
   rw[Lgs] at hs;exact hs.1
  obtain⟨c1,c2⟩:=cutF_sm (h.recs s hm);exact { h with nr:=hl,rcd:=h.recs s hm,flds:=c1,nf:=c2 }
theorem setField_sm {w:Wd}(h:SmW w)(n:Int){s:BA}(hs:s.size≤100):SmW (setFieldW w n s).1:=by
 unfold setFieldW;split
 ·exact h
 ·rename_i hn
  split
  ·obtain⟨c1,c2⟩:=cutF_sm hs;exact { h with rcd:=hs,flds:=c1,nf:=c2 }
  split
  ·exact h
  ·rename_i hj
   refine { h with rcd:=?_,flds:=?_,nf:=?_ }
   ·simp only[ByteArray.size,List.size_toArray];omega
   ·intro t ht;rcases putF_mem ht with ht | rfl | rfl
    ·exact h.flds t ht
    ·decide
    exact hs
   simp only[putF_length];have:=h.nf;omega
theorem print_sm {w:Wd}(h:SmW w)(l:LY):SmW (printW w l).1:=by
 unfold printW;split
 ·exact h
 ·rename_i hn
  refine { h with out:=?_ };show (w.out.data++(joinF l++[10]).toArray).size≤1000;have e:w.out.size=w.out.data.size:=rfl;simp only[Array.size_append,List.size_toArray,Lla,List.length_cons,List.length_nil];omega
theorem field_sm {w:Wd}(h:SmW w)(n:Int):SmV (fieldW w n).1:=by
 unfold fieldW;split
 ·exact smV_nothing
 split
 ·exact smV_read h.rcd
 split
 ·refine smV_read ?_;rw[List.getD_eq_getElem?_getD];rcases hq:w.flds[n.toNat-1]? with _ | s
  ·decide
  exact h.flds s (List.mem_of_getElem? hq)
 exact smV_nothing
theorem cell_sm {top:List Cell}(h:∀ c ∈ top,SmC c)(i:Nat):SmC (top.getD i c0):=by
 rw[List.getD_eq_getElem?_getD];rcases hq:top[i]? with _ | c
 ·exact smC_c0
 exact h c (List.mem_of_getElem? hq)
theorem nextK_mem {a:List (BA × Val)}{l:LY}{k:BA}{r:LY} (h:nextK a l=some (k,r)):k ∈ l∧∀ x ∈ r,x ∈ l:=by
 induction l with
 | nil=>cases h
 | cons x l ih=>
  simp only[nextK] at h;split at h
  ·simp only[Option.some.injEq,Prod.mk.injEq] at h;obtain⟨rfl,rfl⟩:=h;exact⟨List.mem_cons_self,fun y hy=>List.mem_cons_of_mem _ hy⟩
  obtain⟨h1,h2⟩:=ih h;exact⟨List.mem_cons_of_mem _ h1,fun y hy=>List.mem_cons_of_mem _ (h2 y hy)⟩
theorem one_sm {c:Cell}(h:SmC c):∀ x ∈ [c],SmC x:=by
 intro x hx;simp only[List.mem_singleton] at hx;subst hx;exact h
theorem eff_sm {E:Env}(hE:SmE E){w:Wd}(h:SmW w){locs:List Val}(hl:∀ v ∈ locs,SmV v):∀ {op a b:Nat}{top:List Cell},op<54→(op=0→a<2000000001)→(∀ c ∈ top,SmC c) →
  SmW (eff E w locs op a b top).w∧(∀ v ∈ (eff E w locs op a b top).locs,SmV v)∧∀ c ∈ (eff E w locs op a b top).top,SmC c:=by
 intro op a b top hop ha ht
 match op,hop with
 | 0,_=>
  exact⟨h,hl,one_sm (smC_cv (smV_whole (signed_sm (ha rfl)).1 (signed_sm (ha rfl)).2))⟩
 | 1,_=>
  refine⟨h,hl,one_sm (smC_cv (smV_words ?_))⟩
  rw[List.getD_eq_getElem?_getD]
  rcases hq:E.mo.texts[a]? with _ | s
  ·decide
  ·exact hE.texts s (List.mem_of_getElem? hq)
 | 2,_=>
  exact⟨h,hl,one_sm (smC_cv smV_nothing)⟩
 | 3,_=>
  exact⟨h,hl,one_sm (smC_cv (getD_sm hl a))⟩
 | 4,_=>
  exact⟨h,set_sm hl a (cell_sm ht 0).1,by simp[eff,Eff.off]⟩
 | 5,_=>
  exact⟨h,hl,one_sm (smC_cv (getD_sm h.globs a))⟩
 | 6,_=>
  exact⟨{ h with globs:=set_sm h.globs a (cell_sm ht 0).1 },hl,by simp[eff,Eff.off]⟩
 | 7,_=>
  exact⟨h,hl,one_sm (smC_cv (field_sm h _))⟩
 | 8,_=>
  exact⟨setField_sm h _ (textV_sm hE (cell_sm ht 1).1),hl,by simp[eff,Eff.off]⟩
 | 9,_=>
  have:=h.nf
  exact⟨h,hl,one_sm (smC_cv (smV_whole (by omega) (by omega)))⟩
 | 10,_=>
  have:=h.nr
  have:=h.nrec
  exact⟨h,hl,one_sm (smC_cv (smV_whole (by omega) (by omega)))⟩
 | 11,_=>
  have hA:=arr_sm h.arrs a
  simp only[eff]
  split
  ·exact⟨h,hl,one_sm (smC_cv (getK_sm hA.each _))⟩
  ·split
   ·exact⟨h,hl,by simp[Eff.bad]⟩
   ·rename_i h2
    exact⟨{ h with arrs:=set_arr h.arrs a (setK_sm hA (cell_sm ht 0).1.sz smV_nothing (Or.inr (by omega))) },hl,one_sm (smC_cv smV_nothing)⟩
 | 12,_=>
  have hA:=arr_sm h.arrs a
  simp only[eff]
  split
  ·exact⟨h,hl,by simp[Eff.bad]⟩
  ·rename_i h2
   refine⟨{ h with arrs:=set_arr h.arrs a (setK_sm hA (cell_sm ht 0).1.sz (cell_sm ht 1).1 ?_) },hl,by simp[Eff.off]⟩
   cases hh:hasK (w.arrs.getD a []) (top.getD 0 c0).v.s with
   | true=>exact Or.inl rfl
   | false=>
    rw[hh] at h2
    simp only[true_and] at h2
    exact Or.inr (by omega)
 | 13,_=>
  exact⟨h,hl,one_sm (smC_cv (truth_sm _))⟩
 | 14,_=>
  exact⟨{ h with arrs:=set_arr h.arrs a (dropK_sm (arr_sm h.arrs a) _) },hl,by simp[eff,Eff.off]⟩
 | 15,_=>
  exact⟨{ h with arrs:=set_arr h.arrs a ⟨by simp,by simp[keysA],by simp⟩ },hl,by simp[eff,Eff.off]⟩
 | 16,_=>
  have hA:=arr_sm h.arrs a
  refine⟨h,hl,one_sm ⟨smV_nothing,?_⟩⟩
  intro k hk
  obtain⟨e,he,rfl⟩:=List.mem_map.1 hk
  exact (hA.each e he).1
 | 17,_=>
  simp only[eff]
  split
  ·exact⟨h,hl,by simp⟩
  ·rename_i k l hn
   obtain⟨n1,n2⟩:=nextK_mem hn
   have hc:=cell_sm ht 0
   refine⟨h,hl,?_⟩
   intro c hc'
   simp only[List.mem_cons,List.not_mem_nil,or_false] at hc'
   rcases hc' with rfl | rfl
   ·exact⟨hc.1,fun x hx=>hc.2 x (n2 x hx)⟩
   ·exact smC_cv (smV_words (hc.2 k n1))
 | 18,_=>
  exact⟨h,hl,one_sm (smC_cv (smV_whole (sum_sm hE).1 (sum_sm hE).2))⟩
 | 19,_=>
  exact⟨h,hl,one_sm (smC_cv (smV_whole (sum_sm hE).1 (sum_sm hE).2))⟩
 | 20,_=>
  exact⟨h,hl,one_sm (smC_cv (smV_whole (sum_sm hE).1 (sum_sm hE).2))⟩
 | 21,_=>
  exact⟨h,hl,one_sm (smC_cv (smV_whole (sum_sm hE).1 (sum_sm hE).2))⟩
 | 22,_=>
  exact⟨h,hl,one_sm (smC_cv (smV_whole (sum_sm hE).1 (sum_sm hE).2))⟩
 | 23,_=>
  have h1:=(cell_sm ht 0).1
  have hw:E.wr (-(top.getD 0 c0).v.n) = -(top.getD 0 c0).v.n:=hE.wr _ (by have:=h1.lo;have:=h1.hi;omega) (by have:=h1.lo;have:=h1.hi;omega)
  refine⟨h,hl,one_sm (smC_cv ?_)⟩
  rw[hw]
  exact smV_whole (by have:=h1.hi;omega) (by have:=h1.lo;omega)
 | 24,_=>
  exact⟨h,hl,one_sm (smC_cv (truth_sm _))⟩
 | 25,_=>
  simp only[eff]
  split
  ·exact⟨h,hl,by simp[Eff.bad]⟩
  ·refine⟨h,hl,one_sm (smC_cv (smV_words ?_))⟩
   rw[ByteArray.size_append]
   omega
 | 26,_=>
  exact⟨h,hl,one_sm (smC_cv (smV_whole (numV_sm (cell_sm ht 0).1).1 (numV_sm (cell_sm ht 0).1).2))⟩
 | 27,_=>
  exact⟨h,hl,one_sm (smC_cv (smV_words (textV_sm hE (cell_sm ht 0).1)))⟩
 | 28,_=>
  exact⟨h,hl,one_sm (smC_cv (truth_sm _))⟩
 | 29,_=>
  exact⟨h,hl,one_sm (smC_cv (truth_sm _))⟩
 | 30,_=>
  exact⟨h,hl,one_sm (smC_cv (truth_sm _))⟩
 | 31,_=>
  exact⟨h,hl,one_sm (smC_cv (truth_sm _))⟩
 | 32,_=>
  exact⟨h,hl,one_sm (smC_cv (truth_sm _))⟩
 | 33,_=>
  exact⟨h,hl,one_sm (smC_cv (truth_sm _))⟩
 | 34,_=>
  exact⟨h,hl,one_sm (smC_cv (truth_sm _))⟩
 | 35,_=>
  have hf:=hE.fnd (E.mo.pats.getD a none0) _ (cell_sm ht 0).1.sz
  exact⟨h,hl,one_sm (smC_cv (smV_whole (by omega) (by omega)))⟩
 | 36,_=>
  have hf:=hE.fnd (E.mo.pats.getD a none0) _ (cell_sm ht 0).1.sz
  refine⟨h,hl,one_sm (smC_cv ?_)⟩
  split
  ·exact smV_whole (by omega) (by omega)
  ·exact smV_whole (by omega) (by omega)
 | 37,_=>
  simp only[eff]
  split
  ·exact⟨h,hl,by simp[Eff.bad]⟩
  ·exact⟨h,hl,one_sm (smC_cv (smV_words (by omega)))⟩
 | 38,_=>
  simp only[eff]
  split
  ·exact⟨h,hl,by simp[Eff.bad]⟩
  ·rename_i hn
   obtain⟨f1,f2⟩:=fillA_sm hE (hE.spl (E.mo.pats.getD b none0) _ (cell_sm ht 0).1.sz) (i:=0) (by omega)
   exact⟨{ h with arrs:=set_arr h.arrs a ⟨by rw[fillA_length];omega,f1,f2⟩ },hl,one_sm (smC_cv (smV_whole (by omega) (by omega)))⟩
 | 39,_=>
  have:=(cell_sm ht 0).1.sz
  exact⟨h,hl,one_sm (smC_cv (smV_whole (by omega) (by omega)))⟩
 | 40,_=>
  refine⟨h,hl,one_sm (smC_cv (smV_words ?_))⟩
  have h1:=(cell_sm ht 0).1.sz
  have h2:=part_length (top.getD 1 c0).v.n (E.wr ((top.getD 1 c0).v.n+(top.getD 2 c0).v.n)) 0 (bl (top.getD 0 c0).v.s)
  have h3:(bl (top.getD 0 c0).v.s).length=(top.getD 0 c0).v.s.size:=Array.length_toList
  simp only[ByteArray.size,List.size_toArray] at h1 h3 ⊢
  omega
 | 41,_=>
  have h1:=(cell_sm ht 0).1.sz
  have h2:=index_le (bl (top.getD 1 c0).v.s) 0 (bl (top.getD 0 c0).v.s)
  have h3:(bl (top.getD 0 c0).v.s).length=(top.getD 0 c0).v.s.size:=Array.length_toList
  exact⟨h,hl,one_sm (smC_cv (smV_whole (by omega) (by omega)))⟩
 | 42,_=>
  exact⟨nextR_sm h,hl,one_sm (smC_cv (truth_sm _))⟩
 | 43,_=>
  simp only[eff]
  split
  ·exact⟨h,hl,one_sm (smC_cv (smV_whole (by omega) (by omega)))⟩
  ·rename_i n hn
   have hd:=h.draws n (List.mem_of_getElem? hn)
   have hlt:w.drawn<w.draws.length:=by
    rw[Lgs] at hn
    exact hn.1
   exact⟨{ h with drawn:=hlt },hl,one_sm (smC_cv (smV_whole hd.1 hd.2))⟩
 | 44,_=>
  exact⟨print_sm h _,hl,by simp[eff,Eff.off]⟩
 | 45,_=>
  refine⟨h,hl,?_⟩
  intro c hc
  simp only[eff,List.mem_cons,List.not_mem_nil,or_false] at hc
  rcases hc with rfl | rfl <;> exact cell_sm ht 0
 | 46,_=>
  refine⟨h,hl,?_⟩
  intro c hc
  simp only[eff,List.mem_cons,List.not_mem_nil,or_false] at hc
  rcases hc with rfl | rfl | rfl
  ·exact cell_sm ht 1
  ·exact cell_sm ht 0
  ·exact cell_sm ht 1
 | 47,_=>
  exact⟨h,hl,by simp[eff,Eff.off]⟩
 | 48,_=>
  exact⟨h,hl,by simp[eff]⟩
 | 49,_=>
  exact⟨h,hl,by simp[eff]⟩
 | 50,_=>
  exact⟨h,hl,by simp[eff,Eff.off]⟩
 | 51,_=>
  exact⟨h,hl,by simp[eff,Eff.off]⟩
 | 52,_=>
  exact⟨h,hl,by simp[eff,Eff.off]⟩
 | 53,_=>
  exact⟨h,hl,by simp[eff]⟩
 | n+54,h=>exact absurd h (by omega)
end Mach
namespace Mach
open Wire Flow
def Plays (E:Env):Nat→St→St→Prop
 | 0,s,s'=>s=s'
 | n+1,s,s'=>(s.st≠0∧s=s')∨(s.st=0∧∃ low fr i rest top,Ready E s low fr i rest top∧Plays E n (does E s low fr i rest top) s')
theorem Plays.ended {E:Env}{n:Nat}{s s':St} (h:Plays E n s s') (hs:s.st≠0):s'=s:=by
 cases n with
 | zero=>exact h.symm
 | succ n=>
  rcases h with ⟨-,h⟩ | ⟨h,-⟩
  ·exact h.symm
  exact absurd h hs
theorem plays_ended (E:Env)(n:Nat){s:St}(hs:s.st≠0):Plays E n s s:=by
 cases n with
 | zero=>rfl
 | succ n=>exact Or.inl ⟨hs,rfl⟩
theorem Plays.unique {E:Env}{n:Nat}{s a b:St} (h:Plays E n s a) (g:Plays E n s b):a=b:=by
 induction n generalizing s with
 | zero=>exact h.symm.trans g
 | succ n ih=>
  rcases h with ⟨h1,h2⟩ | ⟨h1,low,fr,i,rest,top,h2,h3⟩
  ·exact h2.symm.trans ((Plays.ended g h1).symm)
  rcases g with ⟨g1,g2⟩ | ⟨g1,low',fr',i',rest',top',g2,g3⟩
  ·exact absurd h1 g1
  obtain⟨rfl,rfl,rfl,rfl,rfl⟩:=h2.unique g2;exact ih h3 g3
theorem Plays.append {E:Env}{m n:Nat}{s a b:St} (h:Plays E m s a) (g:Plays E n a b):Plays E (m+n) s b:=by
 induction m generalizing s with
 | zero=>
  have e:s=a:=h;subst e;rw[Nat.zero_add];exact g
 | succ m ih=>
  rcases h with ⟨h1,h2⟩ | ⟨h1,low,fr,i,rest,top,h2,h3⟩
  ·subst h2;rw[Plays.ended g h1];exact plays_ended E _ h1
  rw[show m+1+n=(m+n)+1 by omega];exact Or.inr ⟨h1,low,fr,i,rest,top,h2,ih h3⟩
theorem Plays.split {E:Env}{m n:Nat}{s b:St} (h:Plays E (m+n) s b):∃ a,Plays E m s a∧Plays E n a b:=by
 induction m generalizing s with
 | zero=>exact⟨s,rfl,by rw[Nat.zero_add] at h;exact h⟩
 | succ m ih=>
  rw[show m+1+n=(m+n)+1 by omega] at h;rcases h with ⟨h1,h2⟩ | ⟨h1,low,fr,i,rest,top,h2,h3⟩
  ·subst h2;exact⟨s,plays_ended E _ h1,plays_ended E _ h1⟩
  obtain⟨a,h4,h5⟩:=ih h3;exact⟨a,Or.inr ⟨h1,low,fr,i,rest,top,h2,h4⟩,h5⟩
theorem Plays.more {E:Env}{n:Nat}{s a:St} (h:Plays E n s a) (ha:a.st=0) {low:List Frm}{fr:Frm}{i:Stp}{rest top:List Cell} (hR:Ready E a low fr i rest top):Plays E (n+1) s (does E a low fr i rest top):=
 h.append (n:=1) (Or.inr ⟨ha,low,fr,i,rest,top,hR,rfl⟩)
structure ModOk (m:Mo):Prop where
 three:3≤m.fns.length
 fns:∀ f,f<m.fns.length→FnOk m f
 par:∀ f,f<m.fns.length→parOf m f≤locsOf m f
theorem operand_call {m:Mo}{f locs:Nat}{c:LB}{i:Nat}{s:Stp} (h:decodeL m f locs c i=.inr s):∀ sort,sortsT.getD s.op 0=sort→sort≠0→fitN m locs sort s.a=true:=by
 unfold decodeL at h;split at h
 ·split at h
  ·rename_i h0
   simp only[Sum.inr.injEq] at h;subst h;intro sort hs hne;simp only at hs;exact absurd (hs.symm.trans h0) hne
  split at h
  ·cases h
  ·rename_i n j hop
   obtain⟨-,-,hf⟩:=operandL_next hop;split at h
   ·split at h
    ·cases h
    simp only[Sum.inr.injEq] at h;subst h;intro sort hs hne;simp only at hs ⊢;rw[← hs];exact hf
   simp only[Sum.inr.injEq] at h;subst h;intro sort hs hne;simp only at hs ⊢;rw[← hs];exact hf
 cases h
theorem fitN_iff {m:Mo}{locs sort n:Nat} (h:fitN m locs sort n=true):low sort≤n∧n<above m locs sort:=by
 unfold fitN at h;simpa using h
theorem Ready.call {E:Env}{s:St}{low:List Frm}{fr:Frm}{i:Stp}{rest top:List Cell} (hR:Ready E s low fr i rest top) (h:i.op=50):3≤i.a∧i.a<E.mo.fns.length:=by
 have:=fitN_iff (operand_call hR.dec 9 (by rw[h];rfl) (by decide));simpa [Flow.low,above] using this
theorem Ready.num {E:Env}{s:St}{low:List Frm}{fr:Frm}{i:Stp}{rest top:List Cell} (hR:Ready E s low fr i rest top) (h:i.op=0):i.a<2000000001:=by
 have:=fitN_iff (operand_call hR.dec 1 (by rw[h];rfl) (by decide));simpa [Flow.low,above] using this
def SmF (frs:List Frm):Prop:=∀ g ∈ frs,(∀ v ∈ g.locs,SmV v)∧∀ c ∈ g.stk,SmC c
structure Good (E:Env) (s:St):Prop where
 w:SmW s.w
 arrs:s.w.arrs.length=E.mo.arrs.toNat
 globs:s.w.globs.length=E.mo.globs.toNat
 inv:s.st=0→Inv E.mo s.frs∧SmF s.frs∧s.frs.length≤21
theorem eff_size {E:Env}{w:Wd}{locs:List Val}{op a b:Nat}{top:List Cell}:(eff E w locs op a b top).w.arrs.length=w.arrs.length∧(eff E w locs op a b top).w.globs.length=w.globs.length:=by
 have n1:(nextR w).1.arrs=w.arrs∧(nextR w).1.globs=w.globs:=by
  unfold nextR;split <;> exact⟨rfl,rfl⟩
 have n2:∀ n s,(setFieldW w n s).1.arrs=w.arrs∧(setFieldW w n s).1.globs=w.globs:=by
  intro n s;unfold setFieldW;split
  ·exact⟨rfl,rfl⟩
  split
  ·exact⟨rfl,rfl⟩
  split <;> exact⟨rfl,rfl⟩
 have n3:∀ l,(printW w l).1.arrs=w.arrs∧(printW w l).1.globs=w.globs:=by
  intro l;unfold printW;split <;> exact⟨rfl,rfl⟩
 unfold eff;split <;> (try exact⟨rfl,rfl⟩)
 ·simp[Eff.off]
 ·simp only[Eff.off];rw[(n2 _ _).1,(n2 _ _).2];exact⟨rfl,rfl⟩
 ·split <;> (try split) <;> simp[Eff.put,Eff.bad]
 ·split <;> simp[Eff.off,Eff.bad]
 ·simp[Eff.off]
 ·simp[Eff.off]
 ·split <;> exact⟨rfl,rfl⟩
 ·split <;> exact⟨rfl,rfl⟩
 ·split <;> exact⟨rfl,rfl⟩
 ·split <;> simp[Eff.put,Eff.bad]
 ·simp only[Eff.put];rw[n1.1,n1.2];exact⟨rfl,rfl⟩
 ·split <;> exact⟨rfl,rfl⟩
 simp only[Eff.off];rw[(n3 _).1,(n3 _).2];exact⟨rfl,rfl⟩
theorem smF_enter (m:Mo)(f:Nat){args:List Val}(h:∀ v ∈ args,SmV v):(∀ v ∈ (enter m f args).locs,SmV v)∧∀ c ∈ (enter m f args).stk,SmC c:=by
 refine⟨?_,by simp[enter]⟩;intro v hv;simp only[enter] at hv;rcases List.mem_append.1 hv with hv | hv
 ·exact h v hv
 rw[List.eq_of_mem_replicate hv];exact smV_nothing
theorem Good.does {E:Env}(hE:SmE E)(hM:ModOk E.mo){s:St}(hG:Good E s)(hs:s.st=0){low:List Frm}{fr:Frm}{i:Stp}{rest top:List Cell} (hR:Ready E s low fr i rest top):Good E (does E s low fr i rest top):=by
 obtain⟨hI,hF,hn⟩:=hG.inv hs;have hinv:=fun hst=>Inv.does hI hM.fns hM.three hM.par hR.call hR hst;have hop:i.op<54:=by
  obtain⟨-,-,-,-,hm⟩:=decodeL_next hR.at_ hR.dec;exact mayOp_lt hm
 have hfr:=hF fr (by rw[hR.frs];simp);have hlow:∀ g ∈ low,(∀ v ∈ g.locs,SmV v)∧∀ c ∈ g.stk,SmC c:=fun g hg=>hF g (by rw[hR.frs];simp[hg]);have hrest:∀ c ∈ rest,SmC c:=fun c hc=>hfr.2 c (by rw[hR.stk];simp[hc]);have htop:∀ c ∈ top,SmC c:=fun c hc=>hfr.2 c (by rw[hR.stk];simp[hc]);have hlen:low.length+1≤21:=by
  rw[hR.frs] at hn;simpa using hn
 obtain⟨e1,e2,e3⟩:=eff_sm hE hG.w (locs:=fr.locs) hfr.1 (b:=i.b) hop hR.num htop
 revert hinv
 unfold Mach.does;split
 ·split
  ·intro _;exact⟨hG.w,hG.arrs,hG.globs,fun h=>by cases h⟩
  ·rename_i h20
   intro hinv;refine⟨hG.w,hG.arrs,hG.globs,fun h=>⟨hinv h,?_,?_⟩⟩
   ·intro g hg;rcases List.mem_append.1 hg with hg | hg
    ·exact hlow g hg
    simp only[List.mem_cons,List.not_mem_nil,or_false] at hg;rcases hg with rfl | rfl
    ·exact⟨hfr.1,hrest⟩
    refine smF_enter _ _ ?_;intro v hv;obtain⟨c,hc,rfl⟩:=List.mem_map.1 hv;exact (htop c hc).1
   simp only[Lla,List.length_cons,List.length_nil];omega
 split
 ·intro hinv;rcases List.eq_nil_or_concat low with h0 | ⟨low2,g,h0⟩
  ·subst h0;simp only[List.getLast?_nil];exact hG
  have h0':low=low2++[g]:=by simpa using h0
  subst h0';simp only[List.getLast?_append,List.getLast?_singleton,Option.some_or,List.dropLast_concat] at hinv ⊢;refine⟨hG.w,hG.arrs,hG.globs,fun h=>⟨hinv h,?_,?_⟩⟩
  ·intro x hx;rcases List.mem_append.1 hx with hx | hx
   ·exact hlow x (by simp[hx])
   simp only[List.mem_singleton] at hx;subst hx;have hg:=hlow g (by simp);refine⟨hg.1,?_⟩;intro c hc;rcases List.mem_append.1 hc with hc | hc
   ·exact hg.2 c hc
   simp only[List.mem_singleton] at hc;subst hc;exact smC_cv (cell_sm htop 0).1
  simp only[Lla,List.length_cons,List.length_nil] at hlen ⊢;omega
 split
 ·intro hinv;unfold over at hinv ⊢;have n1:(nextR s.w).1.arrs=s.w.arrs∧(nextR s.w).1.globs=s.w.globs:=by
   unfold nextR;split <;> exact⟨rfl,rfl⟩
  split
  ·exact⟨hG.w,hG.arrs,hG.globs,fun h=>by cases h⟩
  ·rename_i h2
   rw[if_neg h2] at hinv;split
   ·rename_i h3
    rw[if_pos h3] at hinv;refine⟨nextR_sm hG.w,by rw[← hG.arrs];exact congrArg _ n1.1,by rw[← hG.globs];exact congrArg _ n1.2,fun h=>⟨hinv h,?_,by simp⟩⟩;intro g hg;simp only[List.mem_singleton] at hg;subst hg;exact smF_enter _ _ (by simp)
   ·rename_i h3
    rw[if_neg h3] at hinv;refine⟨hG.w,hG.arrs,hG.globs,fun h=>⟨hinv h,?_,by simp⟩⟩;intro g hg;simp only[List.mem_singleton] at hg;subst hg;exact smF_enter _ _ (by simp)
 split
 ·rename_i hne
  intro _;exact⟨e1,by rw[← hG.arrs];exact eff_size.1,by rw[← hG.globs];exact eff_size.2,fun h=>absurd h hne⟩
 intro hinv;refine⟨e1,by rw[← hG.arrs];exact eff_size.1,by rw[← hG.globs];exact eff_size.2,fun h=>⟨hinv h,?_,?_⟩⟩
 ·intro g hg;rcases List.mem_append.1 hg with hg | hg
  ·exact hlow g hg
  simp only[List.mem_singleton] at hg;subst hg;refine⟨e2,?_⟩;intro c hc;rcases List.mem_append.1 hc with hc | hc
  ·exact hrest c hc
  exact e3 c hc
 simp only[Lla,List.length_cons,List.length_nil];omega
def begin_ (m:Mo) (recs:LY) (draws:List Int):St:=
 ⟨⟨recs,0,draws,0,none0,[],none0,List.replicate m.globs.toNat nothing,List.replicate m.arrs.toNat []⟩,[enter m 0 []],0,0,0⟩
theorem good_begin {E:Env}(hM:ModOk E.mo){recs:LY}{draws:List Int} (h1:recs.length≤50) (h2:∀ s ∈ recs,s.size≤100) (h3:draws.length≤50) (h4:∀ n ∈ draws,-1000000000≤n∧n≤1000000000):Good E (begin_ E.mo recs draws) where
 w:={
  recs:=h2
  nr:=Nat.zero_le _
  nrec:=h1
  draws:=h4
  ndr:=h3
  drawn:=Nat.zero_le _
  rcd:=(by decide:none0.size≤100)
  flds:=by simp[begin_]
  nf:=by simp[begin_]
  out:=(by decide:none0.size≤1000)
  globs:=by
   intro v hv;rw[List.eq_of_mem_replicate hv];exact smV_nothing
  arrs:=by
   intro v hv;rw[List.eq_of_mem_replicate hv];exact⟨by simp,by simp[keysA],by simp⟩ }
 arrs:=by simp[begin_]
 globs:=by simp[begin_]
 inv:=fun _=>⟨inv_enter (by omega) (by have:=hM.three;omega) (hM.fns 0 (by have:=hM.three;omega)),by
  intro g hg;simp only[begin_,List.mem_singleton] at hg;subst hg;exact smF_enter _ _ (by simp),by simp[begin_]⟩
end Mach
namespace Flow
def ab (x:Nat):UInt8:=if x=1 then 110 else if x=2 then 116 else if x=3 then 97 else if x=4 then 107 else 106
def Bits (x:Nat):Prop:=0<x∧x<8
def bc (x:Nat):Nat:=x % 2+x / 2 % 2+x / 4 % 2
def BitsL (s:LN):Prop:=∀ x,x ∈ s→Bits x
def abL (s:LN):LB:=s.map ab
def orL (s t:LN):LN:=List.zipWith (· ||| ·) s t
theorem abL_length (s:LN):(abL s).length=s.length:=by simp[abL]
theorem abL_append (s t:LN):abL (s++t)=abL s++abL t:=by simp[abL]
theorem orL_length {s t:LN}(h:s.length=t.length):(orL s t).length=s.length:=by simp[orL,h]
theorem BitsL.cons {x:Nat}{s:LN} (h:BitsL (x :: s)):Bits x∧BitsL s:=⟨h x (by simp),fun y hy=>h y (by simp[hy])⟩
theorem BitsL.append {s t:LN}(h:BitsL s)(g:BitsL t):BitsL (s++t):=by
 intro y hy;rcases List.mem_append.1 hy with hy | hy
 ·exact h y hy
 exact g y hy
def abG (G:List (Option (LN))):List (Option (LB)):=G.map (Option.map abL)
theorem abG_set (G:List (Option (LN)))(i:Nat)(s:LN):abG (G.set i (some s))=(abG G).set i (some (abL s)):=by
 simp[abG,List.map_set]
def BitsG (G:List (Option (LN))):Prop:=∀ (i:Nat) s,G[i]?=some (some s)→BitsL s
theorem BitsG.set {G:List (Option (LN))}(h:BitsG G){i:Nat}{s:LN} (hs:BitsL s):BitsG (G.set i (some s)):=by
 intro j t hj;rw[List.getElem?_set] at hj;split at hj
 ·split at hj
  ·simp only[Option.some.injEq] at hj;subst hj;exact hs
  cases hj
 exact h j t hj
end Flow
namespace Flow
def popB (w:Nat) (st:LN):Option (LN):=
 match st.getLast? with
 | none=>none
 | some x=>if x &&& (w ^^^ 15)=0 then some st.dropLast else none
def takeR:LN→LN→Option (LN)
 | [],st=>some st
 | w :: r,st=>(popB w st).bind (takeR r)
theorem popB_snoc (w x:Nat)(s:LN):popB w (s++[x])=if x &&& (w ^^^ 15)=0 then some s else none:=by
 unfold popB;simp
theorem snoc_of {st:LN}(h:st≠[]):∃ s x,st=s++[x]:=⟨st.dropLast,st.getLast h,(List.dropLast_concat_getLast h).symm⟩
theorem takeR_shape (r st rest:LN)(h:takeR r st=some rest):rest=st.take rest.length:=by
 induction r generalizing st with
 | nil=>simp only[takeR,Option.some.injEq] at h;subst h;simp
 | cons w r ih=>
  simp only[takeR] at h;by_cases h0:st=[]
  ·subst h0;simp[popB] at h
  obtain⟨s,x,rfl⟩:=snoc_of h0;rw[popB_snoc] at h;split at h
  ·simp only[Option.bind_some] at h;have e:=ih s h;have hl:rest.length≤s.length:=by rw[e,List.length_take];omega
   rw[List.take_append_of_le_length hl];exact e
  cases h
theorem BitsL.take {s:LN}(h:BitsL s)(n:Nat):BitsL (s.take n):=fun x hx=>h x (List.mem_of_mem_take hx)
theorem BitsL.drop {s:LN}(h:BitsL s)(n:Nat):BitsL (s.drop n):=fun x hx=>h x (List.mem_of_mem_drop hx)
end Flow
end Go.Proofs.YtmolfmgchbjnbaaGreatDoor
