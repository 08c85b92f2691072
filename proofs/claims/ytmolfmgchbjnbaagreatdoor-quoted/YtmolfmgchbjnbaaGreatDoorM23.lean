import Derived.Deep.Upon
import Derived.Test.YtmolfmgchbjnbaaGreatDoorM22
set_option linter.unusedSimpArgs false
set_option linter.unusedVariables false
set_option linter.unusedSectionVars false
set_option maxRecDepth 100000
set_option maxHeartbeats 40000000
namespace Go.Proofs.YtmolfmgchbjnbaaGreatDoor.Ev
open Go
variable [Inhabited (Nat→BA)]
section
variable {P:Program}{G:Nat}{m:Mp}{h:AH}{w:WL}
theorem setK_none {i v:Value}(hf:keyV i):∀ {es:List (Value × Value)},findK i es=none→setK i v es=es++[(i,v)]
 | [],_=>rfl
 | (k,u) :: l,h=>by
  simp only[findK] at h
  cases hb:veq k i with
  | true=>simp[hb] at h
  | false=>
   simp only[hb,cond_false] at h
   simp[setK,hb,setK_none hf h]
theorem setK_at {i v u:Value}(hf:keyV i):∀ {es:List (Value × Value)}{j:Nat},(es.map (·.1)).Nodup→es[j]?=some (i,u)→setK i v es=es.set j (i,v)
 | [],j,_,h=>by simp at h
 | (k,q) :: l,0,_,h=>by
  simp at h
  obtain⟨rfl,rfl⟩:=h
  simp[setK,veq_refl hf]
 | (k,q) :: l,j+1,hn,h=>by
  simp at h
  simp only[List.map_cons,List.nodup_cons] at hn
  have:veq k i=false:=by
   cases hb:veq k i with
   | false=>rfl
   | true=>
    have e:=veq_eq hb
    subst e
    exact absurd (List.mem_map.2 ⟨_,List.mem_of_getElem? h,rfl⟩) hn.1
  simp[setK,this,setK_at hf hn.2 h]
theorem But.setObj (w:WL)(b:Nat)(o:Obj):But w { w with heap:=w.heap.setIfInBounds b o } b:=⟨rfl,rfl,rfl,by simp,fun q hq=>by simp[Array.getElem?_setIfInBounds_ne (Ne.symm hq)]⟩
theorem update_ok (R:Rel P G m h w){t:TypeId}{mv mv' k k' v v':Value} (hm:S3 m mv mv') (hk:S3 m k k') (hv:S3 m v v') {r:Value × AH} (hr:wUpdate P h t mv k v=some r):∃ w',(Instr.mapUpdate t mv' k' v').run P w=.ok () w'∧Wrote P G m h w r undef w':=by
 unfold wUpdate at hr;obtain⟨ke,hke,hr⟩:=bind_some hr;have hu:=mapT_ok hke;unfold wMap at hr;split at hr
 ·rename_i b
  cases hb:(keyT P ke.1 && one1 v) with
  | false=>rw[hb] at hr;cases hr
  | true=>
   rw[hb] at hr;simp only[cond_true] at hr;simp only[Bool.and_eq_true] at hb;obtain⟨b1,b3⟩:=hb;obtain⟨es,hes,hr⟩:=bind_some hr;cases b2:isKeyV P ke.1 k es with
   | false=>rw[b2] at hr;cases hr
   | true=>
   rw[b2] at hr;simp only[cond_true,Option.some.injEq] at hr;subst hr;obtain⟨kr,f2,hsm⟩:=isKeyV_ok b2 hk;have f1:=kr.key;obtain⟨q,rfl,hq⟩:=hm.mapS;rcases hq with hq | ⟨x,hq,rfl⟩
   ·obtain⟨x,xs,e0,-⟩:=R.liveMap hes hq;cases e0
   obtain⟨x',xs,e0,hg,⟨es',cl,h1,h2,h3⟩,-,-⟩:=R.liveMap hes hq;cases e0;simp only at h2 h3;obtain⟨lx,hlx⟩:=Option.isSome_iff_exists.1 f2;have hchk:=fun em=>(keyT_ok b1).check w em hlx;have hget:(getObj x.b).run P w=.ok (.map es' cl) w:=by simp[getObj,Sem.run,h1]
   have hset:∀ o:Obj,(setObj x.b o).run P w=.ok () { w with heap:=w.heap.setIfInBounds x.b o }:=fun o=>by simp[setObj,Sem.run,h1]
   have hlt:x.b<w.heap.size:=(Age.1 h1).1;have hv1:=hv.s1 b3;rcases find_ok (w:=w) b1 kr f2 hsm h2 h3 with ⟨g1,g2,g3⟩ | ⟨u,j,en,g1,g0,g2,g3,g4,g5⟩
   ·have hO:Ob P m (AO.map ke.1 (setK k v es)) x { w with heap:=w.heap.setIfInBounds x.b (.map (es'.push ⟨k',v',cl⟩) (cl+1)) }:=by
     refine .inr (.inl ⟨rfl,es'.push ⟨k',v',cl⟩,cl+1,by simp[hlt],?_,?_⟩)
     ·simp only[AO.map,setK_none f1 g1,Array.toList_push];exact h2.append (.cons ⟨kr,f2,hv1⟩ .nil)
     simp only[AO.map,setK_none f1 g1,List.map_append,List.map_cons,List.map_nil];refine List.nodup_append.2 ⟨h3,by simp,fun a ha b hb=>?_⟩;simp at hb;subst hb;rintro rfl;obtain⟨p,hp,e⟩:=List.mem_map.1 ha;exact findK_none f1 g1 p hp e
    obtain⟨R',E'⟩:=R.turn hq (fun o ho=>by rw[hg] at ho;cases ho;simp) hO (But.setObj w x.b _);exact⟨_,by simp[Instr.mapUpdate,run_underlying hu,hget,hchk,g2,hset],m,R',E',undef_s3⟩
   have hjl:j<es'.size:=by have:=(Lgs.1 g3).1;simpa using this
   have hO:Ob P m (AO.map ke.1 (setK k v es)) x { w with heap:=w.heap.setIfInBounds x.b (.map (es'.modify j fun e=>{ e with key:=k',val:=v' }) cl) }:=by
    refine .inr (.inl ⟨rfl,es'.modify j fun e=>{ e with key:=k',val:=v' },cl,by simp[hlt],?_,?_⟩)
    ·simp only[AO.map,setK_at f1 h3 g0];refine⟨by simp[h2.1],fun i p e hp he=>?_⟩;rw[Array.toList_modify,List.getElem?_modify] at he;by_cases c:j=i
     ·subst c;rw[g3] at he;simp at he;subst he;have hjl':j<es.length:=by rw[h2.1];simpa using hjl
      rw[List.getElem?_set_self hjl'] at hp;cases hp;exact⟨kr,f2,hv1⟩
     rw[List.getElem?_set_ne c] at hp;simp only[c,if_false,id_eq,Option.map_eq_map,Option.map_id'] at he;have he':es'.toList[i]?=some e:=by simpa using he
     exact h2.2 i p e hp he'
    simp only[AO.map,setK_at f1 h3 g0];have:(es.set j (k,v)).map (·.1)=es.map (·.1):=by
     apply List.ext_getElem?;intro i;rw[List.getElem?_map,List.getElem?_map];by_cases c:j=i
     ·subst c;have hjl':j<es.length:=by rw[h2.1];simpa using hjl
      rw[List.getElem?_set_self hjl',g0];rfl
     rw[List.getElem?_set_ne c]
    rw[this];exact h3
   obtain⟨R',E'⟩:=R.turn hq (fun o ho=>by rw[hg] at ho;cases ho;simp) hO (But.setObj w x.b _);have hkey:(es'[j]?.map (·.key)).getD k'=k':=by
    have:es'[j]?=some en:=by simpa using g3
    simp[this,g4]
   have hst:=(keyT_ok b1).stays w hlx;exact⟨_,by simp[Instr.mapUpdate,run_underlying hu,hget,hchk,g2,hset,hkey,hst],m,R',E',undef_s3⟩
 cases hr
theorem conv2_ok (R:Rel P G m h w){s d:TypeId}{v v':Value} (hv:S3 m v v') {r:Value × AH} (hr:wConv P h s d v=some r):∃ w',(convert s d v').run P w=.ok v' w'∧Wrote P G m h w r v' w':=by
 unfold wConv at hr;obtain⟨e,he,hr1⟩:=bind_some hr;clear hr;cases hb:(Nat.beq s d && isByte P e) with
 | false=>rw[hb] at hr1;cases hr1
 | true=>
  rw[hb] at hr1;simp only[cond_true] at hr1;simp only[Bool.and_eq_true] at hb;have hsd:=Nat.eq_of_beq_eq_true hb.1;subst hsd;have hu:=elemT_ok he;have hue:=isByte_ok hb.2;unfold wBytes at hr1;split at hr1
  ·rename_i a n c
   obtain⟨p,hp,rfl⟩:=map_some hr1;obtain⟨xs,e'⟩:=p;obtain⟨a',c',rfl,c1,c2,c3⟩:=hv.sl;obtain⟨b,off,sp⟩:=a;have hsp:sp=none:=c3.1;subst hsp;obtain⟨x,es,hm,rfl,hN,hg,hO,hlt,hbn⟩:=R.sl hp c3;have hO':=hO;obtain⟨hz,cc,lo,hi,h1,h2,h3,h4,h5⟩:=hO';have hsh:w.shape? x.b=some (e',cc.size):=by simp[World.shape?,h1]
   let w':WL:=w.freeze (Ad x.b cc.size) 1
   have hw':w'=w.freeze (Ad x.b cc.size) 1:=rfl;have hB:But w w' x.b:=⟨by simp[hw',World.freeze],by simp[hw',World.freeze],by simp[hw',World.freeze],by simp[hw',World.freeze],fun q hq=>by simp[hw',World.freeze,Array.getElem?_modify,Ne.symm hq]⟩;have hOb:Ob P m ⟨1,xs,e',es⟩ x w':=by
    have h1:w.heap[x.b]?=some (.cells cc e' (lo,hi)):=h1;by_cases q:lo=hi
    ·have:w'.heap[x.b]?=some (.cells cc e' (cc.size,cc.size+1)):=by simp[hw',World.freeze,Array.getElem?_modify,h1,q]
     exact .inl ⟨rfl,hz,cc,_,_,this,h2,.inr (Nat.le_refl _),h4,h5⟩
    have:w'.heap[x.b]?=some (.cells cc e' (min lo cc.size,max hi (cc.size+1))):=by simp[hw',World.freeze,Array.getElem?_modify,h1,q]
    exact .inl ⟨rfl,hz,cc,_,_,this,h2,.inr (by omega),h4,h5⟩
   obtain⟨R',E'⟩:=R.turn hm (fun o ho=>by rw[hg] at ho;cases ho;simp) hOb hB;refine⟨w',?_,m,?_⟩
   ·simp[convert,run_underlying hu,run_underlying hue,markStringish,hsh,hw']
   have hsame:∀ q,(h.set b ⟨1,xs,e',es⟩).get q=h.get q:=fun q=>by
    rw[AH.get_set (Nll hbn R.lim)];split
    ·rename_i e0;rw[e0,hg]
    rfl
   have Rh:Rel P G m h w':=⟨R.lim,fun q y ey=>by obtain⟨u1,u2,o,u3,u4⟩:=R'.row q y ey;exact⟨by rw[AH.set_n] at u1;exact u1,u2,o,by rw[← hsame q];exact u3,u4⟩,R.dead,R.inj,R.glo,R.top⟩;exact⟨Rh,⟨.refl m,Nat.le_refl _,fun q _ e0=>⟨e0,rfl⟩,fun q y e0=>.inl e0,fun _ _ z _=>z,E'.os,E'.tape,E'.output,E'.size,E'.blk⟩,hv⟩
  cases hr1
theorem Rel.kill (R:Rel P G m h w){b:Nat}{x:MB} (hm:m b=some (some x)) (hk:∀ o,h.get b=some o→o.k≠3) (hG:G≤b):Rel P G (m.put b none) (h.set b AO.dead) w∧Ext m (m.put b none) h (h.set b AO.dead) w w∧∀ r y,m.put b none r=some (some y)→y.b≠x.b:=by
 have hb:b<h.n:=(R.row b x hm).1;have hb4:b<4096:=Nll hb R.lim;have hoff:∀ r,r≠b→(h.set b AO.dead).get r=h.get r:=fun r hr=>by rw[AH.get_set hb4,if_neg hr]
 have hle:Le m (m.put b none):=fun r=>by
  by_cases c:r=b
  ·subst c;exact⟨fun _=>Mp.put_same m r none,fun _ _=>.inr (Mp.put_same m r none)⟩
  exact⟨fun e=>by rw[Mp.put_off m _ c];exact e,fun y e=>.inl (by rw[Mp.put_off m _ c];exact e)⟩
 have back:∀ r y,m.put b none r=some (some y)→r≠b∧m r=some (some y):=fun r y e=>by
  by_cases c:r=b
  ·subst c;rw[Mp.put_same] at e;cases e
  exact⟨c,by rw[Mp.put_off m _ c] at e;exact e⟩
 refine⟨⟨by rw[AH.set_n];exact R.lim,fun r y e=>?_,fun r e=>?_,fun r r' y y' e e' eb=>R.inj r r' y y' (back r y e).2 (back r' y' e').2 eb,fun g hg=>?_,fun r hr=>by rw[AH.set_n] at hr;rw[hoff r (by omega)];exact R.top r hr⟩,⟨hle,by rw[AH.set_n];omega,fun r hr e=>?_,fun r y e=>.inl (back r y e).2,fun r o' ho' hk'=>by rw[hoff r (by rintro rfl;exact hk o' ho' hk')];exact ho',rfl,rfl,rfl,Nat.le_refl _,fun q _ _=>rfl⟩,fun r y e eb=>(back r y e).1 (R.inj r b y x (back r y e).2 hm eb)⟩
 ·obtain⟨c,e⟩:=back r y e;obtain⟨h1,h2,q,h3,h4⟩:=R.row r y e;exact⟨by rw[AH.set_n];exact h1,h2,q,by rw[hoff r c];exact h3,h4.mono hle rfl⟩
 ·by_cases c:r=b
  ·subst c;exact⟨by rw[AH.set_n];exact hb,fun o ho=>by rw[AH.get_set hb4,if_pos rfl] at ho;cases ho;rfl⟩
  rw[Mp.put_off m _ c] at e;obtain⟨h1,h2⟩:=R.dead r e;exact⟨by rw[AH.set_n];exact h1,fun q hq=>h2 q (by rw[← hoff r c];exact hq)⟩
 ·obtain⟨y,e,e1,e2⟩:=R.glo g hg;exact⟨y,by rw[Mp.put_off m _ (by omega)];exact e,e1,e2⟩
 have c:r≠b:=by rintro rfl;rw[hm] at e;cases e
 exact⟨by rw[Mp.put_off m _ c];exact e,hoff r c⟩
theorem Rel.other (R:Rel P G m h w){q:Nat}{w':WL} (hB:But w w' q) (hq:∀ r y,m r=some (some y)→y.b≠q):Rel P G m h w':=
 ⟨R.lim,fun r y e=>by obtain⟨h1,h2,o,h3,h4⟩:=R.row r y e;exact⟨h1,by rw[hB.size];exact h2,o,h3,h4.mono (.refl m) (hB.blk y.b (hq r y e))⟩,R.dead,R.inj,R.glo,R.top⟩
theorem Rel.adopt (R:Rel P G m h w){r:Nat}(hr:r<h.n)(hm:m r=none){o:AO}(ho:h.get r=some o){x:MB}(hx:x.b<w.heap.size)(hq:∀ r y,m r=some (some y)→y.b≠x.b)(hO:∀ m',Le m m'→Ob P m' o x w):Rel P G (m.put r (some x)) h w:=by
 have hle:=Mp.put_le (some x) hm;refine⟨R.lim,fun q y e=>?_,fun q e=>?_,fun q q' y y' e e' eb=>?_,fun g hg=>?_,R.top⟩
 ·by_cases c:q=r
  ·subst c;rw[Mp.put_same] at e;cases e;exact⟨hr,hx,o,ho,hO _ hle⟩
  rw[Mp.put_off m _ c] at e;obtain⟨h1,h2,q',h3,h4⟩:=R.row q y e;exact⟨h1,h2,q',h3,h4.mono hle rfl⟩
 ·by_cases c:q=r
  ·subst c;rw[Mp.put_same] at e;cases e
  rw[Mp.put_off m _ c] at e;exact R.dead q e
 ·by_cases c:q=r
  ·by_cases c':q'=r
   ·rw[c,c']
   subst c;rw[Mp.put_same] at e;cases e;rw[Mp.put_off m _ c'] at e';exact absurd eb.symm (hq q' y' e')
  rw[Mp.put_off m _ c] at e;by_cases c':q'=r
  ·subst c';rw[Mp.put_same] at e';cases e';exact absurd eb (hq q y e)
  rw[Mp.put_off m _ c'] at e';exact R.inj q q' y y' e e' eb
 obtain⟨y,e,e1,e2⟩:=R.glo g hg;have:g≠r:=by rintro rfl;rw[hm] at e;cases e
 exact⟨y,by rw[Mp.put_off m _ this];exact e,e1,e2⟩
theorem tail_ok (R:Rel P G m h w){z k:Nat}{new:LV}{t:TypeId}{x x':Value} (hx:S3 m x x') (ht:srcOk P t x=true) (hv:aTail h z x=some (k,new)):∃ new',Src P z t x' k new' w∧L2 (S1 m) new new'∧new.length=k*z:=by
 unfold aTail at hv;split at hv
 ·rename_i k' c
  cases hb:Nat.beq k' 0 with
  | false=>rw[hb] at hv;cases hv
  | true=>
   rw[hb] at hv;simp only[cond_true,Option.some.injEq,Prod.mk.injEq] at hv;obtain⟨rfl,rfl⟩:=hv;have:=Nat.eq_of_beq_eq_true hb;subst this;rw[hx.slN];obtain⟨e,he⟩:=isSliceT_ok (P:=P) (t:=t) ht;exact⟨[],Src.ofNil w he c,.nil,by simp⟩
 ·rename_i b off k' c
  obtain⟨a,c',rfl,-,-,hs⟩:=hx.sl;unfold tailR at hv;split at hv
  ·rename_i xs e hr
   obtain⟨l,hl,hv⟩:=bind_some hv;simp only[Option.some.injEq,Prod.mk.injEq] at hv;obtain⟨rfl,rfl⟩:=hv;obtain⟨x,es,hm,rfl,-,hg,hO,-⟩:=R.sl hr hs;obtain⟨l',h1,h2⟩:=hO.cut hl;obtain⟨e',he⟩:=isSliceT_ok (P:=P) (t:=t) ht;have hlen:=(cut_ok hl).2.1;exact⟨l',Src.ofSlice w he _ _ _ l' (by rw[← h1.1];exact hlen) h2 (fun u hu=>by
    obtain⟨j,hj⟩:=List.getElem?_of_mem hu;have hlt:j<l.length:=by rw[h1.1];exact (Lgs.1 hj).1
    exact one_cell (h1.2 j _ u (Lge hlt) hj).one.2),h1,hlen⟩
  cases hv
 ·rename_i s
  cases hb:Nat.beq z 1 with
  | false=>rw[hb] at hv;cases hv
  | true=>
   rw[hb] at hv;simp only[cond_true,Option.some.injEq,Prod.mk.injEq] at hv;obtain⟨rfl,rfl⟩:=hv;have:=Nat.eq_of_beq_eq_true hb;subst this;rw[hx.string];have hu:P.underlying t=some .string:=isStr_ok ht;refine⟨byteCells s,?_,?_,by simp⟩
   ·have:=Src.ofString w hu s;have e:s.size=s.data.toList.length:=by simp
    rw[← e];exact this
   exact flats_l2 (List.all_eq_true.2 fun q hq=>by
    obtain⟨b,-,rfl⟩:=List.mem_map.1 hq;rfl)
 cases hv
theorem zeroCells_size (z:Array Value)(n:Nat):(Builtin.zeroCells z n).size=n*z.size:=by simp[Builtin.zeroCells]
end
end Go.Proofs.YtmolfmgchbjnbaaGreatDoor.Ev
namespace Go.Proofs.YtmolfmgchbjnbaaGreatDoor.Ev
open Go
variable [Inhabited (Nat→BA)]
section
variable {P:Program}{G:Nat}{m:Mp}{h:AH}{w:WL}
theorem grownCap_ge (w:WL)(need old:Nat)(e:TypeId):need≤grownCap w need old e:=by simp[grownCap,Question.cut]
theorem grow_ok (R:Rel P G m h w)(hn:h.n<4096){t t' ty e:TypeId}{i:TypeInfo}{zv:Value} (ht:P.underlying t=some (.slice e)) (hi:P.info? e=some i) (hz:i.zero=some zv) (hzs:zv.cells.size=i.size) (hby:i.bytes≤1048576) {base:OA}{n cap k:Nat}{old old' new new':LV}{x':Value}
  (hold:(Builtin.firstCells i.size n (.slice base n cap)).run P w.drew=.ok old'.toArray w.drew) (hol:L2 (S1 m) old old') (hold2:old.length=n*i.size) (hs:Src P i.size t' x' k new' w) (hnl:L2 (S1 m) new new') (hnew2:new.length=k*i.size) (hg:cap<n+k) (hlim:n+k≤1048576) :
  ∃ v' w',(Builtin.append_ #[t,t'] ty #[.slice base n cap,x']).run P w=.ok v' w'∧∃ m',Rel P G m' (h.new (AO.row e (old++new))) w'∧Ext m m' h (h.new (AO.row e (old++new))) w w'∧S3 m' (sliceTo (n+k) (n+k) h.n) v':=by
 have hfit:Builtin.nextslicecap (n+k) cap*i.bytes≤281474976710656:=growslice_fits hg (Nat.le_trans (Nat.mul_le_mul hlim hby) (by decide));have hrun:=run_append_grow_src (P:=P) w t t' ty e i zv ht hi hz base n cap old' hold x' k new' hs hg (by omega) hfit;have hcap:=grownCap_ge w (n+k) cap e;generalize grownCap w (n+k) cap e=nc at hrun hcap;generalize hc:(old'++new').toArray++Builtin.zeroCells zv.cells (nc-(n+k))=c at hrun;have hsz:c.size=nc*i.size:=by
  rw[← hc];simp only[Array.size_append,List.size_toArray,Lla,zeroCells_size,hzs,← hol.1,← hnl.1,hold2,hnew2];rw[← Nat.add_mul,← Nat.add_mul];congr 1;omega
 refine⟨_,_,hrun,?_⟩;have R1:Rel P G m h w.drew:=R.heap rfl;obtain⟨R2,E2⟩:=R1.newA hn (AO.row e (old++new));have hm0:m h.n=none:=R.none_at (Nat.le_refl _);have hO:∀ m',Le m m'→Ob P m' (AO.row e (old++new)) ⟨w.drew.heap.size,0,c.size,i.size⟩ (World.more w.drew (.cells c e (0,0))):=by
  intro m' hm;have hl:=hol.append hnl;refine .inl ⟨rfl,by simp[sizeT,AO.row,hi],c,0,0,(by show (w.drew.heap.push (.cells c e (0,0)))[w.drew.heap.size]?=_;exact Array.getElem?_push_size),rfl,.inl rfl,?_,fun j v hv=>?_⟩
  ·show 0+(old++new).length≤c.size;rw[Lla,hold2,hnew2,hsz,← Nat.add_mul,Nat.zero_add];exact Nat.mul_le_mul_right _ hcap
  obtain⟨y,hy,s⟩:=hl.at (show (old++new)[j]?=some v from hv);refine⟨y,?_,s.mono hm⟩;have hj:=(Lgs.1 hy).1;rw[Nat.zero_add,← Array.getElem?_toList,← hc,Array.toList_append,List.getElem?_append_left (by simpa using hj)];simpa using hy
 obtain⟨R3,L3,B3⟩:=R2.newB (r:=h.n) (by rw[AH.new_n];omega) hm0 (o:=AO.row e (old++new)) (by rw[AH.get_new hn,if_pos rfl]) (O:=.cells c e (0,0)) (x:=⟨w.drew.heap.size,0,c.size,i.size⟩) rfl hO;refine⟨m.put h.n (some ⟨w.drew.heap.size,0,c.size,i.size⟩),R3,⟨L3,E2.nn,fun r hr e0=>?_,fun r y e0=>?_,E2.tab,rfl,rfl,rfl,(by show w.heap.size≤(w.drew.heap.push _).size;simp),fun b hb _=>B3 b hb⟩,?_⟩
 ·exact⟨by rw[Mp.put_off m _ (by omega)];exact e0,(E2.keep r hr e0).2⟩
 ·by_cases c0:r=h.n
  ·subst c0;rw[Mp.put_same] at e0;cases e0;exact .inr ⟨Nat.le_refl _,.inl ⟨Nat.le_refl _,rfl⟩⟩
  rw[Mp.put_off m _ c0] at e0;exact .inl e0
 exact S0.s3 (v:=.slice (some _) _ _) (v':=.slice (some _) _ _) ⟨rfl,hcap,fun q=>by omega,rfl,rfl,.inr ⟨_,Mp.put_same m h.n _,rfl,rfl,by simp[hsz]⟩⟩
theorem infoOk_ok {i:TypeInfo}(hi:infoOk i=true):i.bytes≤1048576∧0<i.size∧∃ zv,i.zero=some zv∧zv.cells.size=i.size:=by
 unfold infoOk at hi;simp only[Bool.and_eq_true] at hi;obtain⟨⟨h1,h2⟩,h3⟩:=hi;refine⟨Nat.le_of_ble_eq_true h1,by simpa [Nat.blt_eq] using h2,?_⟩;unfold zeroOk at h3;split at h3
 ·rename_i zv hz
  simp only[Bool.and_eq_true] at h3;exact⟨zv,hz,by have:=Nat.eq_of_beq_eq_true h3.1;simpa using this⟩
 cases h3
theorem append_ok (R:Rel P G m h w){t t' ty:TypeId}{s s' x x':Value} (hs:S3 m s s') (hx:S3 m x x') (ht':srcOk P t' x=true) {r:Value × AH} (hr:aAppend P G h t s x=some r):∃ v' w',(Builtin.append_ #[t,t'] ty #[s',x']).run P w=.ok v' w'∧Wrote P G m h w r v' w':=by
 unfold aAppend at hr;split at hr
 case h_2=>cases hr
 case h_1=>
 rename_i base n cap
 obtain⟨e,he,hr1⟩:=bind_some hr;obtain⟨i,hi,hr2⟩:=bind_some hr1;clear hr hr1;have hu:=elemT_ok he;unfold appI at hr2;cases hio:infoOk i with
 | false=>rw[hio] at hr2;cases hr2
 | true=>
  rw[hio] at hr2;simp only[cond_true] at hr2;obtain⟨⟨k,new⟩,htl,hr3⟩:=bind_some hr2;clear hr2;obtain⟨hby,hpos,zv,hz,hzs⟩:=infoOk_ok hio;obtain⟨new',hsrc,hnl,hnlen⟩:=tail_ok R hx ht' htl;simp only[appK] at hr3;cases hroom:Nat.ble (n+k) cap with
  | true=>
   rw[hroom] at hr3;simp only[cond_true] at hr3;have hle:=Nat.le_of_ble_eq_true hroom;unfold appIn at hr3;split at hr3
   ·cases hk:Nat.beq k 0 with
    | false=>rw[hk] at hr3;cases hr3
    | true=>
     rw[hk] at hr3;simp only[cond_true,Option.some.injEq] at hr3;subst hr3;have hk0:=Nat.eq_of_beq_eq_true hk;subst hk0;have hn0:new'=[]:=by
      have:=hnl.1;rw[hnlen] at this;simp at this;exact List.eq_nil_of_length_eq_zero this.symm
     subst hn0;rw[hs.slN];exact⟨_,w,run_append_nothing w t t' ty e i hu hi none n cap (by omega) x' hsrc,m,R,.refl m h w,S0.s3 (v:=.slice none n cap) (v':=.slice none n cap) ⟨rfl,rfl⟩⟩
   ·rename_i b off
    obtain⟨a,cap',rfl,c1,c2,c3⟩:=hs.sl;unfold appInR at hr3;split at hr3
    ·rename_i xs e' hrow
     cases hee:Nat.beq e' e with
     | false=>rw[hee] at hr3;cases hr3
     | true=>
      rw[hee] at hr3;simp only[cond_true] at hr3;have ee:=Nat.eq_of_beq_eq_true hee;subst ee;obtain⟨l,hl,hr4⟩:=bind_some hr3;simp only[wrote,Option.some.injEq,mkSl_eq] at hr4;subst hr4;obtain⟨x0,es,hm,rfl,hN,hg,hO,-⟩:=R.sl hrow c3;obtain⟨e1,hle1⟩:=patch_ok hl;have hroomO:=hO.room;obtain⟨k1,k2⟩:=hO.patch hl hnl;obtain⟨R',E'⟩:=R.turn hm (fun o ho=>by rw[hg] at ho;cases ho;simp) k2 k1;have eoff:off+x0.s+n*i.size=off+n*i.size+x0.s:=by omega
      have hrun:=run_append_room_src (P:=P) w t t' ty e' i hu hi x0.b (off+x0.s) n cap' x' k new' hsrc (by omega) (fun j hj=>by rw[eoff];exact hO.there (by rw[← hnl.1] at hj;omega)) (fun j hj=>by rw[eoff];exact hO.thaw (by rw[← hnl.1] at hj;omega));rw[eoff] at hrun;exact⟨_,_,hrun,m,R',E',S0.s3 (v:=.slice (some _) _ _) (v':=.slice (some _) _ _) ⟨rfl,c1,c2,c3⟩⟩
    cases hr3
   cases hr3
  | false=>
   rw[hroom] at hr3;simp only[cond_false] at hr3;have hgt:cap<n+k:=by
    rcases Nat.lt_or_ge cap (n+k) with q | q
    ·exact q
    rw[Nat.ble_eq_true_of_le q] at hroom;cases hroom
   cases hlm:(Nat.ble (n+k) 1048576 && Nat.blt h.n 4096) with
   | false=>rw[hlm] at hr3;cases hr3
   | true=>
    rw[hlm] at hr3;simp only[cond_true] at hr3;simp only[Bool.and_eq_true] at hlm;have hlim:=Nat.le_of_ble_eq_true hlm.1;have hn:h.n<4096:=by simpa [Nat.blt_eq] using hlm.2
    unfold appTo at hr3;split at hr3
    ·cases hn0:Nat.beq n 0 with
     | false=>rw[hn0] at hr3;cases hr3
     | true=>
      rw[hn0] at hr3;simp only[cond_true,fresh,Option.some.injEq] at hr3;subst hr3;have hn0:=Nat.eq_of_beq_eq_true hn0;subst hn0;rw[hs.slN];obtain⟨v',w',r1,m',r2,r3,r4⟩:=grow_ok R hn (ty:=ty) hu hi hz hzs hby (base:=none) (n:=0) (cap:=cap) (old:=[]) (old':=[]) (run_firstCells_none w.drew i.size 0 0 cap) .nil (by simp) hsrc hnl hnlen hgt hlim;simp only[List.nil_append,Nat.zero_add] at r1 r2 r3 r4;exact⟨v',w',r1,m',r2,r3,r4⟩
    ·rename_i b off
     obtain⟨a,cap',rfl,c1,c2,c3⟩:=hs.sl;unfold appToR at hr3;split at hr3
     ·rename_i xs e' hrow
      cases hee:(Nat.beq e' e && Nat.ble G b && Nat.ble n cap && Nat.beq off 0) with
      | false=>rw[hee] at hr3;cases hr3
      | true=>
       rw[hee] at hr3;simp only[cond_true] at hr3;simp only[Bool.and_eq_true] at hee;have ee:=Nat.eq_of_beq_eq_true hee.1.1.1;subst ee;have hG:=Nat.le_of_ble_eq_true hee.1.1.2;have hnc:=Nat.le_of_ble_eq_true hee.1.2;have hoff:=Nat.eq_of_beq_eq_true hee.2;obtain⟨old,hold,hr4⟩:=bind_some hr3;obtain⟨x0,es,hm,rfl,hN,hg,hO,hxb,hbn⟩:=R.sl hrow c3;obtain⟨old',ho1,ho2⟩:=hO.cut hold;obtain⟨eold,hlold,hleold⟩:=cut_ok hold;have hfc:(Builtin.firstCells i.size n (.slice (some (Ad x0.b (off+x0.s))) n cap')).run P w.drew=.ok old'.toArray w.drew:=run_firstCells_some w.drew i.size n _ n cap' old' (by rw[← ho1.1];exact hlold) (by simpa using ho2);unfold appOld at hr4;split at hr4
       ·simp only[fresh,Option.some.injEq] at hr4;subst hr4;have hn0:n=0:=by omega
        subst hn0;have hc0:cap'=0:=c2 rfl;subst hc0;have hoe:old=[]:=by simp at hlold;exact hlold
        subst hoe;have hoe':=ho1.nil_left;subst hoe';obtain⟨v',w',r1,m',r2,r3,r4⟩:=grow_ok R hn (ty:=ty) hu hi hz hzs hby (n:=0) (cap:=0) hfc .nil (by simp) hsrc hnl hnlen hgt hlim;simp only[List.nil_append,Nat.zero_add] at r1 r2 r3 r4;exact⟨v',w',r1,m',r2,r3,r4⟩
       ·rename_i cap0
        simp only[fresh,AH.set_n,Option.some.injEq] at hr4;subst hr4;have hk3:∀ o,h.get b=some o→o.k≠3:=fun o ho=>by rw[hg] at ho;cases ho;simp
        obtain⟨RK,EK,NK⟩:=R.kill hm hk3 hG;have hle:=EK.le;by_cases hin:n+k≤cap'
        ·
         have ez:x0.z=i.size:=by
          have:=hO.1;simp[sizeT,hi] at this;exact this.symm
         have hb1:(n+k)*i.size≤cap'*i.size:=Nat.mul_le_mul_right _ hin;rw[Nat.add_mul] at hb1;rw[ez] at hN;have hrun:=run_append_room_src (P:=P) w t t' ty e' i hu hi x0.b (off+x0.s) n cap' x' k new' hsrc hin (fun j hj=>hO.there (by rw[← hnl.1,hnlen] at hj;omega)) (fun j hj=>hO.thaw (by rw[← hnl.1,hnlen] at hj;omega));refine⟨_,_,hrun,?_⟩;obtain⟨hzO,c,lo,hi',q1,q2,q3,q4,q5⟩:=hO;have q1:w.heap[x0.b]?=some (.cells c e' (lo,hi')):=q1;obtain⟨k1,c',k2,k3,k4⟩:=setCells_heap x0.b e' (lo,hi') new' (off+x0.s+n*i.size) w c q1 (by rw[← hnl.1,hnlen];omega);have RO:=RK.other k1 NK;have hnset:(h.set b AO.dead).n<4096:=by rw[AH.set_n];exact hn
         obtain⟨RA,EA⟩:=RO.newA hnset (AO.row e' (old++new));have hm0:m.put b none h.n=none:=by
          rw[Mp.put_off m _ (by omega)];exact R.none_at (Nat.le_refl _)
         have hOb:∀ m',Le (m.put b none) m'→Ob P m' (AO.row e' (old++new)) ⟨x0.b,off+x0.s,x0.N,x0.z⟩ (w.setCells x0.b (off+x0.s+n*i.size) new'):=by
          intro m' hm';refine .inl ⟨rfl,hzO,c',lo,hi',k2,k3.trans q2,by rw[k3];exact q3,?_,fun j v hv=>?_⟩
          ·show off+x0.s+(old++new).length≤c'.size;rw[k3,Lla,hlold,hnlen];omega
          have hv:(old++new)[j]?=some v:=hv;show ∃ v',c'[off+x0.s+j]?=some v'∧_;rw[← Array.getElem?_toList,k4];have lt1:(c.toList.take (off+x0.s+n*i.size)).length=off+x0.s+n*i.size:=by simp;omega
          by_cases cj:j<n*i.size
          ·rw[List.getElem?_append_left (by omega)] at hv;obtain⟨y,hy,sy⟩:=ho1.at hv;refine⟨y,?_,(sy.mono hle).mono hm'⟩;rw[List.getElem?_append_left (by omega),List.getElem?_take,if_pos (by omega)];have:=ho2 j y hy;rw[add_off] at this;simpa [World.cell?,q1] using this
          rw[List.getElem?_append_right (by omega),hlold] at hv;obtain⟨y,hy,sy⟩:=hnl.at hv;refine⟨y,?_,(sy.mono hle).mono hm'⟩;have hjl:=(Lgs.1 hy).1;rw[List.getElem?_append_right (by omega),lt1,List.getElem?_append_left (by omega),show off+x0.s+j-(off+x0.s+n*i.size)=j-n*i.size by omega];exact hy
         have RF:=RA.adopt (r:=h.n) (by rw[AH.new_n,AH.set_n];omega) hm0 (o:=AO.row e' (old++new)) (by rw[AH.get_new hnset,AH.set_n,if_pos rfl]) (x:=⟨x0.b,off+x0.s,x0.N,x0.z⟩) (by show x0.b<_;rw[k1.size];exact hxb) NK hOb;refine⟨_,RF,⟨hle.trans (Mp.put_le _ hm0),Nat.le_trans EK.nn EA.nn,fun r hr e0=>?_,fun r y e0=>?_,fun r o' z z'=>EA.tab r o' (EK.tab r o' z z') z',k1.os,k1.tape,k1.output,by rw[k1.size];omega,fun q hq hnq=>k1.blk q (fun eb=>by
          obtain⟨o',z,z'⟩:=hnq b x0 hm eb.symm;exact hk3 o' z z')⟩,?_⟩
         ·obtain⟨g1,g2⟩:=EK.keep r hr e0;obtain⟨g3,g4⟩:=EA.keep r (by rw[AH.set_n];exact hr) g1;exact⟨by rw[Mp.put_off _ _ (by omega)];exact g1,g4.trans g2⟩
         ·by_cases c0:r=h.n
          ·subst c0;rw[Mp.put_same] at e0;cases e0;exact .inr ⟨Nat.le_refl _,.inr ⟨b,x0,hm,rfl,(by show x0.s=off+x0.s;omega),hk3⟩⟩
          rw[Mp.put_off _ _ c0] at e0;rcases EK.new r y e0 with q | ⟨q,-⟩
          ·exact .inl q
          exact .inl (by
           by_cases cb:r=b
           ·subst cb;rw[Mp.put_same] at e0;cases e0
           rw[Mp.put_off m _ cb] at e0;exact e0)
         exact S0.s3 (v:=.slice (some _) _ _) (v':=.slice (some _) _ _) ⟨rfl,hin,fun q=>by omega,rfl,rfl,.inr ⟨_,Mp.put_same _ h.n _,rfl,by simp,by rw[ez];exact hN⟩⟩
        have hnset:(h.set b AO.dead).n<4096:=by rw[AH.set_n];exact hn
        obtain⟨v',w',r1,m',r2,r3,r4⟩:=grow_ok RK hnset (ty:=ty) hu hi hz hzs hby hfc (ho1.mono fun _ _ s=>s.mono hle) hlold hsrc (hnl.mono fun _ _ s=>s.mono hle) hnlen (by omega) hlim;rw[AH.set_n] at r4;exact⟨v',w',r1,m',r2,EK.trans r3,r4⟩
     cases hr3
    cases hr3
theorem aWrite_ok (R:Rel P G m h w){a:AA}{t:Array Value} (hs:SlO m a t) (ds:List Deferred) {o:Oper}{f:Wt} (hf:aWrite P G o.op=some f) {r:Value × AH} (hv:f a h=some r):∃ n w' v',(execOp (⟨t,ds⟩:Act).eval o).run P w=.ok n w'∧(n=.value v'∨(n=.skip∧v'=undef))∧Wrote P G m h w r v' w':=by
 obtain⟨dst,op,type,pos,after,guard⟩:=o;simp only at hf;cases op <;> simp only[aWrite] at hf <;> try (cases hf;done)
 case store ty x y=>
  obtain⟨gx,ex,hf1⟩:=bind_some hf;obtain⟨gy,ey,rfl⟩:=map_some hf1;obtain⟨xv,e1,hv1⟩:=bind_some hv;obtain⟨yv,e2,hv2⟩:=bind_some hv1;obtain⟨w',r1,r2⟩:=store_ok R (opnd_ok R ey hs e2 ds) (opnd_ok R ex hs e1 ds) hv2;exact⟨.skip,w',undef,by simp[execOp,r1],.inr ⟨rfl,rfl⟩,r2⟩
 case mapUpdate ty x k y=>
  obtain⟨gx,ex,hf1⟩:=bind_some hf;obtain⟨gk,ek,hf2⟩:=bind_some hf1;obtain⟨gy,ey,rfl⟩:=map_some hf2;obtain⟨xv,e1,hv1⟩:=bind_some hv;obtain⟨kv,e2,hv2⟩:=bind_some hv1;obtain⟨yv,e3,hv3⟩:=bind_some hv2;obtain⟨w',r1,r2⟩:=update_ok R (opnd_ok R ex hs e1 ds) (opnd_ok R ek hs e2 ds) (opnd_ok R ey hs e3 ds) hv3;exact⟨.skip,w',undef,by simp[execOp,r1],.inr ⟨rfl,rfl⟩,r2⟩
 case convert src dt x=>
  obtain⟨gx,ex,rfl⟩:=map_some hf;obtain⟨xv,e1,hv1⟩:=bind_some hv;obtain⟨w',r1,r2⟩:=conv2_ok R (opnd_ok R ex hs e1 ds) hv1;exact⟨.value _,w',_,by simp only[execOp];exact run_value r1,.inl rfl,r2⟩
 case call c=>
  obtain⟨callee,args,ats⟩:=c;simp only at hf;unfold wCall at hf;split at hf
  ·rename_i b
   simp only at hf;obtain⟨l,e,hf1⟩:=bind_some hf;unfold wBuilt at hf1;split at hf1
   ·cases hf1;obtain⟨vs,e1,hv1⟩:=bind_some hv;have ha:=args_ok R hs ds e e1;unfold wAppend at hv1;split at hv1
    ·rename_i t1 t2 s x hts
     cases hso:srcOk P t2 x with
     | false=>rw[hso] at hv1;cases hv1
     | true=>
      rw[hso] at hv1;simp only[cond_true] at hv1;obtain⟨s',r1,q1,hs1,ha1⟩:=ha.cons_left;obtain⟨x',r2,q2,hx1,ha2⟩:=ha1.cons_left;have q3:=ha2.nil_left;subst q3;subst q2;have hargs:args.map (⟨t,ds⟩:Act).eval=#[s',x']:=by
       apply Array.ext';rw[map_toList];exact q1
      have hats:ats=#[t1,t2]:=Array.ext' hts;obtain⟨v',w',u1,u2⟩:=append_ok R (ty:=type) hs1 hx1 hso hv1;refine⟨.value v',w',v',?_,.inl rfl,u2⟩;have hr:(execOp (⟨t,ds⟩:Act).eval ⟨dst,.call ⟨.builtin .append,args,ats⟩,type,pos,after,guard⟩)=(builtin .append ats type (args.map fun | .const _=>true | _=>false) (args.map (⟨t,ds⟩:Act).eval)):=rfl;rw[hr,hargs,hats];simp only[builtin];exact run_value u1
    cases hv1
   cases hf1
  cases hf
end
end Go.Proofs.YtmolfmgchbjnbaaGreatDoor.Ev
namespace Go.Proofs.YtmolfmgchbjnbaaGreatDoor.Ev
open Go
variable [Inhabited (Nat→BA)]
section
variable {P:Program}{G:Nat}
abbrev EE:=FuncId→LV→AH→Option (Value × AH)
def EOk (P:Program) (G:Nat) (E:EE):Prop:=∀ f args h r,E f args h=some r→(∃ fn,entered P f=some fn)∧∀ m w args',Rel P G m h w→L2 (S3 m) args args'.toList→Calls P f args' w fun
 | .returned v',w'=>Wrote P G m h w r v' w'
 | _,_=>False
section
variable {m:Mp}{h:AH}{w:WL}
theorem entered_ok {f : FuncId}{fn : Func}(he : entered P f = some fn) : P.funcs[f]? = some fn ∧ (fn.name == "runtime.NumGoroutine") = false ∧ ∃ c, fn.body = some c := by
 unfold entered at he
 obtain⟨fn',h1,h2⟩:=bind_some he
 unfold mayEnter at h2
 cases hb : (fn'.name == "runtime.NumGoroutine") with
 | true=>rw[hb] at h2;cases h2
 | false=>
  rw[hb] at h2
  simp only[cond_false] at h2
  cases hc:fn'.body with
  | none=>rw[hc] at h2;cases h2
  | some c=>
   rw[hc] at h2
   simp only[Option.isSome_some,cond_true,Option.some.injEq] at h2
   subst h2
   exact⟨h1,hb,c,hc⟩
theorem made_wrote (R:Rel P G m h w)(hn:h.n<4096){p:AO × (Nat→Value)}{v':Value}{O:Obj} (hM:Made P m p w v' O):Wrote P G m h w (p.2 h.n,h.new p.1) v' (World.more w O):=by
 obtain⟨R2,E2⟩:=R.newA hn p.1;have hm0:m h.n=none:=R.none_at (Nat.le_refl _);obtain⟨N,z,hO⟩:=hM.ob;obtain⟨R3,L3,B3⟩:=R2.newB (r:=h.n) (by rw[AH.new_n];omega) hm0 (o:=p.1) (by rw[AH.get_new hn,if_pos rfl]) (O:=O) (x:=⟨w.heap.size,0,N,z⟩) rfl (fun m' hm'=>(hO m' hm').1);refine⟨_,R3,⟨L3,E2.nn,fun r hr e0=>⟨by rw[Mp.put_off m _ (by omega)];exact e0,(E2.keep r hr e0).2⟩,fun r y e0=>?_,E2.tab,rfl,rfl,rfl,(by show w.heap.size≤(w.heap.push _).size;simp),fun b hb _=>B3 b hb⟩,(hO _ L3).2 h.n (Mp.put_same m h.n _)⟩;by_cases c0:r=h.n
 ·subst c0;rw[Mp.put_same] at e0;cases e0;exact .inr ⟨Nat.le_refl _,.inl ⟨Nat.le_refl _,rfl⟩⟩
 rw[Mp.put_off m _ c0] at e0;exact .inl e0
theorem call_run {f:FuncId}{fn:Func} (he:entered P f=some fn) (ρ:Operand→Value) {o:Oper}{fo:Operand}{args:Array Operand}{ts:Array TypeId} (ho:o.op=.call ⟨.value fo,args,ts⟩) {x y:Array Value} (hf:ρ fo=.func (.func f) x y) (w:WL):(execOp ρ o).run P w=.ok (.enter f (x++args.map ρ++y)) w:=by
 obtain⟨h1,h2,c,h3⟩:=entered_ok he;have h5 : fn.name ≠ "runtime.NumGoroutine" := by simpa using h2
 simp[execOp,ho,resolve,hf,Deferred.ofValue,invoke,callFunc,h1,h5,h3]
theorem exec_ok {E:EE}(HE:EOk P G E)(R:Rel P G m h w){a:AA}{t:Array Value} (hs:SlO m a t) (ds:List Deferred) {o:Oper}{e:Exe} (he:execO P G o.op=some e) {r:Value × AH} (hv:e E a h=some r) {K:Act→WL→Prop}{Q:Exit→Act→WL→Prop}
  (hK:∀ v' w',Wrote P G m h w r v' w'→K ((⟨t,ds⟩:Act).put o.dst v') w'):o.wp P ⟨t,ds⟩ w K Q:=by
 unfold execO execN at he;split at he
 ·obtain⟨f,hf,rfl⟩:=map_some he;obtain⟨v,hv1,hv2⟩:=bind_some hv;simp only[same,Option.some.injEq] at hv2;subst hv2;obtain⟨v',r1,r2⟩:=aRead_ok R hs ds hf hv1;unfold Oper.wp;rw[r1];exact hK v' w ⟨m,R,.refl m h w,r2⟩
 ·obtain⟨f,hf,rfl⟩:=map_some he;obtain⟨p,hv1,hv2⟩:=bind_some hv;unfold mkNew at hv2;cases hb:Nat.blt h.n 4096 with
  | false=>rw[hb] at hv2;cases hv2
  | true=>
   rw[hb] at hv2;simp only[cond_true,Option.some.injEq] at hv2;subst hv2;obtain⟨v',O,r1,r2⟩:=aNew_ok R hs ds hf hv1;unfold Oper.wp;rw[r1];exact hK v' _ (made_wrote R (by simpa [Nat.blt_eq] using hb) r2)
 ·obtain⟨f,hf,rfl⟩:=map_some he;obtain⟨n,w',v',r1,r2,r3⟩:=aWrite_ok R hs ds hf hv;unfold Oper.wp;rw[r1];rcases r2 with rfl | ⟨rfl,rfl⟩
  ·exact hK v' w' r3
  exact hK undef w' r3
 obtain⟨f,hf,rfl⟩:=map_some he;obtain⟨⟨fid,args⟩,hv1,hv2⟩:=bind_some hv;simp only[enterE] at hv2;obtain⟨⟨fn,hen⟩,hcall⟩:=HE fid args h r hv2;obtain⟨dst,op,type,pos,after,guard⟩:=o;cases op <;> simp only[aCall] at hf <;> try (cases hf;done)
 case call c _ _ _=>
 obtain⟨cal,as,ats⟩:=c;unfold cCall at hf;split at hf
 ·rename_i fo heq
  simp only at heq;subst heq;obtain⟨g,eg,hf1⟩:=bind_some hf;obtain⟨l,el,rfl⟩:=map_some hf1;obtain⟨fv,e1,hv3⟩:=bind_some hv1;obtain⟨vs,e2,hv4⟩:=bind_some hv3;unfold callee at hv4;split at hv4
  ·rename_i f0 x0 y0
   simp only[Option.some.injEq,Prod.mk.injEq] at hv4;obtain⟨rfl,rfl⟩:=hv4;obtain⟨x',y',ef,hx,hy⟩:=(opnd_ok R eg hs e1 ds).func;have ha:=args_ok R hs ds el e2;have hrun:=call_run hen (⟨t,ds⟩:Act).eval (o:=⟨dst,.call ⟨.value fo,as,ats⟩,type,pos,after,guard⟩) rfl ef w;unfold Oper.wp;rw[hrun];refine Calls.mono (hcall m w _ R ?_) ?_
   ·have e:(x'++as.map (⟨t,ds⟩:Act).eval++y').toList=x'.toList++(as.toList.map (⟨t,ds⟩:Act).eval++y'.toList):=by simp
    rw[e];exact (hx.mono fun _ _ s=>s.s3).append (ha.append (hy.mono fun _ _ s=>s.s3))
   rintro (v | ch | _) w' hh
   ·exact hK v w' hh
   ·exact hh.elim
   exact hh.elim
  cases hv4
 cases hf
theorem S3.of_bool {v:Value}{b:Bool} (h:S3 m v (.bool b)):v=.bool b:=by
 rcases h with ((h | ⟨f,x,y,x',y',rfl,e,-⟩) | ⟨c,c',rfl,e,-⟩) | ⟨c,c',rfl,e,-⟩
 ·cases v <;> simp[S0] at h
  subst h;rfl
 ·cases e
 ·cases e
 cases e
theorem wanted_ok {ops:Array Oper}{o:Oper}{wn:Wn} (hw:wantedG ops o.guard=some wn) {a:AA}{b:Bool} (hb:wn a=some b) {t:Array Value} (hs:SlO m a t):Region.wanted o (yielded ops t)=b:=by
 unfold wantedG at hw;unfold Region.wanted;split at hw
 ·cases hw;simp only[wnC,Option.some.injEq] at hb;subst hb;simp[*]
 ·rename_i j want hg
  rw[hg];simp only;unfold wantedS at hw;split at hw
  ·rename_i hd
   cases hw;simp only[wnC,Option.some.injEq] at hb;subst hb;have:(ops[j]?).bind (·.dst)=none:=hd;simp[yielded,this]
  ·rename_i d hd
   obtain⟨g,hg1,rfl⟩:=map_some hw;obtain⟨v,hv,hb1⟩:=bind_some hb;rw[AA.get_form hg1] at hv;have hv':=hs.val d v hv;have hdd:(ops[j]?).bind (·.dst)=some d:=hd;unfold isB at hb1;split at hb1
   ·rename_i b0
    simp only[Option.some.injEq] at hb1;subst hb1;have e:=hv'.bool;have hlt:d<t.size:=by
     rcases Nat.lt_or_ge d t.size with q | q
     ·exact q
     simp[q,undef] at e
    have e2:t[d]?=some (.bool b0):=by
     rw[Array.getElem?_eq_getElem hlt];simp[hlt] at e;rw[e]
    simp[yielded,hdd,e2]
   ·rename_i hnb
    simp only[Option.some.injEq] at hb1;subst hb1;have:yielded ops t j=none:=by
     unfold yielded;rw[hdd];simp only[Option.bind_some];cases e2:t[d]? with
     | none=>rfl
     | some u=>
      cases u <;> try rfl
      rename_i b0
      have hlt:=(Age.1 e2).1;have e3:t.getD d undef=.bool b0:=by simp[e2]
      rw[e3] at hv';exact absurd hv'.of_bool (hnb b0)
    simp[this]
theorem stepO_ok {E:EE}(HE:EOk P G E)(R:Rel P G m h w){a:AA}{t:Array Value} (hs:SlO m a t) (ds:List Deferred) {ops:Array Oper}{i:Nat}{o:Oper} (hi:ops[i]?=some o) {s:St} (hst:stepO P G ops o=some s) {a':AA}{h':AH} (hv:s E a h=some (a',h')) {K:Act→WL→Prop}{Q:Exit→Act→WL→Prop}
  (hK:∀ m' w' t',Rel P G m' h' w'→Ext m m' h h' w w'→SlO m' a' t'→K ⟨t',ds⟩ w'):wpOp P ops Q i K ⟨t,ds⟩ w:=by
 unfold stepO at hst;obtain⟨wn,hw,hst1⟩:=bind_some hst;obtain⟨e,he,hst2⟩:=bind_some hst1;obtain⟨p,hp,rfl⟩:=map_some hst2;obtain⟨b,hb,hv1⟩:=bind_some hv;have hwan:=wanted_ok hw hb hs;unfold wpOp;rw[hi];simp only;unfold stB at hv1;split at hv1
 ·obtain⟨⟨v,h1⟩,hv2,hv3⟩:=bind_some hv1;simp only[putR] at hv3;obtain⟨a1,hp1,hv4⟩:=bind_some hv3;simp only[withH,Option.some.injEq,Prod.mk.injEq] at hv4;obtain⟨rfl,rfl⟩:=hv4;rw[if_pos hwan];refine .inl (exec_ok HE R hs ds he hv2 fun v' w' hw'=>?_);obtain⟨m',r1,r2,r3⟩:=hw';have:=hK m' w' _ r1 r2 ((hs.mono r2.le).put hp hp1 r3 ds);cases hd:o.dst with
  | none=>rw[hd] at this;exact this
  | some d=>rw[hd] at this;exact this
 simp only[putR] at hv1;obtain⟨a1,hp1,hv4⟩:=bind_some hv1;simp only[withH,Option.some.injEq,Prod.mk.injEq] at hv4;obtain⟨rfl,rfl⟩:=hv4;rw[if_neg (by rw[hwan];decide)];have:=hK m w _ R (.refl m h w) (hs.put hp hp1 undef_s3 ds);cases hd:o.dst with
 | none=>rw[hd] at this;exact this
 | some d=>rw[hd] at this;exact this
end
theorem evOps_ok {E:EE}(HE:EOk P G E){ops:Array Oper}{Q:Exit→Act→WL→Prop} (ds:List Deferred):∀ (l:List Oper) (i:Nat) (a a':AA) (h h':AH),evOps P G E ops l a h=some (a',h')→ops.toList.drop i=l→∀ m w t,Rel P G m h w→SlO m a t →
  (∀ m' w' t',Rel P G m' h' w'→Ext m m' h h' w w'→SlO m' a' t'→Q .normal ⟨t',ds⟩ w')→wpOps P ops Q (List.range' i l.length) ⟨t,ds⟩ w
 | [],i,a,a',h,h',he,hd,m,w,t,R,hs,hQ=>by
  simp only[evOps,Option.some.injEq,Prod.mk.injEq] at he
  obtain⟨rfl,rfl⟩:=he
  exact hQ m w t R (.refl m h w) hs
 | o :: l,i,a,a',h,h',he,hd,m,w,t,R,hs,hQ=>by
  simp only[evOps] at he
  obtain⟨⟨a1,h1⟩,he1,he2⟩:=bind_some he
  simp only[thenO] at he2
  have hi:ops[i]?=some o:=by
   have:ops.toList[i]?=some o:=by
    have:=congrArg (·[0]?) hd
    simpa using this
   simpa using this
  have hd':ops.toList.drop (i+1)=l:=by
   have:=congrArg (List.drop 1) hd
   simpa [List.drop_drop,Nat.add_comm] using this
  unfold runS at he1
  split at he1
  ·rename_i s hst
   show wpOps P ops Q (i :: List.range' (i+1) l.length) ⟨t,ds⟩ w
   rw[wpOps_cons]
   exact stepO_ok HE R hs ds hi hst he1 fun m1 w1 t1 r1 r2 r3=>evOps_ok HE ds l (i+1) a1 a' h1 h' he2 hd' m1 w1 t1 r1 r3 fun m' w' t' q1 q2 q3=>hQ m' w' t' q1 (r2.trans q2) q3
  ·cases he1
end
end Go.Proofs.YtmolfmgchbjnbaaGreatDoor.Ev
namespace Go.Proofs.YtmolfmgchbjnbaaGreatDoor.Ev
open Go
variable [Inhabited (Nat→BA)]
section
variable {P:Program}{G:Nat}
theorem opnd_congr {x:Operand}{g:Acc} (hg:opnd G x=some g) {a a':AA} (h:∀ d,x=.tmp d→a.get d=a'.get d):g a=g a':=by
 cases x with
 | tmp d=>rw[AA.get_form hg,AA.get_form hg];exact h d rfl
 | const v=>
  simp only[opnd] at hg;cases hb:flat2 v with
  | false=>rw[hb] at hg;cases hg
  | true=>rw[hb] at hg;simp only[cond_true,Option.some.injEq] at hg;subst hg;rfl
 | global q=>
  simp only[opnd] at hg;cases hb:Nat.blt q G with
  | false=>rw[hb] at hg;cases hg
  | true=>rw[hb] at hg;simp only[cond_true,Option.some.injEq] at hg;subst hg;rfl
 | func f=>simp only[opnd,Option.some.injEq] at hg;subst hg;rfl
theorem allSome_congr {α β:Type}{f f':α→Option β}:∀ {l:List α},(∀ x ∈ l,f x=f' x)→allSome f l=allSome f' l
 | [],_=>rfl
 | x :: l,h=>by
  have ih:allSome f l=allSome f' l:=allSome_congr fun y hy=>h y (by simp[hy])
  simp only[allSome,h x (by simp),ih]
theorem args_congr {a a':AA}{xs:List Operand}{l:List Acc} (h1:allSome (opnd G) xs=some l) (HC:∀ d,Operand.tmp d ∈ xs→a.get d=a'.get d):allSome (accV a) l=allSome (accV a') l:=by
 apply allSome_congr;intro g hg;obtain⟨j,hj⟩:=List.getElem?_of_mem hg;have h2:=allSome_ok h1;have hlt:j<xs.length:=by rw[h2.1];exact (Lgs.1 hj).1
 have h3:=h2.2 j _ g (Lge hlt) hj;exact opnd_congr h3 fun d hd=>HC d (by rw[← hd];exact List.getElem_mem hlt)
theorem parts_congr {a a':AA}{xs:List (Nat × Operand)}{l:List Part} (h1:allSome (partF G) xs=some l) (HC:∀ d,Operand.tmp d ∈ xs.map (·.2)→a.get d=a'.get d):allSome (partV a) l=allSome (partV a') l:=by
 apply allSome_congr;intro g hg;obtain⟨j,hj⟩:=List.getElem?_of_mem hg;have h2:=allSome_ok h1;have hlt:j<xs.length:=by rw[h2.1];exact (Lgs.1 hj).1
 have h3:=h2.2 j _ g (Lge hlt) hj;unfold partF at h3;obtain⟨f,h4,rfl⟩:=map_some h3;unfold partV;simp only;rw[opnd_congr h4 fun d hd=>HC d (List.mem_map.2 ⟨xs[j],List.getElem_mem hlt,hd⟩)]
theorem optV_congr {a a':AA}{x:Option Operand}{f:Option Acc} (h1:optF G x=some f) (HC:∀ d,x=some (.tmp d)→a.get d=a'.get d):optV a f=optV a' f:=by
 cases x with
 | none=>simp only[optF,Option.some.injEq] at h1;subst h1;rfl
 | some x=>
  simp only[optF] at h1;obtain⟨g,h2,rfl⟩:=map_some h1;simp only[optV];rw[opnd_congr h2 fun d hd=>HC d (by rw[hd])]
theorem aRead_congr {op:Op}{f:Rd} (hf:aRead P G op=some f) {a a':AA} (HC:∀ d,Operand.tmp d ∈ op.operands.toList→a.get d=a'.get d) (h:AH):f a h=f a' h:=by
 cases op <;> simp only[aRead] at hf <;> try (cases hf;done)
 case move x=>obtain⟨g,e,rfl⟩:=map_some hf;exact opnd_congr e fun d hd=>HC d (by simp[Op.operands,hd])
 case assign x=>obtain⟨g,e,rfl⟩:=map_some hf;exact opnd_congr e fun d hd=>HC d (by simp[Op.operands,hd])
 case pick c x y=>
  obtain⟨gc,ec,hf1⟩:=bind_some hf;obtain⟨gx,ex,hf2⟩:=bind_some hf1;obtain⟨gy,ey,rfl⟩:=map_some hf2;simp only[xPick];rw[opnd_congr ec fun d hd=>HC d (by simp[Op.operands,hd]),opnd_congr ex fun d hd=>HC d (by simp[Op.operands,hd]),opnd_congr ey fun d hd=>HC d (by simp[Op.operands,hd])]
 case load ty x=>obtain⟨g,e,rfl⟩:=map_some hf;simp only[xLoad];rw[opnd_congr e fun d hd=>HC d (by simp[Op.operands,hd])]
 case nilCheck x=>obtain⟨g,e,rfl⟩:=map_some hf;simp only[xNil];rw[opnd_congr e fun d hd=>HC d (by simp[Op.operands,hd])]
 case binOp bop ty x y yt=>
  obtain⟨gx,ex,hf1⟩:=bind_some hf;obtain⟨gy,ey,rfl⟩:=map_some hf1;simp only[xBin];rw[opnd_congr ex fun d hd=>HC d (by simp[Op.operands,hd]),opnd_congr ey fun d hd=>HC d (by simp[Op.operands,hd])]
 case unOp uop ty x=>obtain⟨g,e,rfl⟩:=map_some hf;simp only[xUn];rw[opnd_congr e fun d hd=>HC d (by simp[Op.operands,hd])]
 case convert s dt x=>obtain⟨g,e,rfl⟩:=map_some hf;simp only[xConv];rw[opnd_congr e fun d hd=>HC d (by simp[Op.operands,hd])]
 case makeFunc fn first cap=>
  cases fn <;> simp only at hf <;> try (cases hf;done)
  obtain⟨l1,e1,hf1⟩:=bind_some hf;obtain⟨l2,e2,rfl⟩:=map_some hf1;simp only[xFunc];rw[args_congr e1 fun d hd=>HC d (by simp[Op.operands];left;simpa using hd),args_congr e2 fun d hd=>HC d (by simp[Op.operands];right;simpa using hd)]
 case slice ty x lo hi mx=>
  obtain⟨gx,ex,hf1⟩:=bind_some hf;obtain⟨gl,el,hf2⟩:=bind_some hf1;obtain⟨gh,eh,hf3⟩:=bind_some hf2;obtain⟨gm,em,rfl⟩:=map_some hf3;simp only[xSlice];rw[opnd_congr ex fun d hd=>HC d (by simp[Op.operands,hd]),optV_congr el fun d hd=>HC d (by simp[Op.operands,hd]),optV_congr eh fun d hd=>HC d (by simp[Op.operands,hd]),optV_congr em fun d hd=>HC d (by simp[Op.operands,hd])]
 case fieldAddr st x i=>obtain⟨g,e,rfl⟩:=map_some hf;simp only[xFieldAddr];rw[opnd_congr e fun d hd=>HC d (by simp[Op.operands,hd])]
 case field ty x i=>obtain⟨g,e,rfl⟩:=map_some hf;simp only[xField];rw[opnd_congr e fun d hd=>HC d (by simp[Op.operands,hd])]
 case indexAddr ty x i=>
  obtain⟨gx,ex,hf1⟩:=bind_some hf;obtain⟨gy,ey,rfl⟩:=map_some hf1;simp only[xIndexAddr];rw[opnd_congr ex fun d hd=>HC d (by simp[Op.operands,hd]),opnd_congr ey fun d hd=>HC d (by simp[Op.operands,hd])]
 case index ty x i=>
  obtain⟨gx,ex,hf1⟩:=bind_some hf;obtain⟨gy,ey,rfl⟩:=map_some hf1;simp only[xIndex];rw[opnd_congr ex fun d hd=>HC d (by simp[Op.operands,hd]),opnd_congr ey fun d hd=>HC d (by simp[Op.operands,hd])]
 case lookup ty x i ok=>
  obtain⟨gx,ex,hf1⟩:=bind_some hf;obtain⟨gy,ey,rfl⟩:=map_some hf1;simp only[xLookup];rw[opnd_congr ex fun d hd=>HC d (by simp[Op.operands,hd]),opnd_congr ey fun d hd=>HC d (by simp[Op.operands,hd])]
 case extract x i=>obtain⟨g,e,rfl⟩:=map_some hf;simp only[xExtract];rw[opnd_congr e fun d hd=>HC d (by simp[Op.operands,hd])]
 case build ty ps=>
  obtain⟨l,e,rfl⟩:=map_some hf;simp only[xBuild];rw[parts_congr e fun d hd=>HC d (by simpa [Op.operands] using hd)]
 case call c=>
  obtain⟨callee,args,ats⟩:=c;simp only at hf;unfold rCall at hf;split at hf
  ·simp only at hf;obtain⟨l,e,hf1⟩:=bind_some hf;have hc:=args_congr (a:=a) (a':=a') e fun d hd=>HC d (by simp[Op.operands,Call.operands];simpa using hd);unfold rBuilt at hf1;split at hf1
   ·obtain⟨ty,e2,rfl⟩:=map_some hf1;simp only[xLen,hc]
   ·cases hf1;simp only[xMinMax,hc]
   ·cases hf1;simp only[xMinMax,hc]
   cases hf1
  cases hf
theorem aNew_congr {op:Op}{f:Nw} (hf:aNew P G op=some f) {a a':AA} (HC:∀ d,Operand.tmp d ∈ op.operands.toList→a.get d=a'.get d):f a=f a':=by
 cases op <;> simp only[aNew] at hf <;> try (cases hf;done)
 case alloc e=>cases hf;rfl
 case box e x=>obtain⟨g,e,rfl⟩:=map_some hf;simp only[yBox];rw[opnd_congr e fun d hd=>HC d (by simp[Op.operands,hd])]
 case buildSlice ty n ps=>
  obtain⟨l,e,rfl⟩:=map_some hf;simp only[ySlice];rw[parts_congr e fun d hd=>HC d (by simpa [Op.operands] using hd)]
 case makeMap ty r=>
  cases r with
  | some _=>simp at hf
  | none=>simp only at hf;obtain⟨ke,hk,rfl⟩:=map_some hf;rfl
 case makeSlice ty l c=>
  obtain⟨gx,ex,hf1⟩:=bind_some hf;obtain⟨gy,ey,rfl⟩:=map_some hf1;simp only[yMake];rw[opnd_congr ex fun d hd=>HC d (by simp[Op.operands,hd]),opnd_congr ey fun d hd=>HC d (by simp[Op.operands,hd])]
theorem aWrite_congr {op:Op}{f:Wt} (hf:aWrite P G op=some f) {a a':AA} (HC:∀ d,Operand.tmp d ∈ op.operands.toList→a.get d=a'.get d) (h:AH):f a h=f a' h:=by
 cases op <;> simp only[aWrite] at hf <;> try (cases hf;done)
 case store ty x y=>
  obtain⟨gx,ex,hf1⟩:=bind_some hf;obtain⟨gy,ey,rfl⟩:=map_some hf1;simp only[zStore];rw[opnd_congr ex fun d hd=>HC d (by simp[Op.operands,hd]),opnd_congr ey fun d hd=>HC d (by simp[Op.operands,hd])]
 case mapUpdate ty x k y=>
  obtain⟨gx,ex,hf1⟩:=bind_some hf;obtain⟨gk,ek,hf2⟩:=bind_some hf1;obtain⟨gy,ey,rfl⟩:=map_some hf2;simp only[zUpdate];rw[opnd_congr ex fun d hd=>HC d (by simp[Op.operands,hd]),opnd_congr ek fun d hd=>HC d (by simp[Op.operands,hd]),opnd_congr ey fun d hd=>HC d (by simp[Op.operands,hd])]
 case convert s dt x=>obtain⟨g,e,rfl⟩:=map_some hf;simp only[zConv];rw[opnd_congr e fun d hd=>HC d (by simp[Op.operands,hd])]
 case call c=>
  obtain⟨callee,args,ats⟩:=c;simp only at hf;unfold wCall at hf;split at hf
  ·simp only at hf;obtain⟨l,e,hf1⟩:=bind_some hf;have hc:=args_congr (a:=a) (a':=a') e fun d hd=>HC d (by simp[Op.operands,Call.operands];simpa using hd);unfold wBuilt at hf1;split at hf1
   ·cases hf1;simp only[zAppend,hc]
   cases hf1
  cases hf
theorem aCall_congr {op:Op}{f:Cl} (hf:aCall G op=some f) {a a':AA} (HC:∀ d,Operand.tmp d ∈ op.operands.toList→a.get d=a'.get d):f a=f a':=by
 cases op <;> simp only[aCall] at hf <;> try (cases hf;done)
 case call c=>
  obtain⟨callee,args,ats⟩:=c;unfold cCall at hf;split at hf
  ·rename_i fo heq
   simp only at heq;subst heq;obtain⟨g,eg,hf1⟩:=bind_some hf;obtain⟨l,el,rfl⟩:=map_some hf1;simp only[vCall];rw[opnd_congr eg fun d hd=>HC d (by simp[Op.operands,Call.operands,hd]),args_congr (a:=a) (a':=a') el fun d hd=>HC d (by simp[Op.operands,Call.operands];right;simpa using hd)]
  cases hf
theorem exec_congr {op:Op}{e:Exe} (he:execO P G op=some e) {a a':AA} (HC:∀ d,Operand.tmp d ∈ op.operands.toList→a.get d=a'.get d) (E:EE) (h:AH):e E a h=e E a' h:=by
 unfold execO execN at he;split at he
 ·obtain⟨f,hf,rfl⟩:=map_some he;simp only[eRead];rw[aRead_congr hf HC]
 ·obtain⟨f,hf,rfl⟩:=map_some he;simp only[eNew];rw[aNew_congr hf HC]
 ·obtain⟨f,hf,rfl⟩:=map_some he;simp only[eWrite];rw[aWrite_congr hf HC]
 obtain⟨f,hf,rfl⟩:=map_some he;simp only[eCall];rw[aCall_congr hf HC]
def HLe (h h':AH):Prop:=∀ r o,h.get r=some o→h'.get r=some o
theorem HLe.row {h h':AH}(hh:HLe h h'){r:Nat}{p:LV × TypeId} (hr:rowAt r h=some p):rowAt r h'=some p:=by
 obtain⟨xs,e⟩:=p;obtain⟨es,hg⟩:=rowAt_ok hr;simp[rowAt,hh r _ hg,asRow]
theorem HLe.cells {h h':AH}(hh:HLe h h'){r:Nat}{p:LV} (hr:cellsAt r h=some p):cellsAt r h'=some p:=by
 cases hg:h.get r with
 | none=>simp[cellsAt,hg,asCells] at hr
 | some o=>
  unfold cellsAt at hr ⊢;rw[hg] at hr;rw[hh r o hg];exact hr
theorem HLe.map {h h':AH}(hh:HLe h h'){k r:Nat}{p:List (Value × Value)} (hr:mapAt k r h=some p):mapAt k r h'=some p:=by
 obtain⟨xs,hg⟩:=mapAt_ok hr;simp[mapAt,hh r _ hg,asMap]
theorem aRead_heap {op:Op}{f:Rd} (hf:aRead P G op=some f) {a:AA}{h h':AH} (hh:HLe h h') {v:Value} (hv:f a h=some v):f a h'=some v:=by
 cases op <;> simp only[aRead] at hf <;> try (cases hf;done)
 case load ty x=>
  obtain⟨g,e,rfl⟩:=map_some hf;obtain⟨p,hp,hv1⟩:=bind_some hv;simp only[xLoad,hp,Option.bind_some];unfold rLoad at hv1 ⊢;split at hv1
  ·rename_i b off
   unfold aLoad at hv1 ⊢;cases hr:cellsAt b h with
   | none=>rw[hr] at hv1;cases hv1
   | some q=>rw[hr] at hv1;rw[hh.cells hr];exact hv1
  cases hv1
 case convert s dt x=>
  obtain⟨g,e,rfl⟩:=map_some hf;obtain⟨p,hp,hv1⟩:=bind_some hv;simp only[xConv,hp,Option.bind_some];unfold aConv at hv1 ⊢;split at hv1 <;> try exact hv1
  rename_i q n c
  obtain⟨et,he,hv2⟩:=bind_some hv1;simp only[he,Option.bind_some];cases hb:(isByte P et && isStr P dt) with
  | false=>rw[hb] at hv2;cases hv2
  | true=>
   rw[hb] at hv2;simp only[cond_true] at hv2 ⊢;unfold strOf at hv2 ⊢;split at hv2
   ·exact hv2
   ·rename_i b off n' c' heq
    cases hr:rowAt b h with
    | none=>rw[hr] at hv2;cases hv2
    | some q=>rw[hr] at hv2;rw[hh.row hr];exact hv2
   cases hv2
 case slice ty x lo hi mx=>
  obtain⟨gx,ex,hf1⟩:=bind_some hf;obtain⟨gl,el,hf2⟩:=bind_some hf1;obtain⟨gh,eh,hf3⟩:=bind_some hf2;obtain⟨gm,em,rfl⟩:=map_some hf3;obtain⟨xv,e1,hv1⟩:=bind_some hv;obtain⟨lv,e2,hv2⟩:=bind_some hv1;obtain⟨hv',e3,hv3⟩:=bind_some hv2;obtain⟨mv,e4,hv4⟩:=bind_some hv3;simp only[xSlice,e1,e2,e3,e4,Option.bind_some];unfold aSlice at hv4 ⊢;split at hv4
  ·exact hv4
  ·obtain⟨et,he,hv5⟩:=bind_some hv4;obtain⟨z,hz,hv6⟩:=bind_some hv5;simp only[he,hz,Option.bind_some];unfold sliceV at hv6 ⊢;obtain⟨m0,k1,hv7⟩:=bind_some hv6;obtain⟨h0,k2,hv8⟩:=bind_some hv7;obtain⟨l0,k3,hv9⟩:=bind_some hv8;simp only[k1,k2,k3,Option.bind_some];have hrow:∀ q,rowE h et q=true→rowE h' et q=true:=by
    intro q hq;unfold rowE at hq ⊢;split at hq
    ·rfl
    ·rename_i b off
     cases hr:rowAt b h with
     | none=>rw[hr] at hq;cases hq
     | some p=>rw[hr] at hq;rw[hh.row hr];exact hq
    cases hq
   generalize hbb:((mv.isNone || hv'.isSome) && rowE h et _ && Nat.ble h0 m0 && (!(Nat.beq m0 l0) || mv.isSome || Nat.beq _ 0))=bb at hv9;cases bb with
   | false=>cases hv9
   | true=>
    simp only[Bool.and_eq_true] at hbb;rw[show ((mv.isNone || hv'.isSome) && rowE h' et _ && Nat.ble h0 m0 && (!(Nat.beq m0 l0) || mv.isSome || Nat.beq _ 0))=true by simp only[Bool.and_eq_true];exact⟨⟨⟨hbb.1.1.1,hrow _ hbb.1.1.2⟩,hbb.1.2⟩,hbb.2⟩];exact hv9
  cases hv4
 case lookup ty x i ok=>
  obtain⟨gx,ex,hf1⟩:=bind_some hf;obtain⟨gy,ey,rfl⟩:=map_some hf1;obtain⟨xv,e1,hv1⟩:=bind_some hv;obtain⟨yv,e2,hv2⟩:=bind_some hv1;simp only[xLookup,e1,e2,Option.bind_some];unfold aLookup at hv2 ⊢;split at hv2
  ·rename_i r k et hk
   unfold lookK at hv2 ⊢;cases hb:keyT P k with
   | false=>rw[hb] at hv2;cases hv2
   | true=>
    rw[hb] at hv2;simp only[cond_true] at hv2 ⊢;obtain⟨z,hz,hv3⟩:=bind_some hv2;obtain⟨es,hes,hv4⟩:=bind_some hv3;simp only[hz,Option.bind_some];have:esAt k h' r=some es:=by
     cases r with
     | none=>exact hes
     | some r=>exact hh.map hes
    simp only[this,Option.bind_some];exact hv4
  cases hv2
 case move x=>obtain⟨g,e,rfl⟩:=map_some hf;exact hv
 case assign x=>obtain⟨g,e,rfl⟩:=map_some hf;exact hv
 case pick c x y=>obtain⟨gc,ec,hf1⟩:=bind_some hf;obtain⟨gx,ex,hf2⟩:=bind_some hf1;obtain⟨gy,ey,rfl⟩:=map_some hf2;exact hv
 case nilCheck x=>obtain⟨g,e,rfl⟩:=map_some hf;exact hv
 case binOp bop ty x y yt=>obtain⟨gx,ex,hf1⟩:=bind_some hf;obtain⟨gy,ey,rfl⟩:=map_some hf1;exact hv
 case unOp uop ty x=>obtain⟨g,e,rfl⟩:=map_some hf;exact hv
 case makeFunc fn first cap=>
  (cases fn <;> simp only at hf <;> try (cases hf;done));obtain⟨l1,e1,hf1⟩:=bind_some hf;obtain⟨l2,e2,rfl⟩:=map_some hf1;exact hv
 case fieldAddr st x i=>obtain⟨g,e,rfl⟩:=map_some hf;exact hv
 case field ty x i=>obtain⟨g,e,rfl⟩:=map_some hf;exact hv
 case indexAddr ty x i=>obtain⟨gx,ex,hf1⟩:=bind_some hf;obtain⟨gy,ey,rfl⟩:=map_some hf1;exact hv
 case index ty x i=>obtain⟨gx,ex,hf1⟩:=bind_some hf;obtain⟨gy,ey,rfl⟩:=map_some hf1;exact hv
 case extract x i=>obtain⟨g,e,rfl⟩:=map_some hf;exact hv
 case build ty ps=>obtain⟨l,e,rfl⟩:=map_some hf;exact hv
 case call c=>
  obtain⟨callee,args,ats⟩:=c;simp only at hf;unfold rCall at hf;split at hf
  ·simp only at hf;obtain⟨l,e,hf1⟩:=bind_some hf;unfold rBuilt at hf1;split at hf1
   ·obtain⟨ty,e2,rfl⟩:=map_some hf1;exact hv
   ·cases hf1;exact hv
   ·cases hf1;exact hv
   cases hf1
  cases hf
end
end Go.Proofs.YtmolfmgchbjnbaaGreatDoor.Ev
namespace Go.Proofs.YtmolfmgchbjnbaaGreatDoor.Ev
open Go
variable [Inhabited (Nat→BA)]
def bitsOf (acc:Array Nat) (o:Oper):Nat:=o.after.foldl (fun s e=>if Region.binds .any e then s ||| 2 ^ e.on ||| acc.getD e.on 0 else s) 0
theorem bits_fold (acc:Array Nat)(j:Nat):∀ (l:List Edge) (s:Nat),(l.foldl (fun s e=>if Region.binds .any e then s ||| 2 ^ e.on ||| acc.getD e.on 0 else s) s).testBit j=true→s.testBit j=true∨∃ e ∈ l,Region.binds .any e=true∧(j=e.on∨(acc.getD e.on 0).testBit j=true)
 | [],s,h=>.inl h
 | e :: l,s,h=>by
  simp only[List.foldl_cons] at h
  rcases bits_fold acc j l _ h with q | ⟨e',h1,h2,h3⟩
  ·cases hb:Region.binds .any e with
   | false=>rw[hb] at q;exact .inl (by simpa using q)
   | true=>
    rw[hb] at q
    simp only[if_true,Nat.testBit_or,Bool.or_eq_true] at q
    rcases q with (q | q) | q
    ·exact .inl q
    ·rw[Nat.testBit_two_pow] at q
     exact .inr ⟨e,by simp,hb,.inl (by simpa using (of_decide_eq_true q).symm)⟩
    ·exact .inr ⟨e,by simp,hb,.inr q⟩
  ·exact .inr ⟨e',by simp[h1],h2,h3⟩
theorem bits_keep:∀ (l:List Oper)(acc:Array Nat)(k v:Nat),acc[k]?=some v→(l.foldl (fun acc o=>acc.push (bitsOf acc o)) acc)[k]?=some v
 | [],acc,k,v,h=>h
 | o :: l,acc,k,v,h=>by
  simp only[List.foldl_cons]
  have hk:=(Age.1 h).1
  exact bits_keep l _ k v (by rw[Array.getElem?_push,if_neg (by omega)];exact h)
theorem bits_ok (j:Nat):∀ (l:List Oper) (acc:Array Nat) (i:Nat),((l.foldl (fun acc o=>acc.push (bitsOf acc o)) acc).getD i 0).testBit j=true→(acc.getD i 0).testBit j=true∨∃ o e,l[i-acc.size]?=some o∧acc.size≤i∧e ∈ o.after.toList∧Region.binds .any e=true∧(j=e.on∨((l.foldl (fun acc o=>acc.push (bitsOf acc o)) acc).getD e.on 0).testBit j=true)
 | [],acc,i,h=>.inl h
 | o :: l,acc,i,h=>by
  simp only[List.foldl_cons] at h ⊢
  rcases bits_ok j l (acc.push (bitsOf acc o)) i h with q | ⟨o',e,h1,h2,h3,h4,h5⟩
  ·rcases Nat.lt_trichotomy i acc.size with c | c | c
   ·left
    rw[Array.getD_eq_getD_getElem?,Array.getElem?_push,if_neg (by omega)] at q
    rw[Array.getD_eq_getD_getElem?]
    exact q
   ·subst c
    rw[Array.getD_eq_getD_getElem?,Array.getElem?_push_size] at q
    simp only[Option.getD_some] at q
    unfold bitsOf at q
    rw[← Array.foldl_toList] at q
    rcases bits_fold acc j _ _ q with q | ⟨e,h1,h2,h3⟩
    ·simp at q
    ·refine .inr ⟨o,e,by simp,Nat.le_refl _,h1,h2,?_⟩
     rcases h3 with h3 | h3
     ·exact .inl h3
     ·right
      rw[Array.getD_eq_getD_getElem?] at h3 ⊢
      cases he:acc[e.on]? with
      | none=>rw[he] at h3;simp at h3
      | some v=>
       rw[he] at h3
       rw[bits_keep l _ e.on v (by rw[Array.getElem?_push,if_neg (by have:=(Age.1 he).1;omega)];exact he)]
       exact h3
   ·rw[Array.getD_eq_getD_getElem?,Array.getElem?_eq_none (by simp;omega)] at q
    simp at q
  ·rw[Array.size_push] at h1 h2
   refine .inr ⟨o',e,?_,by omega,h3,h4,h5⟩
   obtain⟨k,hk⟩:∃ k,i-acc.size=k+1:=⟨i-acc.size-1,by omega⟩
   rw[hk,List.getElem?_cons_succ]
   rw[show i-(acc.size+1)=k by omega] at h1
   exact h1
theorem before_ok {ops:Array Oper}{i j:Nat} (h:bt (Region.before ops) i j=true):∃ o e,ops[i]?=some o∧e ∈ o.after.toList∧Region.binds .any e=true∧(j=e.on∨bt (Region.before ops) e.on j=true):=by
 have e:Region.before ops=ops.toList.foldl (fun acc o=>acc.push (bitsOf acc o)) #[]:=by
  unfold Region.before bitsOf;rw[← Array.foldl_toList]
 unfold bt at h ⊢;rw[e] at h ⊢;rcases bits_ok j ops.toList #[] i h with q | ⟨o,e,h1,h2,h3,h4,h5⟩
 ·simp at q
 exact⟨o,e,by simpa using h1,h3,h4,h5⟩
section
variable {P:Program}{G:Nat}{E:EE}{ops:Array Oper}{b:Array Nat}
def Pend (P:Program) (G:Nat) (ops:Array Oper) (i:Nat) (a:AA) (h:AH) (m:Mp) (r:Nat):Prop:=∃ o wn e p bw,ops[i]?=some o∧wantedG ops o.guard=some wn∧execO P G o.op=some e∧putO o.dst=some p∧wn a=some bw∧(∀ d,o.dst=some d→d<a.n) ∧
 ((bw=false∧∀ d,o.dst=some d→a.get d=some undef) ∨
   (bw=true∧cls o.op=0∧∃ f v,aRead P G o.op=some f∧f a h=some v∧∀ d,o.dst=some d→a.get d=some v) ∨
   (bw=true∧cls o.op=1∧∃ f q,aNew P G o.op=some f∧f a=some q∧r<h.n∧m r=none∧h.get r=some q.1∧∀ d,o.dst=some d→a.get d=some (q.2 r)))
theorem reads_op {o:Oper}{d:Tmp} (hd:Operand.tmp d ∈ o.op.operands.toList):readsT ops o d=true:=by
 unfold readsT;simp only[Bool.or_eq_true];left;unfold tmpsOf;simp only[List.contains_eq_mem,List.mem_filterMap,decide_eq_true_eq];exact⟨.tmp d,hd,rfl⟩
theorem wanted_congr {o:Oper}{wn:Wn} (hw:wantedG ops o.guard=some wn) {a a':AA} (h:∀ d,readsT ops o d=true→a'.get d=a.get d):wn a'=wn a:=by
 unfold wantedG at hw;split at hw
 ·cases hw;rfl
 ·rename_i j want hg
  unfold wantedS at hw;split at hw
  ·cases hw;rfl
  ·rename_i d hd
   obtain⟨g,h1,rfl⟩:=map_some hw;simp only[wnS];rw[AA.get_form h1,AA.get_form h1,h d (by unfold readsT;rw[hg];simp[hd])]
theorem readsAt_eq {i:Nat}{o:Oper} (hi:ops[i]?=some o) (d:Tmp):readsAt ops i d=readsT ops o d:=by simp[readsAt,hi]
theorem dstOf_eq {i:Nat}{o:Oper} (hi:ops[i]?=some o):dstOf ops i=o.dst:=by simp[dstOf,hi]
theorem Pend.slots {i:Nat}{a a':AA}{h:AH}{m:Mp}{r:Nat} (hp:Pend P G ops i a h m r) (hn:a'.n=a.n) (h1:∀ d,readsAt ops i d=true→a'.get d=a.get d) (h2:∀ d,dstOf ops i=some d→a'.get d=a.get d):Pend P G ops i a' h m r:=by
 obtain⟨o,wn,e,p,bw,k1,k2,k3,k4,k5,k6,k7⟩:=hp;have h1':∀ d,readsT ops o d=true→a'.get d=a.get d:=fun d hd=>h1 d (by rw[readsAt_eq k1];exact hd);have h2':∀ d,o.dst=some d→a'.get d=a.get d:=fun d hd=>h2 d (by rw[dstOf_eq k1];exact hd);refine⟨o,wn,e,p,bw,k1,k2,k3,k4,by rw[wanted_congr k2 h1'];exact k5,fun d hd=>by rw[hn];exact k6 d hd,?_⟩;rcases k7 with ⟨q1,q2⟩ | ⟨q1,q2,f,v,q3,q4,q5⟩ | ⟨q1,q2,f,q,q3,q4,q5,q6,q7,q8⟩
 ·exact .inl ⟨q1,fun d hd=>by rw[h2' d hd];exact q2 d hd⟩
 ·exact .inr (.inl ⟨q1,q2,f,v,q3,by rw[aRead_congr q3 (a:=a') (a':=a) fun d hd=>h1' d (reads_op hd)];exact q4,fun d hd=>by rw[h2' d hd];exact q5 d hd⟩)
 exact .inr (.inr ⟨q1,q2,f,q,q3,by rw[aNew_congr q3 (a:=a') (a':=a) fun d hd=>h1' d (reads_op hd)];exact q4,q5,q6,q7,fun d hd=>by rw[h2' d hd];exact q8 d hd⟩)
theorem Pend.heap {i:Nat}{a:AA}{h h':AH}{m:Mp}{r:Nat} (hp:Pend P G ops i a h m r) (hh:HLe h h') (hn:h.n≤h'.n):Pend P G ops i a h' m r:=by
 obtain⟨o,wn,e,p,bw,k1,k2,k3,k4,k5,k6,k7⟩:=hp;refine⟨o,wn,e,p,bw,k1,k2,k3,k4,k5,k6,?_⟩;rcases k7 with k7 | ⟨q1,q2,f,v,q3,q4,q5⟩ | ⟨q1,q2,f,q,q3,q4,q5,q6,q7,q8⟩
 ·exact .inl k7
 ·exact .inr (.inl ⟨q1,q2,f,v,q3,aRead_heap q3 hh q4,q5⟩)
 exact .inr (.inr ⟨q1,q2,f,q,q3,q4,by omega,q6,hh _ _ q7,q8⟩)
theorem Pend.map {i:Nat}{a:AA}{h:AH}{m m':Mp}{r:Nat} (hp:Pend P G ops i a h m r) (hm:r<h.n→m r=none→m' r=none):Pend P G ops i a h m' r:=by
 obtain⟨o,wn,e,p,bw,k1,k2,k3,k4,k5,k6,k7⟩:=hp;refine⟨o,wn,e,p,bw,k1,k2,k3,k4,k5,k6,?_⟩;rcases k7 with k7 | k7 | ⟨q1,q2,f,q,q3,q4,q5,q6,q7,q8⟩
 ·exact .inl k7
 ·exact .inr (.inl k7)
 exact .inr (.inr ⟨q1,q2,f,q,q3,q4,q5,hm q5 q6,q7,q8⟩)
theorem step_parts {o:Oper}{s:St} (hst:stepO P G ops o=some s) {a a':AA}{h h':AH} (hv:s E a h=some (a',h')):∃ wn e p bw v,wantedG ops o.guard=some wn∧execO P G o.op=some e∧putO o.dst=some p∧wn a=some bw∧p v a=some a'∧((bw=true∧e E a h=some (v,h'))∨(bw=false∧v=undef∧h'=h)):=by
 unfold stepO at hst;obtain⟨wn,hw,hst1⟩:=bind_some hst;obtain⟨e,he,hst2⟩:=bind_some hst1;obtain⟨p,hp,rfl⟩:=map_some hst2;obtain⟨bw,hb,hv1⟩:=bind_some hv;unfold stB at hv1;split at hv1
 ·obtain⟨⟨v,h1⟩,hv2,hv3⟩:=bind_some hv1;simp only[putR] at hv3;obtain⟨a1,hp1,hv4⟩:=bind_some hv3;simp only[withH,Option.some.injEq,Prod.mk.injEq] at hv4;obtain⟨rfl,rfl⟩:=hv4;exact⟨wn,e,p,true,v,hw,he,hp,hb,hp1,.inl ⟨rfl,hv2⟩⟩
 simp only[putR] at hv1;obtain⟨a1,hp1,hv4⟩:=bind_some hv1;simp only[withH,Option.some.injEq,Prod.mk.injEq] at hv4;obtain⟨rfl,rfl⟩:=hv4;exact⟨wn,e,p,false,undef,hw,he,hp,hb,hp1,.inr ⟨rfl,rfl,rfl⟩⟩
theorem step_make {o:Oper}{wn:Wn}{e:Exe}{p:Pt} (hw:wantedG ops o.guard=some wn) (he:execO P G o.op=some e) (hp:putO o.dst=some p) {a a':AA}{h h':AH}{bw:Bool}{v:Value} (hb:wn a=some bw) (hpa:p v a=some a') (hc:(bw=true∧e E a h=some (v,h'))∨(bw=false∧v=undef∧h'=h)):∃ s,stepO P G ops o=some s∧s E a h=some (a',h'):=by
 refine⟨st wn e p,by simp[stepO,hw,he,hp],?_⟩;simp only[st,hb,Option.bind_some];rcases hc with ⟨rfl,hc⟩ | ⟨rfl,rfl,rfl⟩
 ·simp[stB,hc,putR,hpa,withH]
 simp[stB,putR,hpa,withH]
theorem put_ex {d:Option Tmp}{p:Pt} (hp:putO d=some p) {a:AA} (hd:∀ k,d=some k→k<a.n) (v:Value):∃ a',p v a=some a':=by
 cases d with
 | none=>simp only[putO,Option.some.injEq] at hp;subst hp;exact⟨a,rfl⟩
 | some k=>
  simp only[putO] at hp;obtain⟨u,hu,rfl⟩:=map_some hp;obtain⟨n,t⟩:=a;have:k<n:=hd k rfl;exact⟨_,by simp only[ptAt,AA.putF];rw[show Nat.blt k n=true by rw[Nat.blt_eq];exact this];rfl⟩
end
end Go.Proofs.YtmolfmgchbjnbaaGreatDoor.Ev
