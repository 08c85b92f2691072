import Derived.Deep.DeepHandedRow
import Derived.Deep.Slices
import Derived.LaidSub
import Derived.Lay
import Derived.Test.YtlokkgajpjafmaaGreatDoorM30
set_option linter.unusedSimpArgs false
set_option linter.unusedVariables false
set_option maxRecDepth 100000
set_option maxHeartbeats 40000000
open _root_.Go.Proofs.Tryz
namespace Go.Proofs.YtlokkgajpjafmaaGreatDoor
open Go.RowKit
open Wire Flow
section
variable {W:WL}{recs:LY}{draws ns:List Int}
def MmP (W:WL) (x y:Value) (wx:WL):Prop:=∃ mm:Mo,kH mm=0∧x=.string (gT mm)∧y=.int .i64 0∧Fr [] W wx∧wx.cell? ⟨W.heap.size,3,none⟩=some (.int .i64 mm.arrs)
def LpR (m:Mo) (recs:LY) (draws:List Int) (X Y X2 Y2:Nat) (V0:WL) (T:Nat) (w:WL):Prop:=∃ D,Mach.Plays (eE m) T (Mach.begin_ m recs draws) D∧Two (eE m) X Y X2 Y2 V0 [] D (Mach.begin_ m recs draws) w
theorem aUf {m:Mo}(h:kH m=0)(hK:Mach.ModOk m):GoE (eE m):=by
 obtain⟨hw,-,-⟩:=N3 h;obtain⟨hMo,h3⟩:=fB hw;obtain⟨w1,w2,w3⟩:=mY hw;have:=hMo.t;have:=hMo.p;have:=hMo.g;have:=hMo.a;exact aPo w1 (by omega) (by omega) (by omega) (by omega) (fun f hf=>(w3 f hf).2) hK
theorem LpR.used {m:Mo}{X Y X2 Y2 T:Nat}{V0 w:WL} (hE:GoE (eE m)) (h:LpR m recs draws X Y X2 Y2 V0 T w) (hG:Mach.Good (eE m) (Mach.begin_ m recs draws)) (hT:aDx (Mach.begin_ m recs draws)):∃ D,Mach.Plays (eE m) T (Mach.begin_ m recs draws) D∧Two (eE m) X Y X2 Y2 V0 [] D (Mach.begin_ m recs draws) w∧D.used≤T:=by
 obtain⟨D,hP,h2⟩:=h;obtain⟨-,-,a,-⟩:=Plays.told hE.sm hE.mod hG hT hP;have:(Mach.begin_ m recs draws).used=0:=rfl;exact⟨D,hP,h2,by omega⟩
theorem aEq {m:Mo}(hb:uG W){ta pa fa:OA}{tn tc pn pc fn fc:Nat} (hM:gY W (.agg #[.slice ta tn tc,.slice pa pn pc,iA m.globs,iA m.arrs,.slice fa fn fc]) m) (hz:E0 m) {ro do_ no:OA}{rc dc nc nr nd nn:Nat} (hr:iZ W (.slice ro nr rc) (recs.map .string)) (hd:iZ W (.slice do_ nd dc) (draws.map (.int .i64))) (hn:iZ W (.slice no nn nc) (ns.map (.int .i64))) (hnl:ns.length≤20000000000000) :
  Calls prog 3 #[.agg #[.slice ta tn tc,.slice pa pn pc,iA m.globs,iA m.arrs,.slice fa fn fc],.slice ro nr rc,.slice do_ nd dc,.slice no nn nc] W fun e w=>e=.returned (.bool true)∧Fr [] W w:=by
 obtain⟨W1,hW1⟩:=eXi (W.alloc (.cells #[.slice ta tn tc,.slice pa pn pc,iA m.globs,iA m.arrs,.slice fa fn fc] 25));have F1:=frA hW1
 have k1:W1.heap[W.heap.size]?=some (.cells #[.slice ta tn tc,.slice pa pn pc,iA m.globs,iA m.arrs,.slice fa fn fc] 25):=by rw[← hW1];exact wan W _
 have l1:=(Age.1 k1).1;have HB:Hid (∀ V,Fr [] W V→uG V):=fun V F=>hb.fr F;have HP5:Hid (∀ V,Fr [] W V→Calls prog 4 #[] V fun e w'=>e=.returned (.bool true)∧Fr [] V w'):=fun V F=>aEp (hb.fr F);have HPk:Hid (∀ V,Fr [] W V→Calls prog 5 #[.agg #[.slice ta tn tc,.slice pa pn pc,iA m.globs,iA m.arrs,.slice fa fn fc]] V fun e w'=>e=.returned (.tuple #[.string (gT m),iA (kH m)])∧Fr [] V w'):=fun V F=>aAs _ m V (hM.fr F) hz (hb.fr F).tab;have HPf:Hid (∀ V g,Fr [] W V→V.heap[g]?=some (.cells fn5 46)→Calls prog 5 #[.agg #[.slice none 0 0,.slice none 0 0,iA 0,iA 0,.slice (some (Ad g 0)) 3 3]] V fun e w'=>e=.returned (.tuple #[.string (gT mo5),iA 0])∧Fr [] V w'):=fun V g F hg=>r8 V g hg (hb.fr F).tab;have HA:Hid _:=AI hr (AI hd hn);have HF1:Hid _:=AI F1 l1;have HK1:Hid _:=k1;have HE4:Hid (kH m=0∨kH m=4):=by
  unfold kH;split
  ·exact .inl rfl
  exact .inr rfl
 clear hb hM hz hr hd hn F1 k1 l1;go_enter func3,ntmps3;go_wp2_with fail;refine Calls.mono (HP5.out W1 HF1.out.1) ?_;rintro e V ⟨rfl,FV⟩;have kV:=(FV.block _ HF1.out.2 (by simp)).trans HK1.out;obtain⟨⟨q0,q1,q2,q3,q4⟩,-⟩:=dY kV;have HV:Hid _:=AI (HF1.out.1.trans FV) (AI kV (Nll HF1.out.2 FV.size));clear FV kV HP5 HF1 HK1 hW1;go_wp2_with fail;refine Calls.mono (HPk.out V HV.out.1) ?_;rintro e V2 ⟨rfl,F2⟩;have HV2:Hid _:=AI (HV.out.1.trans F2) (AI ((F2.block _ HV.out.2.2 (by simp)).trans HV.out.2.1) (Nll HV.out.2.2 F2.size));clear F2 HPk q0 q1 q2 q3 q4 HV;generalize hS:gT m=ps at *;generalize hE:kH m=pe at *;have HSE:Hid _:=AI hS hE;clear hS hE;go_upto_if 34 with fail
 go_cut[10,11] from 25 to 40 (fun x y wx=>MmP W x y wx)
 case first=>
  rcases HE4.out with h0 | h0
  ·subst h0;go_wp2_with fail;go_meet;refine⟨m,HSE.out.2,by rw[HSE.out.1],rfl,HV2.out.1,(dY HV2.out.2.1).1.2.2.2.1⟩
  subst h0;go_wp2_with fail;refine Calls.mono (aCq V2) ?_;rintro e V3 ⟨g,rfl,F3,k3⟩;have kB:=(F3.block _ HV2.out.2.2 (by simp)).trans HV2.out.2.1;obtain⟨⟨q0,q1,q2,q3,q4⟩,fz⟩:=dY kB;have f0:=fz 0;have f1:=fz 1;have f2:=fz 2;have f3:=fz 3;have f4:=fz 4;have HS:Hid _:=kG kB;obtain⟨V4,hV4⟩:=eXi (oQ V3 W.heap.size (.slice none 0 0) (.slice none 0 0) (iA 0) (iA 0) (.slice (some (Ad g 0)) 3 3));have k4:=HS.out (.slice none 0 0) (.slice none 0 0) (iA 0) (iA 0) (.slice (some (Ad g 0)) 3 3);have FS:Fr [W.heap.size] V3 (oQ V3 W.heap.size (.slice none 0 0) (.slice none 0 0) (iA 0) (iA 0) (.slice (some (Ad g 0)) 3 3)):=((((((Fr.refl [W.heap.size] V3).setCell (.inl (by simp)) _).setCell (.inl (by simp)) _).setCell (.inl (by simp)) _).setCell (.inl (by simp)) _).setCell (.inl (by simp)) _);rw[hV4] at k4 FS;have hgB:g≠W.heap.size:=by
   rintro rfl;rw[kB] at k3;simp at k3
  have kg:=(FS.block g (Age.1 k3).1 (by simpa using hgB)).trans k3;have F4:Fr [] W V4:=(HV2.out.1.trans F3).trans' FS (fun y hy=>.inr (by simp at hy;omega));obtain⟨⟨r0,r1,r2,r3,r4⟩,-⟩:=dY k4;have HC:Hid _:=HPf.out V4 g F4 kg;have H4:Hid _:=AI F4 (AI r3 (Age.1 k4).1);unfold oQ at hV4;clear F3 k3 kB fz HS k4 FS hgB kg F4 HPf HV2 HB HA;go_wp2_with fail;refine Calls.mono HC.out ?_;rintro e V5 ⟨rfl,F5⟩;have H5:Hid _:=AI (H4.out.1.trans F5) ((F5.cell (p:=Ad W.heap.size 3) H4.out.2.2 (by simp)).trans H4.out.2.1);clear F5 HC H4 r0 r1 r2 r3 r4;go_wp2_with fail;go_meet;exact⟨mo5,qT Q7,rfl,rfl,H5.out.1,H5.out.2⟩
 case rest=>
  clear HSE HE4 HPf HV2;obtain⟨mm,hE0,rfl,rfl,F0,c3⟩:=hcut;obtain⟨hw,hu,hm⟩:=N3 hE0;have B0:=HB.out wc F0;obtain⟨hr,hd,hn⟩:=HA.out;have HC:Hid _:=aGe _ wc hm B0.tab hu hw;have HO:Hid (∀ V,Fr [] wc V→Calls prog 8 #[.string (gT mm),.slice ro nr rc,.slice do_ nd dc] V (bAa mm recs draws V)):=fun V F=>aAx _ (B0.fr F) hm hu hw (hr.fr (F0.trans F)) (hd.fr (F0.trans F));have HS:Hid (∀ V,Fr [] wc V→Calls prog 9 #[.slice ro nr rc,.slice do_ nd dc] V (IsB (Scr recs draws) V)):=fun V F=>J9 (hr.fr (F0.trans F)) (hd.fr (F0.trans F));have HN:Hid (∀ V,Fr [] wc V→iZ V (.slice no nn nc) (ns.map (.int .i64))):=fun V F=>hn.fr (F0.trans F);have HE:Hid (∀ hK:Mach.ModOk mm,GoE (eE mm)):=fun hK=>aUf hE0 hK;have hnn:nn=ns.length:=by
   obtain⟨o,c,e1,-⟩:=hn;cases e1;simp
  subst hnn;have hMo:=(fB hw).1;have c3:wc.cell? (Ad W.heap.size 3)=some (iA ((eE mm).mo.arrs.toNat:Nat)):=by
   have h0:=hMo.a;have e:((mm.arrs.toNat:Nat):Int)=mm.arrs:=by omega
   show _=some (iA ((mm.arrs.toNat:Nat):Int));rw[e];exact c3
  have H0:Hid _:=AI F0 (AI c3 (AI B0.six (show (eE mm).mo.arrs.toNat≤1000 by have:=hMo.a;show mm.arrs.toNat≤1000;omega)));clear hw hu hm B0 hr hd hn F0 c3 HB HA hMo hE0;generalize gT mm=ps at *;go_wp2_with fail;refine Calls.mono HC.out ?_;rintro e V1 ⟨f,p,c,rfl,F1,hA⟩;have H1:Hid _:=AI F1 hA;clear F1 hA HC;go_wp2_with fail;refine Calls.mono (HO.out V1 H1.out.1) ?_;rintro e V2 ⟨F2,f2,p2,x2,hA2,h2⟩;have e2:x2=c:=hA2.unique H1.out.2;subst e2;rcases h2 with ⟨h2,rfl⟩ | ⟨h2,hs,rfl⟩ | ⟨h2,hs,Y,rfl,hR⟩
  ·have H2:Hid _:=H1.out.1.trans F2;have g1:((x2:Int)==0)=false:=by simp;omega
   have g2:((x2:Int)!=0)=true:=by simp;omega
   have HA1:Hid _:=H1.out.2;clear F2 hA2 H1;go_wp2_with fail;refine Calls.mono (HO.out V2 H2.out) ?_;rintro e V3 ⟨F3,f3,p3,x3,hA3,h3⟩;have e3:x3=x2:=hA3.unique HA1.out;subst e3;rcases h3 with ⟨h3,rfl⟩ | ⟨h3,-⟩ | ⟨h3,-⟩
   ·have H3:Hid _:=H2.out.trans F3;clear F3 hA3 H2 HO HA1;go_wp2_with fail;refine Calls.mono (HS.out V3 H3.out) ?_;rintro e V4 ⟨b,rfl,-,hV4⟩;replace hV4:=hV4.symm;subst hV4;clear HS;go_wp2_with fail;go_ret;exact⟨rfl,H0.out.1.trans H3.out⟩
   ·exact absurd h3 h2
   exact absurd h3 h2
  ·subst h2;have H2:Hid _:=H1.out.1.trans F2;have HA1:Hid (∃ f p,uE mm f p 0):=⟨_,_,H1.out.2⟩;have HSc:Hid _:=hs;clear F2 hA2 H1 hs;go_wp2_with fail;refine Calls.mono (HO.out V2 H2.out) ?_;rintro e V3 ⟨F3,f3,p3,x3,hA3,h3⟩;have e3:x3=0:=by
    obtain⟨f',p',h'⟩:=HA1.out;exact hA3.unique h'
   subst e3;rcases h3 with ⟨h3,-⟩ | ⟨-,-,rfl⟩ | ⟨-,h3,-⟩
   ·exact absurd rfl h3
   ·have H3:Hid _:=H2.out.trans F3;clear F3 hA3 H2 HO HA1;go_wp2_with fail;refine Calls.mono (HS.out V3 H3.out) ?_;rintro e V4 ⟨b,rfl,hb,hV4⟩;replace hV4:=hV4.symm;subst hV4;have eb:b=false:=by
     cases b with
     | false=>rfl
     | true=>exact absurd (hb.1 rfl) HSc.out
    subst eb;clear HS hb;go_wp2_with fail;go_ret;exact⟨rfl,H0.out.1.trans H3.out⟩
   exact absurd h3 HSc.out
  subst h2;have HSc:Hid _:=hs;have H2:Hid _:=AI H1.out.1 (AI F2 hR);have HA1:Hid (∃ f p,uE mm f p 0):=⟨_,_,H1.out.2⟩;clear F2 hA2 H1 hs hR;go_wp2_with fail;refine Calls.mono (HO.out V2 (H2.out.1.trans H2.out.2.1)) ?_;rintro e V3 ⟨F3,f3,p3,x3,hA3,h3⟩;have e3:x3=0:=by
   obtain⟨f',p',h'⟩:=HA1.out;exact hA3.unique h'
  subst e3;rcases h3 with ⟨h3,-⟩ | ⟨-,h3,-⟩ | ⟨-,-,Y2,rfl,hR2⟩
  ·exact absurd rfl h3
  ·exact absurd HSc.out h3
  obtain⟨X,tag,R,ht,hK,hY⟩:=H2.out.2.2;obtain⟨X2,u,R2,hu,-,hY2⟩:=hR2;have T0:=Two.start (Nat.le_trans H0.out.2.2.1 H2.out.1.size) R H2.out.2.1 ht R2 F3 hu hY2;have hE:=HE.out hK;have HG:Hid _:=AI hE R.good;have HT0:Hid _:=T0;have FV1:Fr [] wc V1:=H2.out.1;have H3:Hid _:=FV1;have H4:Hid _:=(FV1.trans H2.out.2.1).trans F3;clear F3 hA3 HO HA1 H2 R ht hK hY R2 hu hY2 T0 hE FV1 HE;go_wp2_with fail;refine Calls.mono (HS.out V3 H4.out) ?_;rintro e V4 ⟨b,rfl,hb,hV4⟩;replace hV4:=hV4.symm;subst hV4;have eb:b=true:=hb.2 HSc.out;subst eb;clear HS hb H4;go_wp2_with fail
  go_loopw [20,21] (fun tq iq wr=>∃ (k T:Nat),k≤ns.length∧iq=iA k∧tq=iA T∧T≤k*100000∧Hid (LpR mm recs draws X Y X2 Y2 V1 T wr)) (fun _ q _=>ns.length-(intOf q).toNat)
  case atStart=>exact⟨0,0,by omega,rfl,rfl,by omega,_,rfl,HT0.out⟩
  case round=>
   clear HT0;obtain⟨k,T,hk,rfl,rfl,hT,J⟩:=hrel;obtain⟨D,hP,h2,hu⟩:=J.out.used HG.out.1 HG.out.2.1 HG.out.2.2;by_cases hlt:k<ns.length
   ·have g1:(k:Int)<(ns.length:Int):=by omega
    have g2:IntKind.i64.wrap ((k:Int)+1)=((k+1:Nat):Int):=by rw[IntKind.wrap_i64];omega
    have g4:T≤(k+1)*100000:=Nat.le_trans hT (Nat.mul_le_mul_right _ (Nat.le_succ k));obtain⟨n,hn⟩:∃ n,ns[k]?=some n:=⟨_,Lge hlt⟩;obtain⟨o,c,e1,e2,e3,e4⟩:=HN.out V1 H3.out;obtain⟨g,off,rfl,e6,e7⟩:=e4 (by rw[List.length_map];omega);simp only[Value.slice.injEq] at e1;obtain⟨rfl,-,-⟩:=e1;have e8:V1.cell? (Ad g (off+k))=some (iA n):=e7 k _ (by rw[List.getElem?_map,hn];rfl);have e9:wr.cell? (Ad g (off+k))=some (iA n):=(h2.old.cell (p:=Ad g (off+k)) e6 (by simp)).trans e8;have HC:Hid (Calls prog 10 #[ptr Y,iA n] wr fun e w=>e=.returned (.bool true)∧w.cell? (Ad g (off+k))=some (iA n)∧LpR mm recs draws X Y X2 Y2 V1 (T+if 0<n∧n≤100000 then n.toNat else 0) w):=by
     refine (h2.piece HG.out.1 n (by omega)).mono ?_;rintro e w ⟨he,D',hP',h3⟩;exact⟨he,(h3.old.cell (p:=Ad g (off+k)) e6 (by simp)).trans e8,D',hP.append hP',h3⟩
    clear J hP h2 hu e2 e3 e4 e6 e7 e8 HN H3 HG hn hlt;generalize ns.length=nl at *;go_wp2_with fail;refine Calls.mono HC.out ?_;rintro e w ⟨rfl,e8,J⟩;rcases Int.lt_or_le 0 n with hn0 | hn0
    ·rcases Int.lt_or_le 100000 n with hn1 | hn1
     ·rw[if_neg (by omega),Nat.add_zero] at J;have JJ:Hid _:=J;have hn2:¬ n≤100000:=by omega
      clear HC J e9;go_wp2_with fail;exact⟨⟨k+1,T,by omega,by go_num,rfl,g4,JJ⟩,by simp[intOf];omega⟩
     rw[if_pos ⟨hn0,hn1⟩] at J;obtain⟨N,rfl⟩:=Int.eq_ofNat_of_zero_le (Int.le_of_lt hn0);have JJ:Hid _:=J;have g3:IntKind.i64.wrap ((T:Int)+N)=((T+N:Nat):Int):=by rw[IntKind.wrap_i64];omega
     clear HC J e9;go_wp2_with fail;exact⟨⟨k+1,T+N,by omega,by go_num,by go_num,by omega,JJ⟩,by simp[intOf];omega⟩
    rw[if_neg (by omega),Nat.add_zero] at J;have JJ:Hid _:=J;have hn2:¬ 0<n:=by omega
    clear HC J e9;go_wp2_with fail;exact⟨⟨k+1,T,by omega,by go_num,rfl,g4,JJ⟩,by simp[intOf];omega⟩
   have e0:k=ns.length:=by omega
   have g1:¬ (k:Int)<(ns.length:Int):=by omega
   subst e0;have HT:Hid (Calls prog 11 #[ptr Y2] wr fun e w=>e=.returned (.agg #[iA 0,iA 0,.string ⟨#[]⟩,iA 0])∧Fr [] wr w):=h2.swap.tell;have H5:Hid _:=AI hP h2;clear J hP h2 HN;go_wp2_with fail;refine Calls.mono HT.out ?_;rintro e V5 ⟨rfl,F5⟩;obtain⟨V6,hV6⟩:=eXi (V5.alloc (.cells #[iA 0,iA 0,.string ⟨#[]⟩,iA 0] 40));obtain⟨kQ,F6,l6⟩:=dH hV6;have h2:=H5.out.2.new (F5.trans F6) F5.size l6;have HC:Hid (Calls prog 12 #[ptr Y2,iA (T:Nat)] V6 fun e w=>e=.returned (.bool true)∧Two (eE mm) X Y X2 Y2 V1 [V5.heap.size] D D w∧w.heap[V5.heap.size]?=V6.heap[V5.heap.size]?):=by
    refine (h2.swap.once HG.out.1 T (by show 0+T≤_;omega)).mono ?_;rintro e w ⟨he,D',hP',h3,hq⟩;have:=H5.out.1.unique hP';subst this;exact⟨he,h3.swap,hq _ (by simp)⟩
   obtain⟨⟨c0,c1,c2,c3⟩,fz⟩:=dT kQ;have f0:=fz 0;have f1:=fz 1;have f2:=fz 2;have f3:=fz 3;have s0:V6.setCell ⟨V5.heap.size,0,none⟩ (.int .i64 0)=V6:=fA kQ rfl;have s1:V6.setCell ⟨V5.heap.size,1,none⟩ (.int .i64 0)=V6:=fA kQ rfl;have s2:V6.setCell ⟨V5.heap.size,2,none⟩ (.string ⟨#[]⟩)=V6:=fA kQ rfl;have s3:V6.setCell ⟨V5.heap.size,3,none⟩ (.int .i64 0)=V6:=fA kQ rfl;have H6:Hid _:=kQ;clear F5 kQ F6 l6 h2 HT H5 fz;go_wp2_with fail;refine Calls.mono HC.out ?_;rintro e V7 ⟨rfl,h2,hq⟩;have HT1:Hid (∀ w,Two (eE mm) X Y X2 Y2 V1 [V5.heap.size] D D w→Calls prog 11 #[ptr Y] w fun e w'=>e=.returned (stV D.st D.code D.w.out D.used)∧Fr [] w w'):=fun w h=>h.tell;have HT2:Hid (∀ w,Two (eE mm) X Y X2 Y2 V1 [V5.heap.size] D D w→Calls prog 11 #[ptr Y2] w fun e w'=>e=.returned (stV D.st D.code D.w.out D.used)∧Fr [] w w'):=fun w h=>h.swap.tell;unfold stV at HT1 HT2;have H7:Hid _:=AI h2 (hq.trans H6.out);clear h2 hq HC c0 c1 c2 c3 H6 HG f0 f1 f2 f3 s0 s1 s2 s3;generalize D.st=d0 at *;generalize D.code=d1 at *;generalize D.w.out=d2 at *;generalize D.used=d3 at *;go_wp2_with fail;refine Calls.mono (HT1.out V7 H7.out.1) ?_;rintro e V8 ⟨rfl,F8⟩;have h2:=H7.out.1.fr F8;obtain⟨t,u,-,-,-,-,-,-,-,-,hq⟩:=id H7.out.1;obtain⟨-,-,lQ,lV,-⟩:=hq V5.heap.size (by simp);have kQ:=(F8.block _ lQ (by simp)).trans H7.out.2;obtain⟨⟨c0,c1,c2,c3⟩,fz⟩:=dT kQ;have f0:=fz 0;have f1:=fz 1;have f2:=fz 2;have f3:=fz 3;obtain⟨V9,hV9⟩:=eXi ((((V8.setCell ⟨V5.heap.size,0,none⟩ (.int .i64 (d0:Nat))).setCell ⟨V5.heap.size,1,none⟩ (.int .i64 d1)).setCell ⟨V5.heap.size,2,none⟩ (.string d2)).setCell ⟨V5.heap.size,3,none⟩ (.int .i64 (d3:Nat)));have k9:=xQ kQ (iA (d0:Nat)) (iA d1) (.string d2) (iA (d3:Nat));have FS:Fr [V5.heap.size] V8 ((((V8.setCell ⟨V5.heap.size,0,none⟩ (.int .i64 (d0:Nat))).setCell ⟨V5.heap.size,1,none⟩ (.int .i64 d1)).setCell ⟨V5.heap.size,2,none⟩ (.string d2)).setCell ⟨V5.heap.size,3,none⟩ (.int .i64 (d3:Nat))):=(((((Fr.refl [V5.heap.size] V8).setCell (.inl (by simp)) _).setCell (.inl (by simp)) _).setCell (.inl (by simp)) _).setCell (.inl (by simp)) _);rw[hV9] at k9 FS;have h9:=h2.poke (q:=V5.heap.size) (by simp) FS;have l9:=(Age.1 k9).1;have H9:Hid _:=AI h9 (AI k9 l9);clear F8 h2 hq lQ lV kQ fz FS h9 k9 l9 H7 HT1;go_wp2_with fail;refine Calls.mono (HT2.out V9 H9.out.1) ?_;rintro e V10 ⟨rfl,F10⟩;obtain⟨V11,hV11⟩:=eXi (V10.alloc (.cells #[iA (d0:Nat),iA d1,.string d2,iA (d3:Nat)] 40));obtain⟨k11,F11,l11⟩:=dH hV11;have h11:=H9.out.1.fr (F10.trans F11);have kQ:=((F10.trans F11).block _ H9.out.2.2 (by simp)).trans H9.out.2.1;have b3:V11.cell? (Ad W.heap.size 3)=some (iA ((eE mm).mo.arrs.toNat:Nat)):=((H3.out.trans h11.old).cell (p:=Ad W.heap.size 3) (aB H0.out.2.1) (by simp)).trans H0.out.2.1;have HK:Hid _:=h11.keys H0.out.2.2.2;have H11:Hid _:=AI (H0.out.1.trans (H3.out.trans h11.old)) (AI kQ (AI k11 (AI l11 (Nll H9.out.2.2 (F10.trans F11).size))));generalize (eE mm).mo.arrs.toNat=na at *;clear F10 F11 k11 l11 h11 kQ H9 HT2 H0 H3;go_wp2_with fail;refine Calls.mono HK.out ?_;rintro e V12 ⟨rfl,F12⟩;obtain⟨F0,kQ,kR,lR,lQ⟩:=H11.out;obtain⟨⟨c0,c1,c2,c3⟩,-⟩:=dT ((F12.block _ lQ (by simp)).trans kQ);obtain⟨⟨x0,x1,x2,x3⟩,-⟩:=dT ((F12.block _ lR (by simp)).trans kR);have H12:Hid _:=F0.trans F12;clear F0 kQ kR lR lQ F12 H11 HK b3;go_wp2_with fail;go_ret;exact⟨rfl,H12.out⟩
end
open Go.ChangeShapes Go.WideShapes Go.ChangeAt Go.RowKit Go.ChangeMaps
theorem bBx:prog.cellsOf 5=1:=by kernel_rfl
theorem aUw:prog.cellsOf 3=1:=by kernel_rfl
theorem aXz:prog.cellsOf 9=1:=by kernel_rfl
theorem aZn:prog.cellsOf 46=3:=by kernel_rfl
theorem aZo:prog.cellsOf 25=5:=by kernel_rfl
theorem aZq:prog.cellsOf 22=1:=by kernel_rfl
theorem aZp:prog.cellsOf 23=1:=by kernel_rfl
theorem tM {α:Type}(n:Nat)(f:Nat→α)(i:Nat)(x:α)(h:((List.range n).map f)[i]?=some x):i<n∧x=f i:=by
 rw[List.getElem?_map] at h;by_cases hi:i<n
 ·rw[List.getElem?_range hi] at h;exact⟨hi,by simpa using h.symm⟩
 rw[List.getElem?_eq_none (by simp;omega)] at h;cases h
theorem s8 {H:Type}{enc:TypeId × Value→H}{W:WL}{n:Nat}{v:Value}{x:DataW H × List MemPlace}
  (h:DataW.trod enc prog W 0 (fun _=>true) true n 22 [v]=some x):∃ L:LY,mD W v L∧L.length≤maxLen∧∀ s ∈ L,s.size≤maxLen:=by
 rcases Go.Deep.open_slice1 underlying22 aXz h with ⟨hcs,-⟩ | ⟨a,len,cap,m,k,V,D,Pl,hcs,-,hl,hm,hmm,-,hel⟩
 ·have hv:v=.slice none 0 0:=by simpa using hcs
  subst hv;exact⟨[],⟨none,0,0,0,rfl,Nat.le_refl _,fun h=>absurd h (Nat.lt_irrefl _),fun i x hx=>by cases hx⟩,by simp[maxLen],fun s hs=>by cases hs⟩
 have hv:v=.slice (some a) len cap:=by simpa using hcs
 subst hv;simp only[if_true] at hmm;subst hmm;have each:∀ i,∃ s:BA,i<len→W.cell? (a.add i)=some (.string s)∧s.size≤maxLen:=fun i=>by
  by_cases hi:i<len
  ·obtain⟨h1,h2⟩:=hel i (by omega);obtain⟨s,e,-,hs⟩:=DataW.trod_string underlying9 h2;have:V i=.string s:=by simpa using e
   exact⟨s,fun _=>⟨by rw[h1,this],hs⟩⟩
  exact⟨⟨#[]⟩,fun h=>absurd h hi⟩
 obtain⟨S,hS⟩:=Classical.skolem.1 each;obtain⟨g,off,spot⟩:=a;refine⟨(List.range len).map S,?_,by simp;omega,?_⟩
 ·refine⟨some ⟨g,off,spot⟩,m,g,off,by simp,by simpa using hl,fun h0=>?_,fun i x hx=>?_⟩
  ·have h0':0<len:=by simpa using h0
   have hc:=(hS 0 h0').1;have hspot:spot=none:=by simpa [Addr.add] using World.cell?_spot hc
   subst hspot;exact⟨rfl,by have:=aB hc;simpa [Addr.add] using this⟩
  obtain⟨hi,rfl⟩:=tM _ _ _ _ hx;have hc:=(hS i hi).1;have hspot:spot=none:=by
   have h0:=(hS 0 (by omega)).1;simpa [Addr.add] using World.cell?_spot h0
  subst hspot;rw[pU] at hc;exact hc
 intro s hs;obtain⟨i,hi,rfl⟩:=List.mem_map.1 hs;exact (hS i (List.mem_range.1 hi)).2
theorem aOb {H:Type}{enc:TypeId × Value→H}{W:WL}{n:Nat}{v:Value}{x:DataW H × List MemPlace}
  (h:DataW.trod enc prog W 0 (fun _=>true) true n 23 [v]=some x):∃ L:List Wire.Fn,vB W v L∧L.length≤maxLen∧∀ s ∈ L,s.code.size≤maxLen:=by
 rcases Go.Deep.open_slice underlying23 h with ⟨hcs,-⟩ | ⟨a,len,cap,m,k,D,Pl,hcs,-,hl,hm,hmm,-,hel⟩
 ·have hv:v=.slice none 0 0:=by simpa using hcs
  subst hv
  exact⟨[],⟨none,0,0,0,rfl,Nat.le_refl _,fun h=>absurd h (Nat.lt_irrefl _),fun i x hx=>by cases hx⟩,by simp[maxLen],fun s hs=>by cases hs⟩
 ·have hv:v=.slice (some a) len cap:=by simpa using hcs
  subst hv
  simp only[if_true] at hmm
  subst hmm
  rw[aZn] at hel
  have each:∀ i,∃ f:Wire.Fn,i<len→(W.cell? (a.add (i*3))=some (iA f.params)∧W.cell? ((a.add (i*3)).add 1)=some (iA f.locs)∧W.cell? ((a.add (i*3)).add 2)=some (.string f.code))∧f.code.size≤maxLen:=fun i=>by
   by_cases hi:i<len
   ·obtain⟨cs',h1,h2⟩:=hel i (by omega)
    obtain⟨_,hlen,hcell⟩:=World.cells?_some h1
    obtain⟨xs,k',-,-,-,hxl,hf⟩:=DataW.trod_struct underlying46 h2
    match xs,hxl,cs',hlen with
    | [y0,y1,y2],_,[v0,v1,v2],_=>
     have g0:=hf 0 _ rfl
     have g1:=hf 1 _ rfl
     have g2:=hf 2 _ rfl
     simp[aUw,aXz] at g0 g1 g2
     obtain⟨n0,e0,-,-⟩:=DataW.trod_int underlying3 g0
     obtain⟨n1,e1,-,-⟩:=DataW.trod_int underlying3 g1
     obtain⟨s2,e2,-,w2⟩:=DataW.trod_string underlying9 g2
     simp at e0 e1 e2
     subst e0 e1 e2
     have c0:=hcell 0 (by omega)
     have c1:=hcell 1 (by omega)
     have c2:=hcell 2 (by omega)
     exact⟨⟨n0,n1,s2⟩,fun _=>⟨⟨by simpa [Addr.add] using c0,by simpa using c1,by simpa using c2⟩,w2⟩⟩
   ·exact⟨⟨0,0,⟨#[]⟩⟩,fun h=>absurd h hi⟩
  obtain⟨S,hS⟩:=Classical.skolem.1 each
  obtain⟨g,off,spot⟩:=a
  refine⟨(List.range len).map S,?_,by simp;omega,?_⟩
  ·refine⟨some ⟨g,off,spot⟩,m,g,off,by simp,by simpa using hl,fun h0=>?_,fun i x hx=>?_⟩
   ·have h0':0<len:=by simpa using h0
    have hc:=(hS 0 h0').1.1
    have hspot:spot=none:=by simpa [Addr.add] using World.cell?_spot hc
    subst hspot
    exact⟨rfl,by have:=aB hc;simpa [Addr.add] using this⟩
   ·obtain⟨hi,rfl⟩:=tM _ _ _ _ hx
    obtain⟨c0,c1,c2⟩:=(hS i hi).1
    have hspot:spot=none:=by
     have h0:=(hS 0 (by omega)).1.1
     simpa [Addr.add] using World.cell?_spot h0
    subst hspot
    rw[Go.Deep.add_add] at c1 c2
    rw[pU] at c0 c1 c2
    exact⟨c0,by simpa [Nat.add_assoc] using c1,by simpa [Nat.add_assoc] using c2⟩
  ·intro s hs
   obtain⟨i,hi,rfl⟩:=List.mem_map.1 hs
   exact (hS i (List.mem_range.1 hi)).2
theorem aOa {H:Type}{enc:TypeId × Value→H}{W:WL}{n:Nat}{cs:LV}{x:DataW H × List MemPlace} (hll:cs.length=5)
  (h:DataW.trod enc prog W 0 (fun _=>true) true n 25 cs=some x):∃ (m:Mo) (tv pv fv:Value),cs=[tv,pv,iA m.globs,iA m.arrs,fv]∧gY W (.agg #[tv,pv,iA m.globs,iA m.arrs,fv]) m∧E0 m:=by
 obtain⟨xs,k',-,-,-,hxl,hf⟩:=DataW.trod_struct underlying25 h
 match xs,hxl,cs,hll with
 | [y0,y1,y2,y3,y4],_,[v0,v1,v2,v3,v4],_=>
  have g0:=hf 0 _ rfl
  have g1:=hf 1 _ rfl
  have g2:=hf 2 _ rfl
  have g3:=hf 3 _ rfl
  have g4:=hf 4 _ rfl
  simp[aUw,aZq,aZp] at g0 g1 g2 g3 g4
  obtain⟨L0,s0,l0,z0⟩:=s8 g0
  obtain⟨L1,s1,l1,z1⟩:=s8 g1
  obtain⟨n2,e2,-,-⟩:=DataW.trod_int underlying3 g2
  obtain⟨n3,e3,-,-⟩:=DataW.trod_int underlying3 g3
  obtain⟨L4,s4,l4,z4⟩:=aOb g4
  simp at e2 e3
  subst e2 e3
  exact⟨⟨L0,L1,n2,n3,L4⟩,v0,v1,v4,rfl,⟨v0,v1,v4,rfl,s0,s1,s4⟩,⟨l0,z0,l1,z1,l4,z4⟩⟩
theorem tO {H:Type}{α:Type} [Inhabited α] {enc:TypeId × Value→H}{W:WL}{n:Nat}{t e:TypeId}{v:Value}{x:DataW H × List MemPlace}{f:α→Value} (ht:prog.underlying t=some (.slice e)) (hc:prog.cellsOf e=1) (hQ:∀ (k:Nat) (y:Value) (z:DataW H × List MemPlace),DataW.trod enc prog W 0 (fun _=>true) true k e [y]=some z→∃ a,y=f a)
  (h:DataW.trod enc prog W 0 (fun _=>true) true n t [v]=some x) {B:Nat} (hb:∀ el sp,x.1=.slice el sp→el.length≤B):∃ L:List α,L.length≤B∧iZ W v (L.map f):=by
 rcases Go.Deep.open_slice1 ht hc h with ⟨hcs,-⟩ | ⟨a,len,cap,m,k,V,D,Pl,hcs,-,hl,hm,hmm,hx,hel⟩
 ·have hv:v=.slice none 0 0:=by simpa using hcs
  subst hv;exact⟨[],by simp,none,0,rfl,Nat.le_refl _,by decide,fun h=>absurd h (by simp)⟩
 have hv:v=.slice (some a) len cap:=by simpa using hcs
 subst hv;subst hx;simp only[if_true] at hmm;subst hmm;have hlen:len≤B:=by simpa using hb _ _ rfl
 have each:∀ i,∃ s:α,i<len→W.cell? (a.add i)=some (f s):=fun i=>by
  by_cases hi:i<len
  ·obtain⟨h1,h2⟩:=hel i (by omega);obtain⟨s,hs⟩:=hQ _ _ _ h2;exact⟨s,fun _=>by rw[h1,hs]⟩
  exact⟨default,fun h=>absurd h hi⟩
 obtain⟨S,hS⟩:=Classical.skolem.1 each;obtain⟨g,off,spot⟩:=a;refine⟨(List.range len).map S,by simpa using hlen,some ⟨g,off,spot⟩,m,by simp,by simpa using hl,by unfold maxLen at hm;omega,fun h0=>?_⟩;have h0':0<len:=by simpa using h0
 have hc0:=hS 0 h0';have hspot:spot=none:=by simpa [Addr.add] using World.cell?_spot hc0
 subst hspot;refine⟨g,off,rfl,by have:=aB hc0;simpa [Addr.add] using this,fun i x hx=>?_⟩;rw[List.getElem?_map] at hx;cases hy:((List.range len).map S)[i]? with
 | none=>rw[hy] at hx;cases hx
 | some y=>
  rw[hy] at hx;cases hx;obtain⟨hi,rfl⟩:=tM _ _ _ _ hy;have hc:=hS i hi;rw[pU] at hc;exact hc
theorem pC {W W':WL}(h:Fr [] W W'):Below W.heap.size W W':=⟨h.os,h.tape,h.output,h.size,fun k hk=>h.block k hk (by simp)⟩
theorem sM:laidOutB prog=true:=by kernel_rfl
theorem bAm:ownKnob prog.godebug=none:=by kernel_rfl
end Go.Proofs.YtlokkgajpjafmaaGreatDoor
