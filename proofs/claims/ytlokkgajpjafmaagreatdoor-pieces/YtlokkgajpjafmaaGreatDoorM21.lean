import Derived.Test.YtlokkgajpjafmaaGreatDoorM20
set_option linter.unusedSimpArgs false
set_option linter.unusedVariables false
set_option maxRecDepth 100000
set_option maxHeartbeats 40000000
open _root_.Go.Proofs.Tryz
namespace Go.Proofs.YtlokkgajpjafmaaGreatDoor
open Go.RowKit
open Wire Flow Mach
def iZ (W:WL) (v:Value) (xs:LV):Prop:=∃ o c,v=.slice o xs.length c∧xs.length≤c∧c≤9223372036854775807∧(0<xs.length→∃ g off,o=some ⟨g,off,none⟩∧g<W.heap.size∧∀ (i:Nat) (x:Value),xs[i]?=some x→W.cell? ⟨g,off+i,none⟩=some x)
theorem iZ.fr {W W':WL}{v:Value}{xs:LV} (h:iZ W v xs) (F:Fr [] W W'):iZ W' v xs:=by
 obtain⟨o,c,h1,h2,h3,h4⟩:=h;refine⟨o,c,h1,h2,h3,fun h0=>?_⟩;obtain⟨g,off,e1,e2,e3⟩:=h4 h0;exact⟨g,off,e1,Nll e2 F.size,fun i x hi=>(F.cell (p:=Ad g (off+i)) e2 (by simp)).trans (e3 i x hi)⟩
def IsB (P:Prop) (W:WL) (e:Ending) (w:WL):Prop:=∃ b:Bool,e=.returned (.bool b)∧(b=true↔P)∧w=W
def IsQ (P:Prop) (W:WL) (e:Ending) (w:WL):Prop:=∃ q:Int,e=.returned (.int .i64 q)∧(0≤q↔P)∧w=W
abbrev fnV (n:Nat):Value:=.func (.func n) #[] #[]
def nW (s:BA):Prop:=100<s.size
def rE (n:Int):Prop:=n < -1000000000∨1000000000<n
def Scr (rs:LY) (ds:List Int):Prop:=rs.length≤50∧ds.length≤50∧(¬ ∃ s ∈ rs,nW s)∧¬ ∃ n ∈ ds,rE n
theorem aFi (x:BA)(W:WL):Calls prog 31 #[.string x] W (IsB (nW x) W):=by
 by_cases h:100<x.size
 ·have h':100<(x.size:Int):=by omega
  go_enter func31,ntmps31;go_wp2_with fail;go_ret;exact⟨true,rfl,by simp[nW,h],rfl⟩
 have h':¬ 100<(x.size:Int):=by omega
 go_enter func31,ntmps31;go_wp2_with fail;go_ret;exact⟨false,rfl,by simp[nW,h],rfl⟩
theorem aCi (L:LY)(hn:L.length≤50){v:Value}(W:WL)(h:iZ W v (L.map (.string))):Calls prog 55 #[v,fnV 31] W (IsQ (∃ x ∈ L,nW x) W):=by
 obtain⟨o,c,rfl,hc,hc2,hx⟩:=h;rw[List.length_map] at hc hx ⊢;have HX:Hid _:=hx;have J0:Hid (¬ ∃ (j:Nat) (x:BA),j<0∧L[j]?=some x∧nW x):=by rintro ⟨j,x,h,-⟩;omega
 clear hx;go_enter func55,ntmps55;go_wp2_with fail
 go_loop [8] (fun q=>∃ k:Nat,k≤L.length∧q=iA k∧Hid (¬ ∃ (j:Nat) (x:BA),j<k∧L[j]?=some x∧nW x)) (fun q=>L.length-(intOf q).toNat)
 case atStart=>exact⟨0,by omega,rfl,J0⟩
 case round=>
  clear J0;obtain⟨k,hk,rfl,J⟩:=hrel;by_cases hlt:k<L.length
  ·have g1:(k:Int)<L.length:=by omega
   obtain⟨x,hx⟩:∃ x,L[k]?=some x:=⟨_,Lge hlt⟩;obtain⟨g,off,rfl,-,hcell⟩:=HX.out (by omega);have c1:W.cell? (Ad g (off+k))=some (.string x):=hcell k _ (by rw[List.getElem?_map,hx];rfl);have HI:Hid _:=aFi x W;have Hx:Hid _:=hx;have g2:IntKind.i64.wrap ((k:Int)+1)=((k+1:Nat):Int):=by rw[IntKind.wrap_i64];omega
   clear hx hcell HX;go_wp2_with fail;refine Calls.mono HI.out ?_;rintro e W1 ⟨b,rfl,hb,hW⟩;subst hW;have HB:Hid _:=hb;clear hb HI;rcases b with _ | _
   ·go_wp2_with fail;refine⟨⟨k+1,by omega,by go_num,?_⟩,by simp[intOf];omega⟩;rintro ⟨j,y,hj,hy,hp⟩;rcases Nat.lt_or_ge j k with c2 | c2
    ·exact J.out ⟨j,y,c2,hy,hp⟩
    have:j=k:=by omega
    subst this;have hxx:=Hx.out;rw[hxx] at hy;cases hy;have:=HB.out.2 hp;cases this
   go_wp2_with fail;go_ret;exact⟨k,rfl,⟨fun _=>⟨x,List.mem_of_getElem? Hx.out,by have:=HB.out;simpa using this⟩,fun _=>by omega⟩,rfl⟩
  have g1:¬ ((k:Int)<L.length):=by omega
  go_wp2_with fail;go_ret;refine⟨-1,rfl,⟨fun h=>by omega,?_⟩,rfl⟩;rintro ⟨x,hx,hp⟩;obtain⟨j,hj⟩:=List.getElem?_of_mem hx;exact absurd ⟨j,x,by have:=(Lgs.1 hj).1;omega,hj,hp⟩ J.out
theorem aCk (L:LY)(hn:L.length≤50){v:Value}(W:WL)(h:iZ W v (L.map (.string))):Calls prog 30 #[v,fnV 31] W (IsB (∃ x ∈ L,nW x) W):=by
 have HI:Hid _:=aCi L hn W h;clear h;go_enter func30,ntmps30;go_wp2_with fail;refine Calls.mono HI.out ?_;rintro e W1 ⟨q,rfl,hq,hW⟩;subst hW;have HQ:Hid _:=hq;clear hq HI;go_wp2_with fail;go_ret;exact⟨decide (0≤q),rfl,by simpa using HQ.out,rfl⟩
theorem aKo (x:Int)(W:WL):Calls prog 33 #[iA x] W (IsB (rE x) W):=by
 by_cases h:x < -1000000000
 ·go_enter func33,ntmps33;go_wp2_with fail;go_ret;exact⟨true,rfl,by simp[rE,h],rfl⟩
 by_cases h2:1000000000<x
 ·go_enter func33,ntmps33;go_wp2_with fail;go_ret;exact⟨true,rfl,by simp[rE,h2],rfl⟩
 go_enter func33,ntmps33;go_wp2_with fail;go_ret;exact⟨false,rfl,by simp[rE,h,h2],rfl⟩
theorem aFj (L:List Int)(hn:L.length≤50){v:Value}(W:WL)(h:iZ W v (L.map (.int .i64))):Calls prog 56 #[v,fnV 33] W (IsQ (∃ x ∈ L,rE x) W):=by
 obtain⟨o,c,rfl,hc,hc2,hx⟩:=h;rw[List.length_map] at hc hx ⊢;have HX:Hid _:=hx;have J0:Hid (¬ ∃ (j:Nat) (x:Int),j<0∧L[j]?=some x∧rE x):=by rintro ⟨j,x,h,-⟩;omega
 clear hx;go_enter func56,ntmps56;go_wp2_with fail
 go_loop [8] (fun q=>∃ k:Nat,k≤L.length∧q=iA k∧Hid (¬ ∃ (j:Nat) (x:Int),j<k∧L[j]?=some x∧rE x)) (fun q=>L.length-(intOf q).toNat)
 case atStart=>exact⟨0,by omega,rfl,J0⟩
 case round=>
  clear J0;obtain⟨k,hk,rfl,J⟩:=hrel;by_cases hlt:k<L.length
  ·have g1:(k:Int)<L.length:=by omega
   obtain⟨x,hx⟩:∃ x,L[k]?=some x:=⟨_,Lge hlt⟩;obtain⟨g,off,rfl,-,hcell⟩:=HX.out (by omega);have c1:W.cell? (Ad g (off+k))=some (iA x):=hcell k _ (by rw[List.getElem?_map,hx];rfl);have HI:Hid _:=aKo x W;have Hx:Hid _:=hx;have g2:IntKind.i64.wrap ((k:Int)+1)=((k+1:Nat):Int):=by rw[IntKind.wrap_i64];omega
   clear hx hcell HX;go_wp2_with fail;refine Calls.mono HI.out ?_;rintro e W1 ⟨b,rfl,hb,hW⟩;subst hW;have HB:Hid _:=hb;clear hb HI;rcases b with _ | _
   ·go_wp2_with fail;refine⟨⟨k+1,by omega,by go_num,?_⟩,by simp[intOf];omega⟩;rintro ⟨j,y,hj,hy,hp⟩;rcases Nat.lt_or_ge j k with c2 | c2
    ·exact J.out ⟨j,y,c2,hy,hp⟩
    have:j=k:=by omega
    subst this;have hxx:=Hx.out;rw[hxx] at hy;cases hy;have:=HB.out.2 hp;cases this
   go_wp2_with fail;go_ret;exact⟨k,rfl,⟨fun _=>⟨x,List.mem_of_getElem? Hx.out,by have:=HB.out;simpa using this⟩,fun _=>by omega⟩,rfl⟩
  have g1:¬ ((k:Int)<L.length):=by omega
  go_wp2_with fail;go_ret;refine⟨-1,rfl,⟨fun h=>by omega,?_⟩,rfl⟩;rintro ⟨x,hx,hp⟩;obtain⟨j,hj⟩:=List.getElem?_of_mem hx;exact absurd ⟨j,x,by have:=(Lgs.1 hj).1;omega,hj,hp⟩ J.out
theorem aFk (L:List Int)(hn:L.length≤50){v:Value}(W:WL)(h:iZ W v (L.map (.int .i64))):Calls prog 32 #[v,fnV 33] W (IsB (∃ x ∈ L,rE x) W):=by
 have HI:Hid _:=aFj L hn W h;clear h;go_enter func32,ntmps32;go_wp2_with fail;refine Calls.mono HI.out ?_;rintro e W1 ⟨q,rfl,hq,hW⟩;subst hW;have HQ:Hid _:=hq;clear hq HI;go_wp2_with fail;go_ret;exact⟨decide (0≤q),rfl,by simpa using HQ.out,rfl⟩
section
variable {rs:LY}{ds:List Int}{v u:Value}{W:WL}
theorem i7 (hv:iZ W v (rs.map .string))(hu:iZ W u (ds.map (.int .i64)))(hn:50<rs.length∨50<ds.length):Calls prog 18 #[v,u] W (IsB (Scr rs ds) W):=by
 obtain⟨o,c,rfl,-,-,-⟩:=hv;obtain⟨o2,c2,rfl,-,-,-⟩:=hu;rw[List.length_map,List.length_map];have HP:Hid (¬ Scr rs ds):=by rintro ⟨h1,h2,-⟩;omega
 by_cases h:50<rs.length
 ·have g1:50<(rs.length:Int):=by omega
  clear hn;go_enter func18,ntmps18;go_wp2_with fail;go_ret;exact⟨false,rfl,by simp[HP.out],rfl⟩
 have g1:¬ 50<(rs.length:Int):=by omega
 have g2:50<(ds.length:Int):=by omega
 clear hn;go_enter func18,ntmps18;go_wp2_with fail;go_ret;exact⟨false,rfl,by simp[HP.out],rfl⟩
theorem zV (hv:iZ W v (rs.map .string))(hu:iZ W u (ds.map (.int .i64)))(hn:50<rs.length∨50<ds.length):Calls prog 9 #[v,u] W (IsB (Scr rs ds) W):=by
 obtain⟨o,c,rfl,-,-,-⟩:=hv;obtain⟨o2,c2,rfl,-,-,-⟩:=hu;rw[List.length_map,List.length_map];have HP:Hid (¬ Scr rs ds):=by rintro ⟨h1,h2,-⟩;omega
 by_cases h:50<rs.length
 ·have g1:50<(rs.length:Int):=by omega
  clear hn;go_enter func9,ntmps9;go_wp2_with fail;go_ret;exact⟨false,rfl,by simp[HP.out],rfl⟩
 have g1:¬ 50<(rs.length:Int):=by omega
 have g2:50<(ds.length:Int):=by omega
 clear hn;go_enter func9,ntmps9;go_wp2_with fail;go_ret;exact⟨false,rfl,by simp[HP.out],rfl⟩
theorem P9 (hv:iZ W v (rs.map .string))(hu:iZ W u (ds.map (.int .i64))):Calls prog 18 #[v,u] W (IsB (Scr rs ds) W):=by
 by_cases hn:50<rs.length∨50<ds.length
 ·exact i7 hv hu hn
 have n1:rs.length≤50:=by omega
 have n2:ds.length≤50:=by omega
 have H1:Hid _:=aCk rs n1 W hv;have H2:Hid _:=aFk ds n2 W hu;obtain⟨o,c,rfl,-,-,-⟩:=hv;obtain⟨o2,c2,rfl,-,-,-⟩:=hu;rw[List.length_map] at H1 H2 ⊢;rw[List.length_map];have g1:¬ 50<(rs.length:Int):=by omega
 have g2:¬ 50<(ds.length:Int):=by omega
 have HS:Hid (Scr rs ds↔(¬ ∃ s ∈ rs,nW s)∧¬ ∃ n ∈ ds,rE n):=⟨fun h=>⟨h.2.2.1,h.2.2.2⟩,fun h=>⟨n1,n2,h.1,h.2⟩⟩;clear hn n1 n2;generalize (∃ s ∈ rs,nW s)=P1 at *;generalize (∃ n ∈ ds,rE n)=P2 at *;go_enter func18,ntmps18;go_wp2_with fail;refine Calls.mono H1.out ?_;rintro e W1 ⟨b,rfl,hb,hW⟩;subst hW;have HB:Hid _:=hb;clear hb H1;rcases b with _ | _
 ·go_wp2_with fail;refine Calls.mono H2.out ?_;rintro e W2 ⟨b2,rfl,hb2,hW⟩;subst hW;have HB2:Hid _:=hb2;clear hb2 H2;go_wp2_with fail;go_ret;refine⟨!b2,rfl,?_,rfl⟩;rw[HS.out];have h1:=HB.out;have h2:=HB2.out;cases b2 <;> simp_all
 go_wp2_with fail;go_ret;refine⟨false,rfl,?_,rfl⟩;rw[HS.out];have h1:=HB.out;simp_all
end
theorem s9 {α:Type}{P:α→Prop}{L:List α}{k:Nat}{x:α} (hx:L[k]?=some x) (hp:¬ P x) (J:¬ ∃ (j:Nat) (x:α),j<k∧L[j]?=some x∧P x):¬ ∃ (j:Nat) (x:α),j<k+1∧L[j]?=some x∧P x:=by
 rintro ⟨j,y,hj,hy,hq⟩;rcases Nat.lt_or_ge j k with c2 | c2
 ·exact J ⟨j,y,c2,hy,hq⟩
 have:j=k:=by omega
 subst this;rw[hx] at hy;cases hy;exact hp hq
theorem aBc {α:Type}{P:α→Prop}{L:List α}{k:Nat} (hk:L.length≤k) (J:¬ ∃ (j:Nat) (x:α),j<k∧L[j]?=some x∧P x):¬ ∃ x ∈ L,P x:=by
 rintro ⟨x,hx,hp⟩;obtain⟨j,hj⟩:=List.getElem?_of_mem hx;exact J ⟨j,x,by have:=(Lgs.1 hj).1;omega,hj,hp⟩
section
variable {rs:LY}{ds:List Int}{v u:Value}{W:WL}
theorem J9 (hv:iZ W v (rs.map .string))(hu:iZ W u (ds.map (.int .i64))):Calls prog 9 #[v,u] W (IsB (Scr rs ds) W):=by
 by_cases hn:50<rs.length∨50<ds.length
 ·exact zV hv hu hn
 have n1:rs.length≤50:=by omega
 have n2:ds.length≤50:=by omega
 obtain⟨o,c,rfl,hc,hc2,hx⟩:=hv;obtain⟨o2,c2,rfl,hd,hd2,hy⟩:=hu;rw[List.length_map] at hc hx hd hy ⊢;rw[List.length_map];have HX:Hid _:=hx;have HY:Hid _:=hy;have g1:¬ 50<(rs.length:Int):=by omega
 have g2:¬ 50<(ds.length:Int):=by omega
 have J0:Hid (¬ ∃ (j:Nat) (x:BA),j<0∧rs[j]?=some x∧nW x):=by rintro ⟨j,x,h,-⟩;omega
 have I0:Hid (¬ ∃ (j:Nat) (x:Int),j<0∧ds[j]?=some x∧rE x):=by rintro ⟨j,x,h,-⟩;omega
 clear hn hx hy;go_enter func9,ntmps9;go_wp2_with fail
 go_loop [5] (fun q=>∃ k:Nat,k≤rs.length∧q=iA k∧Hid (¬ ∃ (j:Nat) (x:BA),j<k∧rs[j]?=some x∧nW x)) (fun q=>rs.length-(intOf q).toNat)
 case atStart=>exact⟨0,by omega,rfl,J0⟩
 case round=>
  clear J0;obtain⟨k,hk,rfl,J⟩:=hrel;by_cases hlt:k<rs.length
  ·clear I0 HY;have g3:(k:Int)<rs.length:=by omega
   obtain⟨x,hx⟩:∃ x,rs[k]?=some x:=⟨_,Lge hlt⟩;obtain⟨g,off,rfl,-,hcell⟩:=HX.out (by omega);have c1:W.cell? (Ad g (off+k))=some (.string x):=hcell k _ (by rw[List.getElem?_map,hx];rfl);have Hx:Hid _:=hx;have g4:IntKind.i64.wrap ((k:Int)+1)=((k+1:Nat):Int):=by rw[IntKind.wrap_i64];omega
   clear hx hcell HX;by_cases hp:100<x.size
   ·have g5:100<(x.size:Int):=by omega
    go_wp2_with fail;go_ret;exact⟨false,rfl,⟨fun h=>(by cases h),fun h=>absurd ⟨x,List.mem_of_getElem? Hx.out,hp⟩ h.2.2.1⟩,rfl⟩
   have g5:¬ 100<(x.size:Int):=by omega
   go_wp2_with fail;exact⟨⟨k+1,by omega,by go_num,s9 Hx.out hp J.out⟩,by simp[intOf];omega⟩
  have g3:¬ ((k:Int)<rs.length):=by omega
  have HN:Hid _:=aBc (k:=k) (by omega) J.out;clear HX J;go_wp2_with fail
  go_loop [6] (fun q=>∃ k:Nat,k≤ds.length∧q=iA k∧Hid (¬ ∃ (j:Nat) (x:Int),j<k∧ds[j]?=some x∧rE x)) (fun q=>ds.length-(intOf q).toNat)
  case atStart=>exact⟨0,by omega,rfl,I0⟩
  case round=>
   clear I0;obtain⟨k2,hk2,rfl,J⟩:=hrel;by_cases hlt2:k2<ds.length
   ·have g5:(k2:Int)<ds.length:=by omega
    obtain⟨x,hx⟩:∃ x,ds[k2]?=some x:=⟨_,Lge hlt2⟩;obtain⟨g,off,rfl,-,hcell⟩:=HY.out (by omega);have c1:W.cell? (Ad g (off+k2))=some (iA x):=hcell k2 _ (by rw[List.getElem?_map,hx];rfl);have Hx:Hid _:=hx;have g6:IntKind.i64.wrap ((k2:Int)+1)=((k2+1:Nat):Int):=by rw[IntKind.wrap_i64];omega
    clear hx hcell HY;by_cases hp:x < -1000000000
    ·go_wp2_with fail;go_ret;exact⟨false,rfl,⟨fun h=>(by cases h),fun h=>absurd ⟨x,List.mem_of_getElem? Hx.out,.inl hp⟩ h.2.2.2⟩,rfl⟩
    by_cases hq:1000000000<x
    ·go_wp2_with fail;go_ret;exact⟨false,rfl,⟨fun h=>(by cases h),fun h=>absurd ⟨x,List.mem_of_getElem? Hx.out,.inr hq⟩ h.2.2.2⟩,rfl⟩
    have hb:¬ rE x:=by unfold rE;omega
    have HB:Hid _:=hb;clear hb;go_wp2_with fail;exact⟨⟨k2+1,by omega,by go_num,s9 Hx.out HB.out J.out⟩,by simp[intOf];omega⟩
   have g5:¬ ((k2:Int)<ds.length):=by omega
   have HM:Hid _:=aBc (k:=k2) (by omega) J.out;clear HY J;go_wp2_with fail;go_ret;exact⟨true,rfl,⟨fun _=>⟨n1,n2,HN.out,HM.out⟩,fun _=>rfl⟩,rfl⟩
end
end Go.Proofs.YtlokkgajpjafmaaGreatDoor
