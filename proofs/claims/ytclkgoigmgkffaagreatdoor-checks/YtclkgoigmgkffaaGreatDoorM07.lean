/-
  Texts Il Ge Pa Wb Wc Wd.
-/
import Derived.Lib.TrailingZeros
import Derived.RangeFuncNested
import Derived.RangeFuncBound
import Derived.RangeFuncCalls
import Derived.RangeFuncLeaves
import Derived.Shelf.Abstract
import Derived.Shelf.RegionOpen
import Derived.WalkKit
import Derived.OwnWalkIn
import Derived.TacticsInMore
import Derived.LoopNIn
import Derived.LoopIn
import Derived.WalkSpells
import Derived.WalkLawsBesides
import Derived.Shelf.Spec.TrailingZeros
import Derived.Test.YtclkgoigmgkffaaGreatDoorRows
import Derived.Test.YtclkgoigmgkffaaGreatDoorMA
import Derived.Test.YtclkgoigmgkffaaGreatDoorM06
import Derived.Test.YtclkgoigmgkffaaGreatDoorM01
import Derived.Test.YtclkgoigmgkffaaGreatDoorM00
import Derived.Test.YtclkgoigmgkffaaGreatDoorM04
set_option linter.unusedSimpArgs false
set_option linter.unusedVariables false
set_option maxRecDepth 100000
set_option maxHeartbeats 40000000
namespace Go.Proofs.YtclkgoigmgkffaaGreatDoor
open Go.RowKit
open Wire Flow Mach
def sgnI (n:Nat):Int:=if n % 2=0 then ((n / 2:Nat):Int) else -(((n+1) / 2:Nat):Int)
theorem signedR_any (n:Nat)(w:World)(hn:n≤34359738368):Calls Tryz.prog 120 #[.int .i64 n] w fun e w'=>e=.returned (.int .i64 (sgnI n))∧w'=w:=by
 have h2:(n:Int).tmod 2=((n % 2:Nat):Int):=by rw[Int.tmod_eq_emod_of_nonneg (by omega)];omega
 have h3:(n:Int).tdiv 2=((n / 2:Nat):Int):=by rw[Int.tdiv_eq_ediv_of_nonneg (by omega)];omega
 have h4:((n:Int)+1).tdiv 2=(((n+1) / 2:Nat):Int):=by rw[Int.tdiv_eq_ediv_of_nonneg (by omega)];omega
 by_cases h:n % 2=0
 ·have hr:sgnI n=((n / 2:Nat):Int):=by unfold sgnI;rw[if_pos h]
  rw[hr]
  rw[h] at h2
  have hb:n / 2≤34359738368:=by omega
  generalize n / 2=q at *
  clear h h4 hr
  go_enter Tryz.func120,Tryz.ntmps120
  go_wp2
  go_ret
  exact⟨rfl,rfl⟩
 ·have hr:sgnI n = -(((n+1) / 2:Nat):Int):=by unfold sgnI;rw[if_neg h]
  rw[hr]
  rw[show n % 2=1 by omega] at h2
  have hb:(n+1) / 2≤34359738368:=by omega
  generalize (n+1) / 2=q at *
  clear h h3 hr
  go_enter Tryz.func120,Tryz.ntmps120
  go_wp2
  go_ret
  exact⟨rfl,rfl⟩
theorem fit_eq {p:Prop}[Decidable p]{m:Mo}{locs sort n:Nat} (h:p↔low sort≤n∧n<above m locs sort):decide p=fitN m locs sort n:=by
 unfold fitN
 rw[← Bool.decide_and,decide_eq_decide]
 exact h
theorem fitsR_1 (mv:Value)(m:Mo)(w:World)(locs sort n:Nat)(hM:ModIn w mv m)(ho:sort=1)(hn:n<34359738368)(hl:locs≤1000000)(hz1:m.texts.length≤2000000)(hz2:m.pats.length≤2000000)(hz3:m.fns.length≤2000000)(hg:0≤m.globs∧m.globs≤2000000)(ha:0≤m.arrs∧m.arrs≤2000000) :
  Calls Tryz.prog 119 #[mv,.int .i64 locs,.int .i64 sort,.int .i64 n] w fun e w'=>e=.returned (.bool (fitN m locs sort n))∧Fr [] w w':=by
 obtain⟨tv,pv,fv,rfl,h1,h2,h3⟩:=hM.is
 obtain⟨ta,tc,tg,to_,rfl,tl,tha,thx⟩:=h1
 obtain⟨pa,pc,pg,po,rfl,pl,pha,phx⟩:=h2
 obtain⟨fa,fc,fg,fo,rfl,fl,fha,fhx⟩:=h3
 have f0:Hid (∀ o,Fr [] w (w.alloc o)):=fun o=>(Fr.refl [] w).alloc o
 have q1:((sort:Int)==1)=true:=by subst ho;rfl
 have HS:Hid _:=fun W:World=>signedR_any n W (by omega)
 have hR:decide (-1000000000≤sgnI n∧sgnI n≤1000000000)=fitN m locs sort n:=fit_eq (by unfold sgnI;simp only[low,above,ho];simp only[Nat.reduceEqDiff,if_true,if_false];split <;> omega)
 rw[← hR]
 have hb:-34359738368≤sgnI n∧sgnI n≤34359738368:=by unfold sgnI;split <;> omega
 generalize sgnI n=v at *
 clear hR ho hM thx tha phx pha fhx fha
 by_cases c1:-1000000000≤v
 ·by_cases c2:v≤1000000000
  ·rw[decide_eq_true (AI c1 c2)]
   go_enter Tryz.func119,Tryz.ntmps119
   go_wp2_with fail
   refine (HS.out _).mono ?_
   rintro e w1 ⟨rfl,rfl⟩
   go_wp2
   go_ret
   exact⟨rfl,f0.out _⟩
  ·rw[decide_eq_false (fun h=>c2 h.2)]
   have HC:Hid (decide (v≤1000000000)=false):=decide_eq_false c2
   go_enter Tryz.func119,Tryz.ntmps119
   go_wp2_with fail
   refine (HS.out _).mono ?_
   rintro e w1 ⟨rfl,rfl⟩
   go_wp2
   go_ret
   refine⟨?_,f0.out _⟩
   show Ending.returned (.bool (decide (v≤1000000000)))=_
   rw[HC.out]
 ·rw[decide_eq_false (fun h=>c1 h.1)]
  go_enter Tryz.func119,Tryz.ntmps119
  go_wp2_with fail
  refine (HS.out _).mono ?_
  rintro e w1 ⟨rfl,rfl⟩
  go_wp2
  go_ret
  exact⟨rfl,f0.out _⟩
theorem fitsR_2 (mv:Value)(m:Mo)(w:World)(locs sort n:Nat)(hM:ModIn w mv m)(ho:sort=2)(hn:n<34359738368)(hl:locs≤1000000)(hz1:m.texts.length≤2000000)(hz2:m.pats.length≤2000000)(hz3:m.fns.length≤2000000)(hg:0≤m.globs∧m.globs≤2000000)(ha:0≤m.arrs∧m.arrs≤2000000) :
  Calls Tryz.prog 119 #[mv,.int .i64 locs,.int .i64 sort,.int .i64 n] w fun e w'=>e=.returned (.bool (fitN m locs sort n))∧Fr [] w w':=by
 obtain⟨tv,pv,fv,rfl,h1,h2,h3⟩:=hM.is
 obtain⟨ta,tc,tg,to_,rfl,tl,tha,thx⟩:=h1
 obtain⟨pa,pc,pg,po,rfl,pl,pha,phx⟩:=h2
 obtain⟨fa,fc,fg,fo,rfl,fl,fha,fhx⟩:=h3
 have f0:Hid (∀ o,Fr [] w (w.alloc o)):=fun o=>(Fr.refl [] w).alloc o
 have q1:((sort:Int)==1)=false:=by subst ho;rfl
 have q2:((sort:Int)==2)=true:=by subst ho;rfl
 have hR:decide (n<m.texts.length)=fitN m locs sort n:=fit_eq (by simp only[low,above,ho];simp only[Nat.reduceEqDiff,if_true,if_false];omega)
 rw[← hR]
 generalize hD:decide (n<m.texts.length)=D
 clear hR ho hM thx tha phx pha fhx fha
 go_enter Tryz.func119,Tryz.ntmps119
 go_wp2
 go_ret
 exact⟨rfl,f0.out _⟩
theorem fitsR_3 (mv:Value)(m:Mo)(w:World)(locs sort n:Nat)(hM:ModIn w mv m)(ho:sort=3)(hn:n<34359738368)(hl:locs≤1000000)(hz1:m.texts.length≤2000000)(hz2:m.pats.length≤2000000)(hz3:m.fns.length≤2000000)(hg:0≤m.globs∧m.globs≤2000000)(ha:0≤m.arrs∧m.arrs≤2000000) :
  Calls Tryz.prog 119 #[mv,.int .i64 locs,.int .i64 sort,.int .i64 n] w fun e w'=>e=.returned (.bool (fitN m locs sort n))∧Fr [] w w':=by
 obtain⟨tv,pv,fv,rfl,h1,h2,h3⟩:=hM.is
 obtain⟨ta,tc,tg,to_,rfl,tl,tha,thx⟩:=h1
 obtain⟨pa,pc,pg,po,rfl,pl,pha,phx⟩:=h2
 obtain⟨fa,fc,fg,fo,rfl,fl,fha,fhx⟩:=h3
 have f0:Hid (∀ o,Fr [] w (w.alloc o)):=fun o=>(Fr.refl [] w).alloc o
 have q1:((sort:Int)==1)=false:=by subst ho;rfl
 have q2:((sort:Int)==2)=false:=by subst ho;rfl
 have q3:((sort:Int)==3)=true:=by subst ho;rfl
 have hR:decide (n<locs)=fitN m locs sort n:=fit_eq (by simp only[low,above,ho];simp only[Nat.reduceEqDiff,if_true,if_false];omega)
 rw[← hR]
 generalize hD:decide (n<locs)=D
 clear hR ho hM thx tha phx pha fhx fha
 go_enter Tryz.func119,Tryz.ntmps119
 go_wp2
 go_ret
 exact⟨rfl,f0.out _⟩
theorem fitsR_4 (mv:Value)(m:Mo)(w:World)(locs sort n:Nat)(hM:ModIn w mv m)(ho:sort=4)(hn:n<34359738368)(hl:locs≤1000000)(hz1:m.texts.length≤2000000)(hz2:m.pats.length≤2000000)(hz3:m.fns.length≤2000000)(hg:0≤m.globs∧m.globs≤2000000)(ha:0≤m.arrs∧m.arrs≤2000000) :
  Calls Tryz.prog 119 #[mv,.int .i64 locs,.int .i64 sort,.int .i64 n] w fun e w'=>e=.returned (.bool (fitN m locs sort n))∧Fr [] w w':=by
 obtain⟨tv,pv,fv,rfl,h1,h2,h3⟩:=hM.is
 obtain⟨ta,tc,tg,to_,rfl,tl,tha,thx⟩:=h1
 obtain⟨pa,pc,pg,po,rfl,pl,pha,phx⟩:=h2
 obtain⟨fa,fc,fg,fo,rfl,fl,fha,fhx⟩:=h3
 have f0:Hid (∀ o,Fr [] w (w.alloc o)):=fun o=>(Fr.refl [] w).alloc o
 have q1:((sort:Int)==1)=false:=by subst ho;rfl
 have q2:((sort:Int)==2)=false:=by subst ho;rfl
 have q3:((sort:Int)==3)=false:=by subst ho;rfl
 have q4:((sort:Int)==4)=true:=by subst ho;rfl
 have hR:decide ((n:Int)<m.globs)=fitN m locs sort n:=fit_eq (by simp only[low,above,ho];simp only[Nat.reduceEqDiff,if_true,if_false];omega)
 rw[← hR]
 generalize hD:decide ((n:Int)<m.globs)=D
 clear hR ho hM thx tha phx pha fhx fha
 go_enter Tryz.func119,Tryz.ntmps119
 go_wp2
 go_ret
 exact⟨rfl,f0.out _⟩
theorem fitsR_5 (mv:Value)(m:Mo)(w:World)(locs sort n:Nat)(hM:ModIn w mv m)(ho:sort=5)(hn:n<34359738368)(hl:locs≤1000000)(hz1:m.texts.length≤2000000)(hz2:m.pats.length≤2000000)(hz3:m.fns.length≤2000000)(hg:0≤m.globs∧m.globs≤2000000)(ha:0≤m.arrs∧m.arrs≤2000000) :
  Calls Tryz.prog 119 #[mv,.int .i64 locs,.int .i64 sort,.int .i64 n] w fun e w'=>e=.returned (.bool (fitN m locs sort n))∧Fr [] w w':=by
 obtain⟨tv,pv,fv,rfl,h1,h2,h3⟩:=hM.is
 obtain⟨ta,tc,tg,to_,rfl,tl,tha,thx⟩:=h1
 obtain⟨pa,pc,pg,po,rfl,pl,pha,phx⟩:=h2
 obtain⟨fa,fc,fg,fo,rfl,fl,fha,fhx⟩:=h3
 have f0:Hid (∀ o,Fr [] w (w.alloc o)):=fun o=>(Fr.refl [] w).alloc o
 have q1:((sort:Int)==1)=false:=by subst ho;rfl
 have q2:((sort:Int)==2)=false:=by subst ho;rfl
 have q3:((sort:Int)==3)=false:=by subst ho;rfl
 have q4:((sort:Int)==4)=false:=by subst ho;rfl
 have q5:((sort:Int)==5)=true:=by subst ho;rfl
 have hR:decide ((n:Int)<m.arrs)=fitN m locs sort n:=fit_eq (by simp only[low,above,ho];simp only[Nat.reduceEqDiff,if_true,if_false];omega)
 rw[← hR]
 generalize hD:decide ((n:Int)<m.arrs)=D
 clear hR ho hM thx tha phx pha fhx fha
 go_enter Tryz.func119,Tryz.ntmps119
 go_wp2
 go_ret
 exact⟨rfl,f0.out _⟩
theorem fitsR_6 (mv:Value)(m:Mo)(w:World)(locs sort n:Nat)(hM:ModIn w mv m)(ho:sort=6)(hn:n<34359738368)(hl:locs≤1000000)(hz1:m.texts.length≤2000000)(hz2:m.pats.length≤2000000)(hz3:m.fns.length≤2000000)(hg:0≤m.globs∧m.globs≤2000000)(ha:0≤m.arrs∧m.arrs≤2000000) :
  Calls Tryz.prog 119 #[mv,.int .i64 locs,.int .i64 sort,.int .i64 n] w fun e w'=>e=.returned (.bool (fitN m locs sort n))∧Fr [] w w':=by
 obtain⟨tv,pv,fv,rfl,h1,h2,h3⟩:=hM.is
 obtain⟨ta,tc,tg,to_,rfl,tl,tha,thx⟩:=h1
 obtain⟨pa,pc,pg,po,rfl,pl,pha,phx⟩:=h2
 obtain⟨fa,fc,fg,fo,rfl,fl,fha,fhx⟩:=h3
 have f0:Hid (∀ o,Fr [] w (w.alloc o)):=fun o=>(Fr.refl [] w).alloc o
 have q1:((sort:Int)==1)=false:=by subst ho;rfl
 have q2:((sort:Int)==2)=false:=by subst ho;rfl
 have q3:((sort:Int)==3)=false:=by subst ho;rfl
 have q4:((sort:Int)==4)=false:=by subst ho;rfl
 have q5:((sort:Int)==5)=false:=by subst ho;rfl
 have q6:((sort:Int)==6)=true:=by subst ho;rfl
 have hR:decide (n<m.pats.length)=fitN m locs sort n:=fit_eq (by simp only[low,above,ho];simp only[Nat.reduceEqDiff,if_true,if_false];omega)
 rw[← hR]
 generalize hD:decide (n<m.pats.length)=D
 clear hR ho hM thx tha phx pha fhx fha
 go_enter Tryz.func119,Tryz.ntmps119
 go_wp2
 go_ret
 exact⟨rfl,f0.out _⟩
theorem fitsR_7 (mv:Value)(m:Mo)(w:World)(locs sort n:Nat)(hM:ModIn w mv m)(ho:sort=7)(hn:n<34359738368)(hl:locs≤1000000)(hz1:m.texts.length≤2000000)(hz2:m.pats.length≤2000000)(hz3:m.fns.length≤2000000)(hg:0≤m.globs∧m.globs≤2000000)(ha:0≤m.arrs∧m.arrs≤2000000) :
  Calls Tryz.prog 119 #[mv,.int .i64 locs,.int .i64 sort,.int .i64 n] w fun e w'=>e=.returned (.bool (fitN m locs sort n))∧Fr [] w w':=by
 obtain⟨tv,pv,fv,rfl,h1,h2,h3⟩:=hM.is
 obtain⟨ta,tc,tg,to_,rfl,tl,tha,thx⟩:=h1
 obtain⟨pa,pc,pg,po,rfl,pl,pha,phx⟩:=h2
 obtain⟨fa,fc,fg,fo,rfl,fl,fha,fhx⟩:=h3
 have f0:Hid (∀ o,Fr [] w (w.alloc o)):=fun o=>(Fr.refl [] w).alloc o
 have q1:((sort:Int)==1)=false:=by subst ho;rfl
 have q2:((sort:Int)==2)=false:=by subst ho;rfl
 have q3:((sort:Int)==3)=false:=by subst ho;rfl
 have q4:((sort:Int)==4)=false:=by subst ho;rfl
 have q5:((sort:Int)==5)=false:=by subst ho;rfl
 have q6:((sort:Int)==6)=false:=by subst ho;rfl
 have q8:((sort:Int)==8)=false:=by subst ho;rfl
 have q9:((sort:Int)==9)=false:=by subst ho;rfl
 have hR:fitN m locs sort n=true:=by
  rw[← fit_eq (p:=True) ⟨fun _=>(by simp only[low,above,ho];simp only[Nat.reduceEqDiff,if_true,if_false];omega),fun _=>trivial⟩];rfl
 rw[hR]
 clear hR ho hM thx tha phx pha fhx fha
 go_enter Tryz.func119,Tryz.ntmps119
 go_wp2
 go_ret
 exact⟨rfl,f0.out _⟩
theorem fitsR_8 (mv:Value)(m:Mo)(w:World)(locs sort n:Nat)(hM:ModIn w mv m)(ho:sort=8)(hn:n<34359738368)(hl:locs≤1000000)(hz1:m.texts.length≤2000000)(hz2:m.pats.length≤2000000)(hz3:m.fns.length≤2000000)(hg:0≤m.globs∧m.globs≤2000000)(ha:0≤m.arrs∧m.arrs≤2000000) :
  Calls Tryz.prog 119 #[mv,.int .i64 locs,.int .i64 sort,.int .i64 n] w fun e w'=>e=.returned (.bool (fitN m locs sort n))∧Fr [] w w':=by
 obtain⟨tv,pv,fv,rfl,h1,h2,h3⟩:=hM.is
 obtain⟨ta,tc,tg,to_,rfl,tl,tha,thx⟩:=h1
 obtain⟨pa,pc,pg,po,rfl,pl,pha,phx⟩:=h2
 obtain⟨fa,fc,fg,fo,rfl,fl,fha,fhx⟩:=h3
 have f0:Hid (∀ o,Fr [] w (w.alloc o)):=fun o=>(Fr.refl [] w).alloc o
 have q1:((sort:Int)==1)=false:=by subst ho;rfl
 have q2:((sort:Int)==2)=false:=by subst ho;rfl
 have q3:((sort:Int)==3)=false:=by subst ho;rfl
 have q4:((sort:Int)==4)=false:=by subst ho;rfl
 have q5:((sort:Int)==5)=false:=by subst ho;rfl
 have q6:((sort:Int)==6)=false:=by subst ho;rfl
 have q8:((sort:Int)==8)=true:=by subst ho;rfl
 have hR:decide ((1:Int)≤(n:Int)∧(n:Int)≤1000)=fitN m locs sort n:=fit_eq (by simp only[low,above,ho];simp only[Nat.reduceEqDiff,if_true,if_false];omega)
 rw[← hR]
 clear hR ho hM thx tha phx pha fhx fha
 by_cases c1:(1:Int)≤(n:Int)
 ·by_cases c2:(n:Int)≤1000
  ·rw[decide_eq_true (AI c1 c2)]
   go_enter Tryz.func119,Tryz.ntmps119
   go_wp2
   go_ret
   exact⟨rfl,f0.out _⟩
  ·rw[decide_eq_false (fun h=>c2 h.2)]
   go_enter Tryz.func119,Tryz.ntmps119
   go_wp2
   go_ret
   exact⟨rfl,f0.out _⟩
 ·rw[decide_eq_false (fun h=>c1 h.1)]
  go_enter Tryz.func119,Tryz.ntmps119
  go_wp2
  go_ret
  exact⟨rfl,f0.out _⟩
theorem fitsR_9 (mv:Value)(m:Mo)(w:World)(locs sort n:Nat)(hM:ModIn w mv m)(ho:sort=9)(hn:n<34359738368)(hl:locs≤1000000)(hz1:m.texts.length≤2000000)(hz2:m.pats.length≤2000000)(hz3:m.fns.length≤2000000)(hg:0≤m.globs∧m.globs≤2000000)(ha:0≤m.arrs∧m.arrs≤2000000) :
  Calls Tryz.prog 119 #[mv,.int .i64 locs,.int .i64 sort,.int .i64 n] w fun e w'=>e=.returned (.bool (fitN m locs sort n))∧Fr [] w w':=by
 obtain⟨tv,pv,fv,rfl,h1,h2,h3⟩:=hM.is
 obtain⟨ta,tc,tg,to_,rfl,tl,tha,thx⟩:=h1
 obtain⟨pa,pc,pg,po,rfl,pl,pha,phx⟩:=h2
 obtain⟨fa,fc,fg,fo,rfl,fl,fha,fhx⟩:=h3
 have f0:Hid (∀ o,Fr [] w (w.alloc o)):=fun o=>(Fr.refl [] w).alloc o
 have q1:((sort:Int)==1)=false:=by subst ho;rfl
 have q2:((sort:Int)==2)=false:=by subst ho;rfl
 have q3:((sort:Int)==3)=false:=by subst ho;rfl
 have q4:((sort:Int)==4)=false:=by subst ho;rfl
 have q5:((sort:Int)==5)=false:=by subst ho;rfl
 have q6:((sort:Int)==6)=false:=by subst ho;rfl
 have q8:((sort:Int)==8)=false:=by subst ho;rfl
 have q9:((sort:Int)==9)=true:=by subst ho;rfl
 have hR:decide ((3:Int)≤(n:Int)∧(n:Int)<(m.fns.length:Int))=fitN m locs sort n:=fit_eq (by simp only[low,above,ho];simp only[Nat.reduceEqDiff,if_true,if_false];omega)
 rw[← hR]
 clear hR ho hM thx tha phx pha fhx fha
 by_cases c1:(3:Int)≤(n:Int)
 ·by_cases c2:(n:Int)<(m.fns.length:Int)
  ·rw[decide_eq_true (AI c1 c2)]
   go_enter Tryz.func119,Tryz.ntmps119
   go_wp2
   go_ret
   exact⟨rfl,f0.out _⟩
  ·rw[decide_eq_false (fun h=>c2 h.2)]
   go_enter Tryz.func119,Tryz.ntmps119
   go_wp2
   go_ret
   exact⟨rfl,f0.out _⟩
 ·rw[decide_eq_false (fun h=>c1 h.1)]
  go_enter Tryz.func119,Tryz.ntmps119
  go_wp2
  go_ret
  exact⟨rfl,f0.out _⟩
theorem fitsR_any (mv:Value)(m:Mo)(w:World)(locs sort n:Nat)(hM:ModIn w mv m)(ho:1≤sort∧sort≤9)(hn:n<34359738368)(hl:locs≤1000000)(hz1:m.texts.length≤2000000)(hz2:m.pats.length≤2000000)(hz3:m.fns.length≤2000000)(hg:0≤m.globs∧m.globs≤2000000)(ha:0≤m.arrs∧m.arrs≤2000000) :
  Calls Tryz.prog 119 #[mv,.int .i64 locs,.int .i64 sort,.int .i64 n] w fun e w'=>e=.returned (.bool (fitN m locs sort n))∧Fr [] w w':=by
 by_cases e1:sort=1
 ·exact fitsR_1 mv m w locs sort n hM e1 hn hl hz1 hz2 hz3 hg ha
 ·by_cases e2:sort=2
  ·exact fitsR_2 mv m w locs sort n hM e2 hn hl hz1 hz2 hz3 hg ha
  ·by_cases e3:sort=3
   ·exact fitsR_3 mv m w locs sort n hM e3 hn hl hz1 hz2 hz3 hg ha
   ·by_cases e4:sort=4
    ·exact fitsR_4 mv m w locs sort n hM e4 hn hl hz1 hz2 hz3 hg ha
    ·by_cases e5:sort=5
     ·exact fitsR_5 mv m w locs sort n hM e5 hn hl hz1 hz2 hz3 hg ha
     ·by_cases e6:sort=6
      ·exact fitsR_6 mv m w locs sort n hM e6 hn hl hz1 hz2 hz3 hg ha
      ·by_cases e7:sort=7
       ·exact fitsR_7 mv m w locs sort n hM e7 hn hl hz1 hz2 hz3 hg ha
       ·by_cases e8:sort=8
        ·exact fitsR_8 mv m w locs sort n hM e8 hn hl hz1 hz2 hz3 hg ha
        ·exact fitsR_9 mv m w locs sort n hM (by omega) hn hl hz1 hz2 hz3 hg ha
open Wire
def numXi (b:ByteArray) (i e:Nat):Int:=match num (seg (bl b) i e) with
 | none=>-1
 | some p=>(p.1:Int)
def numYi (b:ByteArray) (i e:Nat):Nat:=match num (seg (bl b) i e) with
 | none=>i
 | some p=>e-p.2.length
theorem seg_get {b:ByteArray}{i e k j:Nat} (he:e≤b.size) (hj:i+k=j) (hk:j<e):(seg (bl b) i e).getD k 0=b[j]'(by omega):=by
 subst hj
 have hL:=bl_length b
 have h1:k<(seg (bl b) i e).length:=by rw[seg_length (by omega)];omega
 rw[List.getD_eq_getElem?_getD,Lge h1]
 simp only[seg,Option.getD_some,List.getElem_drop,List.getElem_take,bl,Array.getElem_toList]
 rfl
theorem NumberR_any (b:ByteArray)(i e:Nat)(h1:i≤e)(h2:e≤b.size)(hs:b.size≤1000000000)(w:World) :
  Calls Tryz.prog 115 #[.string b,.int .i64 i,.int .i64 e] w fun r w'=>r=.returned (.tuple #[.int .i64 (numXi b i e),.int .i64 (numYi b i e)])∧w'=w:=by
 obtain⟨X,hX⟩:∃ X,numXi b i e=X:=⟨_,rfl⟩
 obtain⟨Y,hY⟩:∃ Y,numYi b i e=Y:=⟨_,rfl⟩
 rw[hX,hY]
 have hget:=fun (k j:Nat)=>seg_get (b:=b) (i:=i) (e:=e) (k:=k) (j:=j) h2
 have hCl:(seg (bl b) i e).length=e-i:=by rw[seg_length (by rw[bl_length];omega)]
 unfold numXi at hX
 unfold numYi at hY
 generalize seg (bl b) i e=C at *
 have HX:Hid _:=hX
 have HY:Hid _:=hY
 have HG:Hid _:=hget
 clear hX hY hget
 go_enter Tryz.func115,Tryz.ntmps115
 go_wp2
 go_loop [8,9,10] (fun n u k=>∃ kk uu aa:Nat,kk≤5∧kk≤e-i∧Hid (128 ^ kk=uu)∧Hid (accN C kk=aa)∧n=.int .i64 aa∧u=.int .i64 uu∧k=.int .i64 kk∧Hid (∀ m,m<kk→128≤(C.getD m 0).toNat)) (fun _ _ k=>5-(intOf k).toNat)
 case atStart=>exact⟨0,1,0,by omega,by omega,rfl,rfl,rfl,rfl,rfl,fun m hm=>absurd hm (by omega)⟩
 case round=>
  obtain⟨k,u,a,hk5,hk,Hu,Ha,rfl,rfl,rfl,Hall⟩:=hrel
  by_cases h5:k<5
  ·have g0:(k:Int)<5:=by omega
   obtain⟨j,hj⟩:∃ j:Nat,i+k=j:=⟨_,rfl⟩
   have hjI:(i:Int)+(k:Int)=(j:Int):=by omega
   have hu5:u≤268435456:=by
    rw[← Hu.out]
    have:(128:Nat) ^ k≤128 ^ 4:=Nat.pow_le_pow_right (by omega) (by omega)
    omega
   have ha5:a≤34359738368:=by rw[← Ha.out];exact Nat.le_of_lt (accN_small C k (by omega))
   by_cases hend:j<e
   ·have g1:¬ ((j:Int) ≥ e):=by omega
    have g2:(j:Int)<b.size:=by omega
    have hjs:j<b.size:=by omega
    have hg:=HG.out k j hj hend
    have hx:=b[j].toNat_lt
    have hacc:accN C (k+1)=a+b[j].toNat % 128*u:=by simp only[accN];rw[Ha.out,hg,Hu.out]
    have hpow:128 ^ (k+1)=u*128:=by rw[Nat.pow_succ,Hu.out]
    have hst:=fun h0=>num_stop (c:=C) (i:=k) h5 (by omega) Hall.out h0
    rw[hg] at hst
    obtain⟨x,hx'⟩:∃ x,b[j].toNat=x:=⟨_,rfl⟩
    rw[hx'] at hacc hst hx
    have Hst:Hid _:=hst
    have Hacc:Hid _:=hacc
    have Hpow:Hid _:=hpow
    have Hg:Hid (C.getD k 0=b[j]):=hg
    have Hj:Hid (i+k=j):=hj
    clear hst hacc hpow hg hj Hu Ha HG
    by_cases hx1:x<128
    ·have g3:(x:Int)<128:=by omega
     have hst:=Hst.out hx1
     have hm:x % 128=x:=by omega
     rw[hm] at Hacc
     by_cases hz:0<k∧x=0
     ·rw[if_pos hz] at hst
      obtain rfl:X = -1:=by rw[← HX.out,hst]
      obtain rfl:Y=i:=by rw[← HY.out,hst]
      have g4:(k:Int)>0:=by omega
      obtain rfl:x=0:=hz.2
      clear HX HY hst Hst
      go_wp2
      go_ret2
      exact⟨rfl,rfl⟩
     ·rw[if_neg hz] at hst
      have hl:(C.drop (k+1)).length=e-i-(k+1):=by rw[List.length_drop,hCl]
      have hXe:X=((a+x*u:Nat):Int):=by rw[← HX.out,hst];simp only;rw[Hacc.out]
      have hYe:Y=j+1:=by
       rw[← HY.out,hst]
       simp only[hl]
       have:=Hj.out
       omega
      have hmul:x*u≤128*268435456:=Nat.mul_le_mul (by omega) hu5
      have hmulI:(x:Int)*(u:Int)=((x*u:Nat):Int):=by push_cast;rfl
      obtain⟨xu,hxu⟩:∃ xu:Nat,x*u=xu:=⟨_,rfl⟩
      rw[hxu] at hXe hmul hmulI
      subst hXe hYe
      have g5:((x:Int)==0)=true→¬ ((k:Int)>0):=by intro q;simp at q;omega
      clear HX HY hst Hst hxu hl
      by_cases hx0:x=0
      ·subst hx0
       have g6:¬ ((k:Int)>0):=by omega
       have hxz:xu=0:=by omega
       subst hxz
       clear g5
       go_wp2
       go_ret2
       exact⟨by go_num,rfl⟩
      ·have g6:((x:Int)==0)=false:=by simp;omega
       clear g5
       go_wp2
       go_ret2
       exact⟨by go_num,rfl⟩
    ·have g3:¬ ((x:Int)<128):=by omega
     have hmul:(x-128)*u≤128*268435456:=Nat.mul_le_mul (by omega) hu5
     obtain⟨y,hy⟩:∃ y:Nat,x-128=y:=⟨_,rfl⟩
     have hyI:(x:Int)-128=(y:Int):=by omega
     rw[hy] at hmul
     have hmulI:(y:Int)*(u:Int)=((y*u:Nat):Int):=by push_cast;rfl
     obtain⟨yu,hyu⟩:∃ yu:Nat,y*u=yu:=⟨_,rfl⟩
     rw[hyu] at hmul hmulI
     have hm:x % 128=y:=by omega
     rw[hm,hyu] at Hacc
     clear hy hyu hm Hst
     go_wp2
     refine⟨⟨k+1,u*128,a+yu,by omega,by have:=Hj.out;omega,Hpow.out,Hacc.out,by go_num,by go_num,by go_num,fun m hm=>?_⟩,by simp[intOf];omega⟩
     by_cases em:m=k
     ·subst em
      rw[Hg.out,hx']
      omega
     ·exact Hall.out m (by omega)
   ·have g1:(j:Int) ≥ e:=by omega
    have hno:num C=none:=num_end (by omega) (by omega) Hall.out (.inr (by omega))
    obtain rfl:X = -1:=by rw[← HX.out,hno]
    obtain rfl:Y=i:=by rw[← HY.out,hno]
    clear HX HY hno HG Hu Ha hj
    go_wp2
    go_ret2
    exact⟨rfl,rfl⟩
  ·have g0:¬ ((k:Int)<5):=by omega
   obtain rfl:k=5:=by omega
   have hno:num C=none:=num_end (by omega) (by omega) Hall.out (.inl rfl)
   obtain rfl:X = -1:=by rw[← HX.out,hno]
   obtain rfl:Y=i:=by rw[← HY.out,hno]
   clear HX HY hno HG Hu Ha
   go_wp2
   go_ret2
   exact⟨rfl,rfl⟩
def bitsOf (x:Nat):List Nat:=(List.range 64).filter (fun i=>x.testBit i)
theorem mem_bitsOf {x i:Nat}:i ∈ bitsOf x↔i<64∧x.testBit i=true:=by simp[bitsOf]
theorem bitsOf_zero:bitsOf 0=[]:=by simp[bitsOf]
theorem testBit_low (k m j:Nat):(2 ^ (k+1)*m+2 ^ k).testBit j=if j<k+1 then decide (k=j) else m.testBit (j-(k+1)):=by
 rw[Nat.testBit_two_pow_mul_add _ (by rw[Nat.pow_succ];have:=Nat.two_pow_pos k;omega)]
 split
 ·rw[Nat.testBit_two_pow]
 ·rfl
theorem testBit_high (k m j:Nat):(2 ^ (k+1)*m).testBit j=if j<k+1 then false else m.testBit (j-(k+1)):=by
 have:=Nat.testBit_two_pow_mul_add m (b:=0) (i:=k+1) (Nat.two_pow_pos _) j
 simpa using this
theorem and_pred (k m:Nat):(2 ^ (k+1)*m+2 ^ k) &&& (2 ^ (k+1)*m+2 ^ k-1)=2 ^ (k+1)*m:=by
 have hp:=Nat.two_pow_pos k
 have e:2 ^ (k+1)*m+2 ^ k-1=2 ^ (k+1)*m+(2 ^ k-1):=by omega
 rw[e]
 apply Nat.eq_of_testBit_eq
 intro j
 rw[Nat.testBit_and,testBit_low,testBit_high,Nat.testBit_two_pow_mul_add _ (by rw[Nat.pow_succ];omega)]
 split
 ·rw[Nat.testBit_two_pow_sub_one]
  by_cases h:k=j
  ·subst h;simp
  ·simp[h]
 ·simp
theorem ctz_form (r:Nat)(h0:r≠0)(h:r<18446744073709551616):∃ m,r=2 ^ (Lib.ctz 64 r+1)*m+2 ^ Lib.ctz 64 r∧Lib.ctz 64 r<64:=by
 obtain⟨m,hm,hk⟩:=Lib.ctzFrom_spec 64 r (by omega) (by simpa using h)
 refine⟨m,?_,?_⟩
 ·simp only[Lib.ctz,if_neg h0]
  rw[Nat.pow_succ]
  rw[Nat.mul_assoc,← Nat.mul_add_one]
  exact hm
 ·simp only[Lib.ctz,if_neg h0];exact hk
theorem filter_split (k:Nat)(hk:k<64)(p:Nat→Bool):(List.range 64).filter p=(List.range k).filter p++([k].filter p++(List.range' (k+1) (63-k)).filter p):=by
 rw[← List.filter_append,← List.filter_append]
 congr 1
 rw[List.range_eq_range',List.range_eq_range',show [k]=List.range' k 1 from rfl]
 rw[show k+1=k+1*1 from by omega,List.range'_append,show List.range' k (1+(63-k))=List.range' (0+1*k) (1+(63-k)) from by simp,List.range'_append]
 congr 1;omega
theorem bitsOf_step (r:Nat)(h0:r≠0)(h:r<18446744073709551616):bitsOf r=Lib.ctz 64 r :: bitsOf (r &&& (r-1)):=by
 obtain⟨m,hm,hk⟩:=ctz_form r h0 h
 generalize Lib.ctz 64 r=k at *
 have e2:r &&& (r-1)=2 ^ (k+1)*m:=by rw[hm];exact and_pred k m
 rw[e2]
 unfold bitsOf
 rw[filter_split k hk,filter_split k hk (fun i=>(2 ^ (k+1)*m).testBit i)]
 have a1:(List.range k).filter (fun i=>r.testBit i)=[]:=by
  rw[List.filter_eq_nil_iff];intro j hj;rw[hm,testBit_low];simp at hj;simp[show j<k+1 from by omega];omega
 have a2:(List.range k).filter (fun i=>(2 ^ (k+1)*m).testBit i)=[]:=by
  rw[List.filter_eq_nil_iff];intro j hj;rw[testBit_high];simp at hj;simp[show j<k+1 from by omega]
 have b1:[k].filter (fun i=>r.testBit i)=[k]:=by
  have:r.testBit k=true:=by rw[hm,testBit_low];simp
  simp[this]
 have b2:[k].filter (fun i=>(2 ^ (k+1)*m).testBit i)=[]:=by
  have:(2 ^ (k+1)*m).testBit k=false:=by rw[testBit_high];simp
  simp[this]
 have c:(List.range' (k+1) (63-k)).filter (fun i=>r.testBit i)=(List.range' (k+1) (63-k)).filter (fun i=>(2 ^ (k+1)*m).testBit i):=by
  apply List.filter_congr
  intro j hj
  rw[List.mem_range'_1] at hj
  rw[hm,testBit_low,testBit_high,if_neg (by omega),if_neg (by omega)]
 rw[a1,a2,b1,b2,c]
 simp
theorem and_pred_lt (r:Nat)(h:r<18446744073709551616):r &&& (r-1)<18446744073709551616:=Nat.lt_of_le_of_lt Nat.and_le_left h
open Go.RowKit Go.Shelf
attribute [local go_sem] Oper.semAt_some
theorem tz_core (x k idx:Nat)(w:World)(hx0:((x:Int)==0)=false)
  (key:IntKind.u64.wrap (bits BinOp.and IntKind.u64 (x:Int) (IntKind.u64.wrap (-(x:Int)))*285870213051353865) / 288230376151711744=(idx:Int))
  (hi:idx<64) (hk:k<64) (hcell:w.cell? ⟨6,idx,none⟩=some (.int .u8 k)) :
  Calls Tryz.prog 291 #[.int .u64 x] w fun e w'=>e=.returned (.int .i64 k)∧w'=w:=by
 go_enter Tryz.func291,Tryz.ntmps291
 go_wp2_with (simp only[key])
 go_ret
 exact⟨rfl,rfl⟩
theorem tz_any (x:Nat)(hx0:x≠0)(hx:x<18446744073709551616)(w:World)(hT:Tab w) :
  Calls Tryz.prog 291 #[.int .u64 x] w fun e w'=>e=.returned (.int .i64 (Lib.ctz 64 x))∧w'=w:=by
 obtain⟨hlow,hk⟩:=Lib.lowest_bit 64 x hx0 hx
 obtain⟨hi,htab⟩:=Lib.deBruijn64_at _ hk
 have hcell:=hT _ hi
 rw[htab] at hcell
 exact tz_core x _ _ w (by simp;omega) (tz64_key x _ hx hx0 hlow) hi hk hcell
theorem all_in (n l s:Nat)(hs:s<18446744073709551616)(J:List Nat→World→Prop)(hT:∀ pre W,J pre W→Tab W)
  (hY:∀ pre x rest W,J pre W→bitsOf s=pre++x :: rest→YieldAt Fence.wide (n-1) Tryz.prog l #[.int .i64 (x:Nat)] W fun e W'=>e=.returned (.bool true)∧J (pre++[x]) W')
  (W:World) (h0:J [] W) :
  CallsIn Fence.wide n Tryz.prog 259 #[.int .u64 s,.func (.yield l) #[] #[]] W fun e W'=>(∃ v,e=.returned v)∧J (bitsOf s) W':=by
 refine callsIn_of_wp Tryz.func259 rfl trivial ?_ rfl
 simp only[Tryz.ntmps259,List.size_toArray,List.length_cons,List.length_nil,Nat.reduceAdd,Nat.reduceSub,Array.replicate_succ,Array.replicate_zero,List.push_toArray,List.append_toArray,List.nil_append,List.cons_append]
 gi_wp2
 gi_loopw [4] (fun p wr=>∃ (pre:List Nat) (r:Nat),p=.int .u64 r∧r<18446744073709551616∧bitsOf s=pre++bitsOf r∧J pre wr)
  (fun p _=>(bitsOf (intOf p).toNat).length)
 case atStart=>
  exact⟨[],s,rfl,hs,rfl,h0⟩
 case round=>
  obtain⟨pre,r,rfl,hr,hx,hJ⟩:=hrel
  by_cases hz:r=0
  ·subst hz
   rw[bitsOf_zero,List.append_nil] at hx
   gi_wp2
   go_end0
   exact⟨⟨_,rfl⟩,by rw[hx];exact hJ⟩
  ·have hst:=bitsOf_step r hz hr
   rw[hst] at hx
   obtain⟨fn,tmps,assign,body,hy,hR⟩:=hY pre _ _ wr hJ hx
   have hne:((r:Int)==0)=false:=by simp;omega
   have hne2:((r:Int)!=0)=true:=by simp;omega
   have hTw:=hT _ _ hJ
   gi_wp2_with fail
   refine⟨trivial,fun h=>(by cases h),?_⟩
   refine (callsIn_wide.2 (tz_any r hz hr _ hTw)).mono ?_
   rintro e w' ⟨rfl,rfl⟩
   gi_wp2_with fail
   refine⟨fun h=>(by cases h),?_⟩
   refine hR.mono ?_
   rintro e W3 ⟨rfl,hJ3⟩
   gi_wp2
   have eand:bits BinOp.and IntKind.u64 (r:Int) ((r:Int)-1)=((r &&& (r-1):Nat):Int):=by
    rw[show (r:Int)-1=((r-1:Nat):Int) by omega]
    exact bits_and_u64_nat r (r-1) hr (by omega)
   go_roundw
   case rel=>exact⟨pre++[Lib.ctz 64 r],_,by rw[eand],and_pred_lt r hr,by rw[hx];simp,hJ3⟩
   case measure=>rw[eand];simp only[intOf,Int.toNat_natCast];rw[hst];simp
theorem wp_range_set {g:Operand}{p:Tmp}{assign body:Code}{Q:Exit→Act→World→Prop}{a:Act}{w:World}{n:Nat} (s:Nat) (hs:s<18446744073709551616)
  (hg:a.eval g=.func (.func 259) #[.int .u64 s] #[])
  (I:List Nat→World→Prop) (hI:OwnFrom w.heap.size I) (hT:∀ pre W,I pre W→Tab W) (h0:I [] w) (a₁:Nat→Act)
  (hassign:∀ (l x:Nat) (W:World) (K:Act→World→Prop),K (a₁ x) W →
   assign.wpIn (Fence.wide.inRound l) (n-1-1) Tryz.prog (Exit.then K (fun _ _ _=>False)) { tmps:=(#[p].zip #[Value.int .i64 x]).foldl (fun t (p,v)=>t.setIfInBounds p v) a.tmps,defers:=[] } W)
  (hbody:∀ (l:Nat) (pre:List Nat) (x:Nat) (rest:List Nat) (W:World),I pre W→bitsOf s=pre++x :: rest →
   body.wpIn (Fence.wide.inRound l) (n-1-1) Tryz.prog (ownPostG w.heap.size (fun _ _=>True) I (fun _ _ _=>False) (pre++[x]) W) (a₁ x) W)
  (hdone:∀ (D:Nat) (W:World),w.heap.size≤D→I (bitsOf s) W→W.heap[D]?=some (.deferred (some []))→Q .normal { a with defers:={ target:=.collected D,args:=#[] } :: a.defers } W) :
  (Code.rangeFunc g #[p] assign body).wpIn Fence.wide n Tryz.prog Q a w:=by
 refine wpIn_rangeFunc ?_
 intro fn hfn
 obtain⟨R,hR⟩:∃ R:LoopState→Loop,R=fun st=>{ state:=st,pending:=none,fn,tmps:=a.tmps,params:=#[p],assign,body,defers:=w.heap.size }:=⟨_,rfl⟩
 obtain⟨W1,hW1⟩:∃ W1,(w.alloc (.deferred (some []))).alloc (.loop (R .ready))=W1:=⟨_,rfl⟩
 have hsz:W1.heap.size=w.heap.size+2:=by rw[← hW1];simp
 have hl1:W1.heap[w.heap.size+1]?=some (.loop (R .ready)):=by
  rw[← hW1];have:=wan (w.alloc (.deferred (some []))) (.loop (R .ready));rwa [World.size_alloc] at this
 have hd1:W1.heap[w.heap.size]?=some (.deferred (some [])):=by
  rw[← hW1];exact (Below.heap_alloc _ _ _ (by simp)).trans (wan w _)
 have hi1:I [] W1:=by rw[← hW1];exact hI.alloc _ (hI.alloc _ h0)
 refine⟨w.heap.size+1,[{ target:=.collected w.heap.size,args:=#[] }],W1,{ target:=.fn (.func 259) #[],args:=#[.int .u64 s,.func (.yield (w.heap.size+1)) #[] #[]] },W1,259,
  #[.int .u64 s,.func (.yield (w.heap.size+1)) #[] #[]],W1,?_,?_,?_,?_,fun h=>(by cases h),?_⟩
 ·rw[← hW1,hR];exact run_enterLoop_outer _ _ _ _ _
 ·simp only[resolve,hg]
  simp[go_sem]
 ·intro f' _;exact trivial
 ·have eg:=enters_of (P:=Tryz.prog) Tryz.func259 (by kernel_rfl) rfl
  simp[invoke,go_sem,eg]
 ·refine (all_in (n-1) (w.heap.size+1) s hs (fun pre W=>I pre W∧W.heap[w.heap.size+1]?=some (.loop (R .ready))∧W.heap[w.heap.size]?=some (.deferred (some [])))
   (fun pre W h=>hT pre W h.1) ?_ W1 ⟨hi1,hl1,hd1⟩).mono ?_
  ·rintro pre x rest W ⟨hi,hl,hd⟩ hbits
   have hlt:w.heap.size+1<W.heap.size:=(Age.1 hl).1
   have hy:=run_yield (P:=Tryz.prog) (args:=#[.int .i64 x]) hl (by rw[hR];rfl)
   rw[hR] at hy
   refine⟨fn,_,assign,body,hy,roundIn_of_wpIn hfn ?_⟩
   refine hassign _ x W _ ?_
   refine⟨_,run_beginRound hl (by rw[hR]),?_⟩
   have hl2:(W.putObj (w.heap.size+1) (.loop { R .ready with state:=.busy })).heap[w.heap.size+1]?=some (.loop { R .ready with state:=.busy }):=World.putObj_heap_same hlt
   have hd2:(W.putObj (w.heap.size+1) (.loop { R .ready with state:=.busy })).heap[w.heap.size]?=some (.deferred (some [])):=(World.putObj_heap_other (by omega)).trans hd
   refine wpIn_mono (hbody _ pre x rest _ (hI.putObj _ hi (by omega) hl rfl) hbits) ?_
   rintro e a3 W3 hp
   cases e with
   | normal=>
    obtain⟨hk3,_,hi3⟩:=hp
    have hl3:=hk3.same _ _ (by omega) hl2 rfl
    have hd3:=hk3.same _ _ (Nat.le_refl _) hd2 rfl
    have hlt3:=(Age.1 hl3).1
    have hr:=run_endRound (P:=Tryz.prog) none hl3
    rw[hR] at hr
    refine⟨_,_,hr,rfl,hI.putObj _ hi3 (by omega) hl3 rfl,?_,(World.putObj_heap_other (by omega)).trans hd3⟩
    rw[World.putObj_heap_same hlt3,hR]
    rfl
   | ret=>exact hp.2.elim
   | exit id=>exact hp.2.elim
   | goto t=>exact hp.2.elim
   | panic ch=>exact hp.elim
   | outgrown=>exact hp.elim
  ·rintro e W2 ⟨⟨v,rfl⟩,hi,hl,hd⟩
   have he:=run_endLoop (P:=Tryz.prog) hl (by rw[hR];simp)
   rw[hR] at he
   exact⟨none,_,he,hdone _ _ (Nat.le_refl _) (hI.putObj _ hi (by omega) hl rfl) ((World.putObj_heap_other (by omega)).trans hd)⟩
attribute [local go_sem] Oper.semAt_some
def tieF (fo:Nat→Nat→Nat) (sp src dst:Nat):Nat→Nat→Nat:=fun s a=>if s=sp∧src.testBit a=true then fo s a ||| dst else fo s a
def tieL (fo:Nat→Nat→Nat) (sp dst:Nat) (pre:List Nat):Nat→Nat→Nat:=fun s a=>if s=sp∧a ∈ pre then fo s a ||| dst else fo s a
theorem bit_lt {src x k:Nat}(h:src<2 ^ k)(hb:src.testBit x=true):x<k:=by
 apply Nat.lt_of_not_le
 intro hle
 have h1:2 ^ x≤src:=Nat.ge_two_pow_of_testBit hb
 have h2:2 ^ k≤2 ^ x:=Nat.pow_le_pow_right (by decide) hle
 omega
theorem tieL_lt {fo:Nat→Nat→Nat}{sp dst:Nat}{pre:List Nat} (hfo:∀ s a,fo s a<18446744073709551616) (hdst:dst<18446744073709551616) (s a:Nat):tieL fo sp dst pre s a<18446744073709551616:=by
 unfold tieL
 split
 ·exact Nat.or_lt_two_pow (n:=64) (hfo s a) hdst
 ·exact hfo s a
theorem tieL_step (fo:Nat→Nat→Nat)(sp dst:Nat)(pre:List Nat)(x:Nat) :
  (fun s' a'=>if s'=sp∧a'=x then tieL fo sp dst pre sp x ||| dst else tieL fo sp dst pre s' a')=tieL fo sp dst (pre++[x]):=by
 funext s a
 by_cases h1:s=sp
 ·subst h1
  by_cases h2:a=x
  ·subst h2
   simp only[and_self,if_true,tieL,true_and,List.mem_append,List.mem_singleton,or_true]
   split
   ·rw[Nat.or_assoc,Nat.or_self]
   ·rfl
  ·simp[tieL,h2]
 ·simp[tieL,h1]
theorem tieL_end (fo:Nat→Nat→Nat)(sp src dst:Nat)(s a:Nat)(ha:a<50):tieL fo sp dst (bitsOf src) s a=tieF fo sp src dst s a:=by
 simp[tieL,tieF,mem_bitsOf,show a<64 by omega]
structure TieI (w:World) (pb sp dst:Nat) (wh:Nat→Value) (tk:Nat→Nat) (fo:Nat→Nat→Nat) (pre:List Nat) (W:World):Prop where
 pat:PatAt W pb wh tk (tieL fo sp dst pre)
 fr:Fr [pb] w W
 tab:Tab W
 b0:W.cell? ⟨w.heap.size,0,none⟩=some (.pointer (some ⟨pb,0,none⟩))
 b1:W.cell? ⟨w.heap.size+1,0,none⟩=some (.int .i64 sp)
 b2:W.cell? ⟨w.heap.size+1+1,0,none⟩=some (.int .u64 dst)
theorem Fr.grown {S:List Nat}{a W W':World}{row:Option Nat} (h:Fr S a W) (hg:W.grownBy W' row) (hr:∀ r,row=some r→a.heap.size≤r):Fr S a W':=
 ⟨hg.os.trans h.os,hg.tape.trans h.tape,hg.output.trans h.output,Nat.le_trans h.size hg.size,fun k hk hn=>
  (hg.block k (Nll hk h.size) (fun e=>by have:=hr k e.symm;omega)).trans (h.block k hk hn)⟩
theorem TieI.own (w:World)(pb sp dst:Nat)(wh:Nat→Value)(tk:Nat→Nat)(fo:Nat→Nat→Nat)(B:Nat)(hB:w.heap.size≤B):OwnFrom B (TieI w pb sp dst wh tk fo):=by
 rintro pre W W' row ⟨h1,h2,h3,h4,h5,h6⟩ hg hr
 have hr':=fun r e=>(hr r e).2
 exact⟨h1.of_block (block_kept (a:=⟨pb,12,none⟩) (h1.ht 0 (by decide)) hg hr'),h2.grown hg (fun r e=>Nat.le_trans hB (hr r e).1),h3.of_block (block_kept (a:=⟨6,0,none⟩) (h3 0 (by decide)) hg hr'),
  cell_kept h4 hg hr',cell_kept h5 hg hr',cell_kept h6 hg hr'⟩
theorem tie_any (pb sp src dst:Nat)(hsp:sp<4)(hsrc:src<1125899906842624)(hdst:dst<18446744073709551616)(w:World)(wh:Nat→Value)(tk:Nat→Nat)(fo:Nat→Nat→Nat)
  (hP:PatAt w pb wh tk fo) (hfo:∀ s a,fo s a<18446744073709551616) (hT:Tab w) (hpb:pb≠6) :
  Calls Tryz.prog 287 #[.pointer (some ⟨pb,0,none⟩),.int .i64 sp,.int .u64 src,.int .u64 dst] w fun e w'=>e=.returned (.tuple #[])∧PatAt w' pb wh tk (tieF fo sp src dst)∧Fr [pb] w w':=by
 refine (callsIn_wide (n:=4)).1 ?_
 refine callsIn_of_wp_marks Tryz.func287 rfl trivial ?_ rfl
 simp only[Tryz.ntmps287,List.size_toArray,List.length_cons,List.length_nil,Nat.reduceAdd,Nat.reduceSub,Array.replicate_succ,Array.replicate_zero,List.push_toArray,List.append_toArray,List.nil_append,List.cons_append]
 gi_wp2
 obtain⟨W0,hW0⟩:∃ W0,(((w.alloc (Obj.cells #[Value.pointer (some { block:=pb,off:=0 })] 226)).alloc (Obj.cells #[Value.int IntKind.i64 sp] 3)).alloc (Obj.cells #[Value.int IntKind.u64 dst] 280))=W0:=⟨_,rfl⟩
 have hI0:TieI w pb sp dst wh tk fo [] W0:=by
  have hfr:Fr [pb] w W0:=by rw[← hW0];exact (((Fr.refl _ _).alloc _).alloc _).alloc _
  have hfr':Fr [] w W0:=by rw[← hW0];exact (((Fr.refl _ _).alloc _).alloc _).alloc _
  refine⟨(hP.fr hfr' (by simp)).congr (fun _ _=>rfl) (fun s a _ _=>by simp[tieL]),hfr,hT.fr hfr' (by simp),?_,?_,?_⟩
  ·rw[← hW0,World.cell?_alloc_past _ _ _ (by simp;omega),World.cell?_alloc_past _ _ _ (by simp)];exact cell_new _ _ _
  ·rw[← hW0,World.cell?_alloc_past _ _ _ (by simp)]
   have:=cell_new (w.alloc (Obj.cells #[Value.pointer (some { block:=pb,off:=0 })] 226)) (Value.int IntKind.i64 sp) 3
   rwa [World.size_alloc] at this
  ·rw[← hW0]
   have:=cell_new ((w.alloc (Obj.cells #[Value.pointer (some { block:=pb,off:=0 })] 226)).alloc (Obj.cells #[Value.int IntKind.i64 sp] 3)) (Value.int IntKind.u64 dst) 280
   rwa [World.size_alloc,World.size_alloc] at this
 have hs0:W0.heap.size=w.heap.size+3:=by rw[← hW0];simp
 rw[hW0]
 clear hW0
 refine wp_range_set src (by omega) rfl (TieI w pb sp dst wh tk fo) (TieI.own _ _ _ _ _ _ _ _ (by omega)) (fun pre W h=>h.tab) hI0
  (fun x=>{ tmps:=#[Value.pointer (some { block:=pb,off:=0 }),Value.int IntKind.i64 sp,Value.int IntKind.u64 src,
     Value.int IntKind.u64 dst,Value.pointer (some { block:=w.heap.size,off:=0 }),
     Value.pointer (some { block:=w.heap.size+1,off:=0 }),undef,
     Value.pointer (some { block:=w.heap.size+1+1,off:=0 }),Value.int .i64 x,Value.int IntKind.u64 src,
     Value.func (Fn.func 259) #[Value.int IntKind.u64 src] #[],Value.int .i64 x,undef,undef,undef,undef,undef,undef,
     undef,undef,undef,undef,undef,undef,undef,undef],defers:=[] }) ?assign ?body ?done
 case assign=>
  intro l x W K hK
  gi_wp2
  exact hK
 case body=>
  rintro l pre x rest W hi hbits
  have hx:x<50:=bit_lt (k:=50) (by simpa using hsrc) (mem_bitsOf.1 (by rw[hbits];simp)).2
  obtain⟨h1,h2,h3,h4,h5,h6⟩:=hi
  have hc:=h1.hf sp x hsp hx
  have hz:=h1.fz (268+sp*50+x) (by omega)
  have g1:(sp:Int)<4:=by omega
  have g2:(x:Int)<50:=by omega
  have hm:Tryz.prog.follows Departure.mixedOrders=true:=by kernel_rfl
  gi_wp2
  refine wpIn_region_tail_round 14 hm (by kernel_rfl) (by kernel_rfl) (by rintro ⟨a,w,h⟩;exact h) ?_
  simp only[List.take_succ_cons,List.take_zero,List.drop_succ_cons,List.drop_zero]
  repeat still_step
  refine wpStill_nil ?_
  go_wp2
  have hlt:=tieL_lt (sp:=sp) (pre:=pre) hfo hdst sp x
  rw[bits_or_u64_nat _ _ hlt hdst]
  refine⟨KeepsFrom.trans ((KeepsOthers.setCell _ _ _).from _) ((KeepsOthers.drew _).from _),trivial,?_⟩
  have hset:=(h1.setFollow sp x hsp hx (tieL fo sp dst pre sp x ||| dst))
  rw[tieL_step] at hset
  have hlt2:=hP.lt
  exact⟨hset.of_block rfl,(h2.setCell (p:=⟨pb,268+sp*50+x,none⟩) (.inl (by simp)) _).drew,h3.of_block (Below.heap_setCell W ⟨pb,268+sp*50+x,none⟩ _ 6 (fun e=>hpb e.symm)),
   (setCell_far (by omega)).trans h4,(setCell_far (by omega)).trans h5,(setCell_far (by omega)).trans h6⟩
 case done=>
  rintro D W hD hi hK
  gi_wp2
  refine⟨by simp,.inl ⟨_,_,rfl,run_takeDeferred hK,?_⟩⟩
  obtain⟨h1,h2,h3,h4,h5,h6⟩:=hi
  have hD1:pb≠D:=by rintro rfl;have:=h1.lt;have h7:=h1.ht 0 (by decide);unfold World.cell? at h7;rw[hK] at h7;simp at h7
  refine⟨_,results_none rfl _ _ _,rfl,?_,?_⟩
  ·exact (h1.of_block (World.putObj_heap_other hD1)).congr (fun _ _=>rfl) (fun s a _ ha=>tieL_end fo sp src dst s a ha)
  ·exact h2.grown (grownBy_putObj' W D (.deferred none)) (fun r e=>by cases e;omega)
attribute [local go_sem] Oper.semAt_some
end Go.Proofs.YtclkgoigmgkffaaGreatDoor
