import Derived.ScopeJumps
import Derived.Test.YtmolfmgchbjnbaaGreatDoorM37
set_option linter.unusedSimpArgs false
set_option linter.unusedVariables false
namespace Go.Proofs.YtmolfmgchbjnbaaGreatDoor
open Wire Flow Mach
theorem pr_cv (v : Val) : ∀ c ∈ [cv v], c.list = false → c = cv c.v := by
 intro c hc _
 simp only [List.mem_singleton] at hc
 subst hc
 rfl
theorem pr_nil : ∀ c ∈ ([] : List Cell), c.list = false → c = cv c.v := by
 intro c hc
 cases hc
theorem pr_get {top : List Cell} (h : ∀ c ∈ top, c.list = false → c = cv c.v) (i : Nat) (hl : (top.getD i c0).list = false) : top.getD i c0 = cv (top.getD i c0).v := by
 rw [List.getD_eq_getElem?_getD] at hl ⊢
 cases hq : top[i]? with
 | none => rfl
 | some c =>
  rw [hq] at hl
  exact h c (List.mem_of_getElem? hq) hl
theorem eff_pr {E : Env} {w : Wd} {locs : List Val} {op a b : Nat} {top : List Cell} (h : ∀ c ∈ top, c.list = false → c = cv c.v) : ∀ c ∈ (eff E w locs op a b top).top, c.list = false → c = cv c.v := by
 unfold eff
 split <;> (try exact pr_cv _) <;> (try exact pr_nil)
 ·split
  ·exact pr_cv _
  ·split
   ·exact pr_nil
   ·exact pr_cv _
 ·split <;> exact pr_nil
 ·intro c hc hl
  simp only [List.mem_singleton] at hc
  subst hc
  cases hl
 ·split
  ·exact pr_nil
  ·intro c hc hl
   simp only [List.mem_cons, List.not_mem_nil, or_false] at hc
   rcases hc with rfl | rfl
   ·cases hl
   ·rfl
 ·split
  ·exact pr_nil
  ·exact pr_cv _
 ·split
  ·exact pr_nil
  ·exact pr_cv _
 ·split
  ·exact pr_nil
  ·exact pr_cv _
 ·split <;> exact pr_cv _
 ·intro c hc hl
  simp only [List.mem_cons, List.not_mem_nil, or_false] at hc
  rcases hc with rfl | rfl <;> exact pr_get h 0 hl
 ·intro c hc hl
  simp only [List.mem_cons, List.not_mem_nil, or_false] at hc
  rcases hc with rfl | rfl | rfl
  ·exact pr_get h 1 hl
  ·exact pr_get h 0 hl
  ·exact pr_get h 1 hl
def hd (frs : List Frm) : Option Nat := frs.head?.map Frm.f
theorem hd_cons (low : List Frm) (f f' : Frm) (l l' : List Frm) (h : f.f = f'.f) : hd (low ++ f :: l) = hd (low ++ f' :: l') := by
 cases low with
 | nil => simp [hd, h]
 | cons a low => simp [hd]
theorem pr_enter (m : Mo) (f : Nat) (args : List Val) : ∀ c ∈ (enter m f args).stk, c.list = false → c = cv c.v := pr_nil
theorem Pr.does {E : Env} {S : St} {low : List Frm} {fr : Frm} {i : Stp} {rest top : List Cell} (hP : Pr S.frs) (hR : Ready E S low fr i rest top) : Pr (does E S low fr i rest top).frs := by
 have hlow : ∀ g ∈ low, ∀ c ∈ g.stk, c.list = false → c = cv c.v := fun g hg => hP g (by rw [hR.frs]; simp [hg])
 have hfr : ∀ c ∈ fr.stk, c.list = false → c = cv c.v := hP fr (by rw [hR.frs]; simp)
 have hrest : ∀ c ∈ rest, c.list = false → c = cv c.v := fun c hc => hfr c (by rw [hR.stk]; simp [hc])
 have htop : ∀ c ∈ top, c.list = false → c = cv c.v := fun c hc => hfr c (by rw [hR.stk]; simp [hc])
 unfold Mach.does
 split
 ·split
  ·exact hP
  ·intro g hg
   rcases List.mem_append.1 hg with hg | hg
   ·exact hlow g hg
   ·simp only [List.mem_cons, List.not_mem_nil, or_false] at hg
    rcases hg with rfl | rfl
    ·exact hrest
    ·exact pr_enter _ _ _
 ·split
  ·split
   ·exact hP
   ·rename_i g0 hg0
    intro g hg
    rcases List.mem_append.1 hg with hg | hg
    ·exact hlow g (List.dropLast_subset low hg)
    ·simp only [List.mem_singleton] at hg
     subst hg
     intro c hc
     rcases List.mem_append.1 hc with hc | hc
     ·exact hlow g0 (List.mem_of_getLast? hg0) c hc
     ·exact pr_cv _ c hc
  ·split
   ·unfold over
    split
    ·exact hP
    ·split
     ·intro g hg
      simp only [List.mem_singleton] at hg
      subst hg
      exact pr_enter _ _ _
     ·intro g hg
      simp only [List.mem_singleton] at hg
      subst hg
      exact pr_enter _ _ _
   ·split
    ·exact hP
    ·intro g hg
     rcases List.mem_append.1 hg with hg | hg
     ·exact hlow g hg
     ·simp only [List.mem_singleton] at hg
      subst hg
      intro c hc
      rcases List.mem_append.1 hc with hc | hc
      ·exact hrest c hc
      ·exact eff_pr htop c hc
theorem hd_does {E : Env} {S : St} {low : List Frm} {fr : Frm} {i : Stp} {rest top : List Cell} (hR : Ready E S low fr i rest top) (h52 : i.op ≠ 52) : hd (Mach.does E S low fr i rest top).frs = hd S.frs := by
 unfold Mach.does
 split
 ·split
  ·rfl
  ·rw [hR.frs]
   exact hd_cons low _ _ _ _ rfl
 ·split
  ·split
   ·rfl
   ·rename_i g0 hg0
    rw [hR.frs]
    obtain ⟨lo, e⟩ : ∃ lo, low = lo ++ [g0] := by
     obtain ⟨h1, h2⟩ := List.getLast?_eq_some_iff.1 hg0
     exact ⟨h1, h2⟩
    rw [e, List.dropLast_concat, List.append_assoc]
    exact hd_cons lo _ _ _ _ rfl
  ·split
   ·rfl
   ·rw [hR.frs]
    exact hd_cons low _ _ _ _ rfl
theorem code_does {E : Env} {S : St} {low : List Frm} {fr : Frm} {i : Stp} {rest top : List Cell} (hc : S.code = 0) (hR : Ready E S low fr i rest top) (h0 : (Mach.does E S low fr i rest top).st = 0) (hst : S.st = 0) : (Mach.does E S low fr i rest top).code = 0 := by
 revert h0
 unfold Mach.does
 split
 ·split
  ·intro h; cases h
  ·intro _; exact hc
 ·split
  ·split
   ·intro _; exact hc
   ·intro _; exact hc
  ·split
   ·unfold over
    split
    ·intro h; cases h
    ·split
     ·intro _; exact hc
     ·intro _; exact hc
   ·split
    ·rename_i hne
     intro h
     exact absurd h hne
    ·intro _; exact hc
end Go.Proofs.YtmolfmgchbjnbaaGreatDoor
namespace Go.Proofs.YtmolfmgchbjnbaaGreatDoor
open Go Go.RowKit
def J4 (j0 j1 j2 j3 : Act → World → Prop) : Nat → Act → World → Prop
 | 0 => j0
 | 1 => j1
 | 2 => j2
 | 3 => j3
 | _ => fun _ _ => False
def ExJ (J : Nat → Act → World → Prop) (Q : Exit → Act → World → Prop) : Exit → Act → World → Prop
 | .goto l, a, w => J l a w
 | e, a, w => Q e a w
theorem wp_scope4 {P : Program} {a : Act} {w : World} {Q : Exit → Act → World → Prop} {c r0 r1 r2 r3 : Code} (j0 j1 j2 j3 : Act → World → Prop) (μ : Nat → Act → World → Nat)
  (h0 : findLabel c 0 = some r0) (h1 : findLabel c 1 = some r1) (h2 : findLabel c 2 = some r2) (h3 : findLabel c 3 = some r3)
  (first : c.wp P (ExJ (J4 j0 j1 j2 j3) Q) a w)
  (p0 : ∀ a w, j0 a w → r0.wp P (ExJ (fun l' a' w' => J4 j0 j1 j2 j3 l' a' w' ∧ μ l' a' w' < μ 0 a w) Q) a w)
  (p1 : ∀ a w, j1 a w → r1.wp P (ExJ (fun l' a' w' => J4 j0 j1 j2 j3 l' a' w' ∧ μ l' a' w' < μ 1 a w) Q) a w)
  (p2 : ∀ a w, j2 a w → r2.wp P (ExJ (fun l' a' w' => J4 j0 j1 j2 j3 l' a' w' ∧ μ l' a' w' < μ 2 a w) Q) a w)
  (p3 : ∀ a w, j3 a w → r3.wp P (ExJ (fun l' a' w' => J4 j0 j1 j2 j3 l' a' w' ∧ μ l' a' w' < μ 3 a w) Q) a w) : (Code.scope c).wp P Q a w := by
 have hall : ∀ l a w, J4 j0 j1 j2 j3 l a w → ∃ r, findLabel c l = some r ∧ r.wp P (ExJ (fun l' a' w' => J4 j0 j1 j2 j3 l' a' w' ∧ μ l' a' w' < μ l a w) Q) a w := by
  intro l a w hJ
  match l, hJ with
  | 0, hJ => exact ⟨r0, h0, p0 a w hJ⟩
  | 1, hJ => exact ⟨r1, h1, p1 a w hJ⟩
  | 2, hJ => exact ⟨r2, h2, p2 a w hJ⟩
  | 3, hJ => exact ⟨r3, h3, p3 a w hJ⟩
  | n + 4, hJ => exact hJ.elim
 intro b k cs
 have key : ∀ n l a w r, μ l a w = n → J4 j0 j1 j2 j3 l a w → findLabel c l = some r → ∃ e a' w', Q e a' w' ∧ Arrives P (lone (b.at a (.code r :: .inScope c :: k)) cs w) b k cs e a' w' := by
  intro n
  induction n using Nat.strongRecOn with
  | _ n ih =>
   intro l a w r hn hJ hr
   obtain ⟨r', hr', hwp⟩ := hall l a w hJ
   obtain rfl : r = r' := by rw [hr] at hr'; simpa using hr'
   obtain ⟨e, a₁, w₁, hq, harr⟩ := hwp b (.inScope c :: k) cs
   cases e with
   | normal => exact ⟨.normal, a₁, w₁, hq, Steps.trans harr (.one step_inScope)⟩
   | exit id => exact ⟨.exit id, a₁, w₁, hq, fun k' hk => harr k' (by simp [exitTo, hk])⟩
   | goto l' =>
    obtain ⟨hJ', hlt⟩ := hq
    obtain ⟨r2, hr2, -⟩ := hall l' a₁ w₁ hJ'
    have hg : gotoIn l' (.inScope c :: k) = some (.code r2 :: .inScope c :: k) := by simp [gotoIn, hr2]
    obtain ⟨e₂, a₂, w₂, hq₂, harr₂⟩ := ih _ (by omega) l' a₁ w₁ r2 rfl hJ' hr2
    exact ⟨e₂, a₂, w₂, hq₂, .of_steps (harr _ hg) harr₂⟩
   | ret => exact ⟨_, a₁, w₁, hq, harr⟩
   | panic ch => exact ⟨_, a₁, w₁, hq, harr⟩
   | outgrown => exact ⟨_, a₁, w₁, hq, harr⟩
 obtain ⟨e, a₁, w₁, hq, harr⟩ := first b (.inScope c :: k) cs
 cases e with
 | normal => exact ⟨.normal, a₁, w₁, hq, .head step_scope (Steps.trans harr (.one step_inScope))⟩
 | exit id => exact ⟨.exit id, a₁, w₁, hq, fun k' hk => .head step_scope (harr k' (by simp [exitTo, hk]))⟩
 | goto l' =>
  have hJ' : J4 j0 j1 j2 j3 l' a₁ w₁ := hq
  obtain ⟨r2, hr2, -⟩ := hall l' a₁ w₁ hJ'
  have hg : gotoIn l' (.inScope c :: k) = some (.code r2 :: .inScope c :: k) := by simp [gotoIn, hr2]
  obtain ⟨e₂, a₂, w₂, hq₂, harr₂⟩ := key _ l' a₁ w₁ r2 rfl hJ' hr2
  exact ⟨e₂, a₂, w₂, hq₂, .of_steps (.head step_scope (harr _ hg)) harr₂⟩
 | ret => exact ⟨_, a₁, w₁, hq, .of_steps (.one step_scope) harr⟩
 | panic ch => exact ⟨_, a₁, w₁, hq, .of_steps (.one step_scope) harr⟩
 | outgrown => exact ⟨_, a₁, w₁, hq, .of_steps (.one step_scope) harr⟩
end Go.Proofs.YtmolfmgchbjnbaaGreatDoor
namespace Go.Proofs.YtmolfmgchbjnbaaGreatDoor
open Go.RowKit
open Wire Flow Mach
def msOf (S : St) (low : List Frm) (fr : Frm) : Ms := ⟨S.w, low, fr, S.st, S.code, S.used⟩
theorem used_does {E : Env} {S : St} {low : List Frm} {fr : Frm} {i : Stp} {rest top : List Cell} : (Mach.does E S low fr i rest top).used ≤ S.used + 1 := by
 unfold Mach.does
 split
 ·split <;> exact Nat.le_refl _
 ·split
  ·split
   ·exact Nat.le_succ _
   ·exact Nat.le_refl _
  ·split
   ·unfold over
    split
    ·exact Nat.le_refl _
    ·split <;> exact Nat.le_refl _
   ·split <;> exact Nat.le_refl _
structure GoE (E : Env) : Prop where
 env : EnvOk E
 sm : SmE E
 lim : Lim E
 mod : ModOk E.mo
def BxI (w : World) (t : Nat → Nat) (b : Nat) (v0 v1 v2 v3 v4 : Value) : Prop := t b = 6 ∧ 6 ≤ b ∧ w.heap[b]? = some (.cells #[v0, v1, v2, v3, v4] 150)
theorem BxI.kp {w w' : World} {t t' : Nat → Nat} {b : Nat} {v0 v1 v2 v3 v4 : Value} (h : BxI w t b v0 v1 v2 v3 v4) (k : Kp t t' w w') : BxI w' t' b v0 v1 v2 v3 v4 :=
 have hl := (Array.getElem?_eq_some_iff.1 h.2.2).1
 ⟨(k.ret b hl).trans h.1, h.2.1, (k.blk b hl (by rw [h.1]; decide)).trans h.2.2⟩
theorem cells5F {w : World} {b : Nat} {v0 v1 v2 v3 v4 : Value} {t : TypeId} (h : w.heap[b]? = some (.cells #[v0, v1, v2, v3, v4] t)) : (w.cell? ⟨b, 0, none⟩ = some v0 ∧ w.cell? ⟨b, 1, none⟩ = some v1 ∧ w.cell? ⟨b, 2, none⟩ = some v2 ∧ w.cell? ⟨b, 3, none⟩ = some v3 ∧ w.cell? ⟨b, 4, none⟩ = some v4) ∧ ∀ j, w.frozen? ⟨b, j, none⟩ = false := by
 refine ⟨⟨?_, ?_, ?_, ?_, ?_⟩, fun j => ?_⟩ <;> first | (unfold World.cell?; rw [h]; rfl) | (unfold World.frozen?; rw [h]; simp)
def set5W (w : World) (b : Nat) (v0 v1 v2 v3 v4 : Value) : World := ((((w.setCell ⟨b, 0, none⟩ v0).setCell ⟨b, 1, none⟩ v1).setCell ⟨b, 2, none⟩ v2).setCell ⟨b, 3, none⟩ v3).setCell ⟨b, 4, none⟩ v4
theorem set5_block {w : World} {b : Nat} {u0 u1 u2 u3 u4 : Value} {t : TypeId} (h : w.heap[b]? = some (.cells #[u0, u1, u2, u3, u4] t)) (v0 v1 v2 v3 v4 : Value) : (set5W w b v0 v1 v2 v3 v4).heap[b]? = some (.cells #[v0, v1, v2, v3, v4] t) := by
 have hl := (Array.getElem?_eq_some_iff.1 h).1
 have hg := (Array.getElem?_eq_some_iff.1 h).2
 unfold set5W World.setCell
 simp [hl, Array.getElem_modify, hg]
theorem set5_cells {w : World} {b : Nat} {u0 u1 u2 u3 u4 : Value} {t : TypeId} (h : w.heap[b]? = some (.cells #[u0, u1, u2, u3, u4] t)) (v0 v1 v2 v3 : Value) :
  (w.setCell ⟨b, 0, none⟩ v0).cell? ⟨b, 1, none⟩ = some u1 ∧ ((w.setCell ⟨b, 0, none⟩ v0).setCell ⟨b, 1, none⟩ v1).cell? ⟨b, 2, none⟩ = some u2 ∧ (((w.setCell ⟨b, 0, none⟩ v0).setCell ⟨b, 1, none⟩ v1).setCell ⟨b, 2, none⟩ v2).cell? ⟨b, 3, none⟩ = some u3 ∧ ((((w.setCell ⟨b, 0, none⟩ v0).setCell ⟨b, 1, none⟩ v1).setCell ⟨b, 2, none⟩ v2).setCell ⟨b, 3, none⟩ v3).cell? ⟨b, 4, none⟩ = some u4 := by
 obtain ⟨⟨h0, h1, h2, h3, h4⟩, -⟩ := cells5F h
 refine ⟨?_, ?_, ?_, ?_⟩
 ·rw [setCell_off (by decide)]; exact h1
 ·rw [setCell_off (by decide), setCell_off (by decide)]; exact h2
 ·rw [setCell_off (by decide), setCell_off (by decide), setCell_off (by decide)]; exact h3
 ·rw [setCell_off (by decide), setCell_off (by decide), setCell_off (by decide), setCell_off (by decide)]; exact h4
section
variable (E : Env) (X b4 : Nat) (S0 : St) (N : Nat) (tag : Nat → Nat) (W : World)
def RF (n : Nat) (w : World) : Prop := ∃ S g low fr t m v0 v1 v2 v3 v4, Plays E m S0 S ∧ m + n = N ∧ S.st = 0 ∧ S.code = 0 ∧ Mach.Good E S ∧ Pr S.frs ∧ S.used + n ≤ 4611686018427387904 ∧ S.frs = low ++ [fr] ∧ hd S.frs = some g.en ∧ MM E X g (msOf S low fr) w t ∧ Kp tag t W w ∧ BxI w t b4 v0 v1 v2 v3 v4
def RP (e : Bool) (n : Nat) (w : World) : Prop := ∃ S g low fr i rest top t m q, Plays E m S0 S ∧ m + (n + 1) = N ∧ S.st = 0 ∧ S.code = 0 ∧ Mach.Good E S ∧ Pr S.frs ∧ S.used + (n + 1) ≤ 4611686018427387904 ∧ Ready E S low fr i rest top ∧ hd S.frs = some g.en ∧ MM E X g (fetched S low fr i) w t ∧ Kp tag t W w ∧ (decide (i.op = 52)) = e ∧ (far i.op = true → ∀ L, Reads E.mo fr.f (locsOf E.mo fr.f) (codeOf E.mo fr.f) L → PlcAt E.mo fr.f L q i.a) ∧
 BxI w t b4 (.int .u8 (i.op : Nat)) (.int .i64 (i.pl : Nat)) (.int .i64 ((min i.a 2000000000 : Nat) : Int)) (.int .i64 ((min i.b 2000000000 : Nat) : Int)) (.int .i64 (q : Nat))
def RE (st : Int) (w : World) : Prop := ∃ D g s t m, Plays E m S0 D ∧ m ≤ N ∧ D.st ≠ 0 ∧ st = (D.st : Nat) ∧ Mach.Good E D ∧ MM E X g s w t ∧ Kp tag t W w ∧ s.w = D.w ∧ s.code = D.code ∧ s.used = D.used
def GoQ (e : Ending) (w : World) : Prop := e = .returned unit ∧ ∃ D g s t, Plays E N S0 D ∧ Mach.Good E D ∧ MM E X g s w t ∧ Kp tag t W w ∧ s.w = D.w ∧ s.st = D.st ∧ s.code = D.code ∧ s.used = D.used ∧ (D.st = 0 → s.low ++ [s.fr] = D.frs ∧ hd D.frs = some g.en ∧ Pr D.frs ∧ D.code = 0)
end
section
variable {E : Env} {X b4 : Nat} {S0 : St} {N : Nat} {tag : Nat → Nat} {W w : World}
theorem RF.stop (h : RF E X b4 S0 N tag W 0 w) : GoQ E X S0 N tag W (.returned unit) w := by
 obtain ⟨S, g, low, fr, t, m, -, -, -, -, -, hp, hn, hst, hc, hG, hP, -, hf, hh, M, K, -⟩ := h
 have : m = N := by omega
 subst this
 exact ⟨rfl, S, g, msOf S low fr, t, hp, hG, M, K, rfl, rfl, rfl, rfl, fun _ => ⟨hf.symm, hh, hP, hc⟩⟩
theorem RF.step {n : Nat} (hb4 : W.heap.size ≤ b4) (h : RF E X b4 S0 N tag W (n + 1) w) : ∃ (u : Nat) (g : Pl) (s : Ms), u < 4611686018427387904 ∧ w.cell? ⟨X, 15, none⟩ = some (.int .i64 (u : Nat)) ∧ w.frozen? ⟨X, 15, none⟩ = false ∧
  Calls Tryz.prog 63 #[ptr X] (w.setCell ⟨X, 15, none⟩ (.int .i64 ((u + 1 : Nat) : Int))) (fun e w2 => e = .returned (fp g s) ∧ Calls Tryz.prog 64 #[fp g s] w2 (fun e w3 => ∃ (op pl a b q : Int) (u0 u1 u2 u3 u4 : Value), e = .returned (inV op pl a b q) ∧ w3.heap[b4]? = some (.cells #[u0, u1, u2, u3, u4] 150) ∧ RP E X b4 S0 N tag W (decide (op = 52)) n (set5W w3 b4 (.int .u8 op) (.int .i64 pl) (.int .i64 a) (.int .i64 b) (.int .i64 q)) ∧ (set5W w3 b4 (.int .u8 op) (.int .i64 pl) (.int .i64 a) (.int .i64 b) (.int .i64 q)).cell? ⟨b4, 0, none⟩ = some (.int .u8 op))) := by
 obtain ⟨S, g, low, fr, t, m, v0, v1, v2, v3, v4, hp, hn, hst, hc, hG, hP, hu, hf, hh, M, K, B⟩ := h
 obtain ⟨hI, -, -⟩ := hG.inv hst
 obtain ⟨low', fr', i, rest, top, hR, -⟩ := hI.ready (E := E) (s := S)
 obtain ⟨e1, e2⟩ := List.append_inj' (hf.symm.trans hR.frs) rfl
 simp only [List.cons.injEq, and_true] at e2
 subst e1 e2
 obtain ⟨z15, -, M1, K1⟩ := M.setUsed (S.used + 1)
 refine ⟨S.used, g, { msOf S low fr with used := S.used + 1 }, by omega, M.xused, z15, ?_⟩
 refine M1.frame.mono ?_
 rintro e w2 ⟨he, t2, M2, K2⟩
 refine ⟨he, ?_⟩
 refine (M2.next (i := i) hR.at_ hR.dec).mono ?_
 rintro e w3 ⟨q, he3, hfar, t3, M3, K3⟩
 have B3 := ((B.kp K1).kp K2).kp K3
 have hb3 : t3 b4 = 6 := B3.1
 refine ⟨_, _, _, _, _, _, _, _, _, _, he3, B3.2.2, ⟨S, g, low, fr, i, rest, top, t3, m, q, hp, hn, hst, hc, hG, hP, hu, hR, hh, ?_, ?_, ?_, hfar, ?_⟩, ?_⟩
 ·exact ((((M3.poke hb3 B3.2.1 0 _).poke hb3 B3.2.1 1 _).poke hb3 B3.2.1 2 _).poke hb3 B3.2.1 3 _).poke hb3 B3.2.1 4 _
 ·exact ((((((K.trans K1).trans K2).trans K3).poke hb4 0 _).poke hb4 1 _).poke hb4 2 _).poke hb4 3 _ |>.poke hb4 4 _
 ·apply Bool.eq_iff_iff.2
  simp only [decide_eq_true_eq]
  omega
 ·exact ⟨hb3, B3.2.1, set5_block B3.2.2 _ _ _ _ _⟩
 ·exact (cells5F (set5_block B3.2.2 _ _ _ _ _)).1.1
end
end Go.Proofs.YtmolfmgchbjnbaaGreatDoor
namespace Go.Proofs.YtmolfmgchbjnbaaGreatDoor
open Go.RowKit
open Wire Flow Mach
theorem nextR_none {w : Wd} (h : (nextR w).2 = false) : (nextR w).1 = w := by
 unfold Mach.nextR at h ⊢
 cases hq : w.recs[w.nr]? with
 | none => rfl
 | some t => rw [hq] at h; cases h
section
variable {E : Env} {X b4 : Nat} {S0 : St} {N : Nat} {tag : Nat → Nat} {W w : World}
theorem RP.play (hE : GoE E) {n : Nat} (h : RP E X b4 S0 N tag W false n w) : ∃ op pl a b q : Int, (w.cell? ⟨b4, 0, none⟩ = some (.int .u8 op) ∧ w.cell? ⟨b4, 1, none⟩ = some (.int .i64 pl) ∧ w.cell? ⟨b4, 2, none⟩ = some (.int .i64 a) ∧ w.cell? ⟨b4, 3, none⟩ = some (.int .i64 b) ∧ w.cell? ⟨b4, 4, none⟩ = some (.int .i64 q)) ∧
    Calls Tryz.prog 65 #[ptr X, inV op pl a b q] w (fun e w' => ∃ st : Int, e = .returned (stI st) ∧ (st = 0 → RF E X b4 S0 N tag W n w') ∧ (st ≠ 0 → RE E X S0 N tag W st w')) := by
  obtain ⟨S, g, low, fr, i, rest, top, t, m, q, hp, hn, hst, hc, hG, hP, hu, hR, hh, M, K, h52, hfar, B⟩ := h
  have h52' : i.op ≠ 52 := by simpa using h52
  refine ⟨_, _, _, _, _, (cells5F B.2.2).1, ?_⟩
  refine (play_does hE.env hE.sm hE.lim hE.mod hG hP hst hc hR M hfar h52').mono ?_
  rintro e w' ⟨st, he, hst', g', s', t', M', K', q1, q2, q3, q4, q5, q6⟩
  have hGD := hG.does hE.sm hE.mod hst hR
  refine ⟨st, he, fun h0 => ?_, fun hne => ?_⟩
  · have hD0 : (Mach.does E S low fr i rest top).st = 0 := by omega
    have hfr := q6 hD0
    have hused := used_does (E := E) (S := S) (low := low) (fr := fr) (i := i) (rest := rest) (top := top)
    refine ⟨Mach.does E S low fr i rest top, g', s'.low, s'.fr, t', m + 1, _, _, _, _, _, hp.more hst hR, by omega, hD0, code_does hc hR hD0 hst, hGD, hP.does hR, by omega, hfr.symm, ?_, ?_, K.trans K', B.kp K'⟩
    · rw [hd_does hR h52', hh, q1]
    · have e : msOf (Mach.does E S low fr i rest top) s'.low s'.fr = s' := by
        unfold msOf
        rw [← q3, ← q4, ← q5, hD0]
        have : s'.st = 0 := by rw [q2]; exact hst
        rw [← this]
      rw [e]
      exact M'
  · exact ⟨Mach.does E S low fr i rest top, g', s', t', m + 1, hp.more hst hR, by omega, by omega, hst', hGD, M', K.trans K', q3, q4, q5⟩
theorem RP.ends (hE : GoE E) {n : Nat} (h : RP E X b4 S0 N tag W true n w) : ∃ en : Nat, en ≤ 1000000 ∧ w.cell? ⟨X, 10, none⟩ = some (.int .i64 (en : Nat)) ∧ (en = 2 → RE E X S0 N tag W 1 w) ∧ (en ≠ 2 → Calls Tryz.prog 66 #[ptr X] w (fun e w' => e = .returned unit ∧ RF E X b4 S0 N tag W n w')) := by
 obtain ⟨S, g, low, fr, i, rest, top, t, m, q, hp, hn, hst, hc, hG, hP, hu, hR, hh, M, K, h52, hfar, B⟩ := h
 have h52' : i.op = 52 := by simpa using h52
 obtain ⟨hI, -, -⟩ := hG.inv hst
 have hmay := (decodeL_next hR.at_ hR.dec).2.2.2.2
 have hf3 : fr.f < 3 := by
  unfold mayOp at hmay
  rw [h52'] at hmay
  simp at hmay
  omega
 have hlow : low = [] := by
  have h1 := (hI.kinds low.length fr (by rw [hR.frs]; simp)).2 hf3
  exact List.length_eq_zero_iff.1 h1
 subst hlow
 have hen : g.en = fr.f := by
  rw [hR.frs] at hh
  simpa [hd] using hh.symm
 have hGD := hG.does hE.sm hE.mod hst hR
 have hD : Mach.does E S [] fr i rest top = Mach.over E.mo { S with used := S.used + 1 } fr.f := by
  unfold Mach.does
  rw [if_neg (by omega), if_neg (by omega), if_pos h52']
 have hx10 : w.cell? ⟨X, 10, none⟩ = some (.int .i64 (g.en : Nat)) := by
  obtain ⟨h6, lv, R, mp, x, hx, h⟩ := M
  exact h.xc (by rw [← hx.1.2.1]; rfl)
 refine ⟨g.en, by omega, hx10, fun h2 => ?_, fun h2 => ?_⟩
 ·have hD1 : Mach.does E S [] fr i rest top = { S with used := S.used + 1, st := 1 } := by
   rw [hD]
   unfold Mach.over
   rw [if_pos (by omega)]
  exact ⟨Mach.does E S [] fr i rest top, g, _, t, m + 1, hp.more hst hR, by omega, by rw [hD1]; show (1 : Nat) ≠ 0; decide, by rw [hD1]; rfl, hGD, M, K, by rw [hD1]; rfl, by rw [hD1]; rfl, by rw [hD1]; rfl⟩
 ·have hw : SmW S.w := hG.w
  refine (M.nextFn (fun t ht => Nat.le_trans (hw.recs t (List.mem_of_getElem? ht)) (by decide)) (Nat.le_trans hw.nrec (by decide)) (by have := hE.mod.three; omega)).mono ?_
  rintro e w' ⟨he, b, t', M', K'⟩
  refine ⟨he, ?_⟩
  have hw' : (fetched S [] fr i).w = S.w := rfl
  rw [hw'] at M'
  have hD1 : Mach.does E S [] fr i rest top = ⟨(nextR S.w).1, [enter E.mo (if (nextR S.w).2 = true then 1 else 2) []], S.st, S.code, S.used + 1⟩ := by
   rw [hD]
   unfold Mach.over
   rw [if_neg (by omega)]
   rcases hb : (nextR S.w).2 with _ | _
   ·simp only [hb, Bool.false_eq_true, if_false, nextR_none hb]
   ·simp only [hb, if_true]
  have hD0 : (Mach.does E S [] fr i rest top).st = 0 := by rw [hD1]; exact hst
  refine ⟨Mach.does E S [] fr i rest top, g.at_ b (if (nextR S.w).2 = true then 1 else 2), [], enter E.mo (if (nextR S.w).2 = true then 1 else 2) [], t', m + 1, _, _, _, _, _, hp.more hst hR, by omega, hD0, code_does hc hR hD0 hst, hGD, hP.does hR, by rw [hD1]; show S.used + 1 + n ≤ _; omega, by rw [hD1]; rfl, ?_, ?_, K.trans K', B.kp K'⟩
  ·rw [hD1]
   rfl
  ·rw [hD1]
   exact M'
end
end Go.Proofs.YtmolfmgchbjnbaaGreatDoor
namespace Go.Proofs.YtmolfmgchbjnbaaGreatDoor
open Go.RowKit
open Wire Flow Mach
def jE (E : Env) (X b4 : Nat) (S0 : St) (N : Nat) (tag : Nat → Nat) (W : World) : Act → World → Prop := fun a w => ∃ (n : Nat) (st : Int) (u2 u3 u6 u7 u8 u9 u10 u11 u12 u13 u14 u15 u16 u17 u18 u19 u20 u21 u22 u23 u24 u25 u26 u27 u28 u29 u30 u31 u32 u33 u34 u35 u36 u37 u38 u39 u40 u41 u42 u43 u44 u45 u46 u47 u48 : Value), a = ⟨#[ptr X, .int .i64 ((n : Nat)), u2, u3, ptr b4, .int .i64 st, u6, u7, u8, u9, u10, u11, u12, u13, u14, u15, u16, u17, u18, u19, u20, u21, u22, u23, u24, u25, u26, u27, u28, u29, u30, u31, u32, u33, u34, u35, u36, u37, u38, u39, u40, u41, u42, u43, u44, u45, u46, u47, u48], []⟩ ∧ Hid (RE E X S0 N tag W st w)
def jF (E : Env) (X b4 : Nat) (S0 : St) (N : Nat) (tag : Nat → Nat) (W : World) : Act → World → Prop := fun a w => ∃ (n : Nat) (u2 u3 u5 u6 u7 u8 u9 u10 u11 u12 u13 u14 u15 u16 u17 u18 u19 u20 u21 u22 u23 u24 u25 u26 u27 u28 u29 u30 u31 u32 u33 u34 u35 u36 u37 u38 u39 u40 u41 u42 u43 u44 u45 u46 u47 u48 : Value), a = ⟨#[ptr X, .int .i64 ((n : Nat)), u2, u3, ptr b4, u5, u6, u7, u8, u9, u10, u11, u12, u13, u14, u15, u16, u17, u18, u19, u20, u21, u22, u23, u24, u25, u26, u27, u28, u29, u30, u31, u32, u33, u34, u35, u36, u37, u38, u39, u40, u41, u42, u43, u44, u45, u46, u47, u48], []⟩ ∧ Hid (RF E X b4 S0 N tag W n w)
def jN (E : Env) (X b4 : Nat) (S0 : St) (N : Nat) (tag : Nat → Nat) (W : World) : Act → World → Prop := fun a w => ∃ (n : Nat) (u2 u3 u5 u6 u7 u8 u9 u10 u11 u12 u13 u14 u15 u16 u17 u18 u19 u20 u21 u22 u23 u24 u25 u26 u27 u28 u29 u30 u31 u32 u33 u34 u35 u36 u37 u38 u39 u40 u41 u42 u43 u44 u45 u46 u47 u48 : Value), a = ⟨#[ptr X, .int .i64 ((n : Nat)), u2, u3, ptr b4, u5, u6, u7, u8, u9, u10, u11, u12, u13, u14, u15, u16, u17, u18, u19, u20, u21, u22, u23, u24, u25, u26, u27, u28, u29, u30, u31, u32, u33, u34, u35, u36, u37, u38, u39, u40, u41, u42, u43, u44, u45, u46, u47, u48], []⟩ ∧ Hid (RP E X b4 S0 N tag W true n w)
def jP (E : Env) (X b4 : Nat) (S0 : St) (N : Nat) (tag : Nat → Nat) (W : World) : Act → World → Prop := fun a w => ∃ (n : Nat) (u2 u3 u5 u6 u7 u8 u9 u10 u11 u12 u13 u14 u15 u16 u17 u18 u19 u20 u21 u22 u23 u24 u25 u26 u27 u28 u29 u30 u31 u32 u33 u34 u35 u36 u37 u38 u39 u40 u41 u42 u43 u44 u45 u46 u47 u48 : Value), a = ⟨#[ptr X, .int .i64 ((n : Nat)), u2, u3, ptr b4, u5, u6, u7, u8, u9, u10, u11, u12, u13, u14, u15, u16, u17, u18, u19, u20, u21, u22, u23, u24, u25, u26, u27, u28, u29, u30, u31, u32, u33, u34, u35, u36, u37, u38, u39, u40, u41, u42, u43, u44, u45, u46, u47, u48], []⟩ ∧ Hid (RP E X b4 S0 N tag W false n w)
def muG (l : Nat) (a : Act) (_ : World) : Nat := if l = 0 then 0 else if l = 1 then 4 * (intOf (a.tmps.getD 1 undef)).toNat + 3 else 4 * (intOf (a.tmps.getD 1 undef)).toNat + 5
theorem RF.le {E : Env} {X b4 : Nat} {S0 : St} {N n : Nat} {tag : Nat → Nat} {W w : World} (h : RF E X b4 S0 N tag W n w) : n ≤ N := by
 obtain ⟨S, g, low, fr, t, m, -, -, -, -, -, -, hn, -⟩ := h
 omega
theorem cell15_zero (W : World) : ∃ W1, W.alloc (.cells #[.int .u8 0, .int .i64 0, .int .i64 0, .int .i64 0, .int .i64 0] 150) = W1 ∧ Fr [] W W1 ∧ W1.heap[W.heap.size]? = some (.cells #[.int .u8 0, .int .i64 0, .int .i64 0, .int .i64 0, .int .i64 0] 150) :=
 ⟨_, rfl, (Fr.refl [] W).alloc _, World.alloc_heap_new W _⟩
section
variable {E : Env} {X : Nat} {g : Pl} {S0 : St} {low : List Frm} {fr : Frm} {tag : Nat → Nat} {W : World} {N : Nat}
set_option maxRecDepth 100000 in
set_option maxHeartbeats 4000000 in
theorem go_any (hE : GoE E) (h : MM E X g (msOf S0 low fr) W tag) (hG : Mach.Good E S0) (hN : N ≤ 1000000) (hu : S0.used + N ≤ 4611686018427387904) (h0 : S0.st = 0 → S0.code = 0 ∧ Pr S0.frs ∧ S0.frs = low ++ [fr] ∧ hd S0.frs = some g.en) (hst9 : S0.st ≤ 9) :
    Calls Tryz.prog 34 #[ptr X, .int .i64 (N : Nat)] W (GoQ E X S0 N tag W) := by
  obtain ⟨W1, hW1, F1, k1⟩ := cell15_zero W
  obtain ⟨t1, M1, K1, hb1⟩ := MM.box h F1
  obtain ⟨b4, hb⟩ : ∃ b4, W.heap.size = b4 := ⟨_, rfl⟩
  rw [hb] at k1
  have hb4 : W.heap.size ≤ b4 := Nat.le_of_eq hb
  have x12 := M1.xst
  have x12' : W1.cell? ⟨X, 12, none⟩ = some (.int .i64 (S0.st : Nat)) := x12
  have HR : Hid (S0.st = 0 → RF E X b4 S0 N tag W N W1) := fun hst => by
    obtain ⟨q1, q2, q3, q4⟩ := h0 hst
    exact ⟨S0, g, low, fr, t1, 0, _, _, _, _, _, rfl, by omega, hst, q1, hG, q2, hu, q3, q4, M1, K1, hb1 b4 hb4, by rw [← hb]; exact h.six, k1⟩
  have HX : Hid (S0.st ≠ 0 → RE E X S0 N tag W (S0.st : Nat) W1) := fun hst => ⟨S0, g, _, t1, 0, rfl, Nat.zero_le _, hst, rfl, hG, M1, K1, rfl, rfl, rfl⟩
  generalize S0.st = st0 at *
  clear h M1 K1 hb1 k1 h0 x12 hG F1
  go_enter Tryz.func34, Tryz.ntmps34
  go_wp2_with fail
  refine wp_scope4 (jE E X b4 S0 N tag W) (jF E X b4 S0 N tag W) (jN E X b4 S0 N tag W) (jP E X b4 S0 N tag W) muG rfl rfl rfl rfl ?_ ?_ ?_ ?_ ?_
  · rcases Decidable.em (st0 = 0) with c | c
    · subst c
      have J : Hid (RF E X b4 S0 N tag W N W1) := HR.out rfl
      clear HR HX
      rcases N with _ | k
      · go_wp2_with fail
        go_step3
        go_wp2_with fail
        simp only [ExJ]
        refine bodyPost_ret (results_none rfl _ _ _) rfl ?_
        exact RF.stop J.out
      · go_wp2_with fail
        go_step3
        obtain ⟨u, g, s, hu, x15, z15, HC⟩ := RF.step hb4 J.out
        have hkN := RF.le J.out
        have HC1 : Hid _ := fun (_ : Unit) => HC
        have hwu : IntKind.i64.wrap ((u : Int) + 1) = ((u + 1 : Nat) : Int) := by rw [IntKind.wrap_i64]; omega
        have hwn : IntKind.i64.wrap (((k + 1 : Nat) : Int) - 1) = (k : Int) := by rw [IntKind.wrap_i64]; omega
        have hn0 : (((k + 1 : Nat) : Int) == 0) = false := by simp; omega
        have ec : ((u + 1 : Nat) : Int) = (u : Int) + 1 := by omega
        rw [ec] at HC1 hwu
        clear HC J ec
        go_wp2_with fail
        refine (HC1.out ()).mono ?_
        rintro e w2 ⟨rfl, HN⟩
        have HN1 : Hid _ := fun (_ : Unit) => HN
        clear HN HC1
        go_wp2_with fail
        refine (HN1.out ()).mono ?_
        rintro e w3 ⟨op, pl, a, b, q, v0, v1, v2, v3, v4, rfl, hb, JP, c0⟩
        obtain ⟨⟨y0, y1, y2, y3, y4⟩, zz⟩ := cells5F hb
        have z0 := zz 0
        have z1 := zz 1
        have z2 := zz 2
        have z3 := zz 3
        have z4 := zz 4
        obtain ⟨q1, q2, q3, q4⟩ := set5_cells hb (.int .u8 op) (.int .i64 pl) (.int .i64 a) (.int .i64 b)
        unfold set5W at JP c0
        obtain ⟨w4, hw4⟩ : ∃ w4, ((((w3.setCell ⟨b4, 0, none⟩ (.int .u8 op)).setCell ⟨b4, 1, none⟩ (.int .i64 pl)).setCell ⟨b4, 2, none⟩ (.int .i64 a)).setCell ⟨b4, 3, none⟩ (.int .i64 b)).setCell ⟨b4, 4, none⟩ (.int .i64 q) = w4 := ⟨_, rfl⟩
        rw [hw4] at JP c0
        clear zz hb HN1
        by_cases c52 : op = 52
        · subst c52
          have JP : RP E X b4 S0 (k + 1) tag W true k w4 := JP
          have HJ : Hid _ := JP
          clear JP
          go_wp2_with fail
          go_step3
          exact ⟨k, _, _, _, _, _, _, _, _, _, _, _, _, _, _, _, _, _, _, _, _, _, _, _, _, _, _, _, _, _, _, _, _, _, _, _, _, _, _, _, _, _, _, _, _, _, _, rfl, HJ⟩
        · have e52 : (op == 52) = false := by simp [c52]
          rw [show decide (op = 52) = false from decide_eq_false c52] at JP
          have HJ : Hid _ := JP
          clear JP
          go_wp2_with fail
          go_step3
          exact ⟨k, _, _, _, _, _, _, _, _, _, _, _, _, _, _, _, _, _, _, _, _, _, _, _, _, _, _, _, _, _, _, _, _, _, _, _, _, _, _, _, _, _, _, _, _, _, _, rfl, HJ⟩
    · have c1 : ((st0 : Int) != 0) = true := by simp; omega
      have HE : Hid _ := HX.out c
      clear HR HX
      go_wp2_with fail
      go_step3
      exact ⟨N, (st0 : Int), _, _, _, _, _, _, _, _, _, _, _, _, _, _, _, _, _, _, _, _, _, _, _, _, _, _, _, _, _, _, _, _, _, _, _, _, _, _, _, _, _, _, _, _, _, rfl, HE⟩
  · rintro a w ⟨n, st, u2, u3, u6, u7, u8, u9, u10, u11, u12, u13, u14, u15, u16, u17, u18, u19, u20, u21, u22, u23, u24, u25, u26, u27, u28, u29, u30, u31, u32, u33, u34, u35, u36, u37, u38, u39, u40, u41, u42, u43, u44, u45, u46, u47, u48, rfl, J⟩
    obtain ⟨D, gg, s, t, m, hp, hm, hne, rfl, hGD, M, K, q1, q2, q3⟩ := J.out
    obtain ⟨z12, ⟨u12, y12⟩, M2, K2⟩ := M.setSt D.st
    obtain ⟨w2, hw2⟩ : ∃ w2, w.setCell ⟨X, 12, none⟩ (.int .i64 (D.st : Nat)) = w2 := ⟨_, rfl⟩
    rw [hw2] at M2 K2
    have HF : Hid (GoQ E X S0 N tag W (.returned unit) w2) := by
      refine ⟨rfl, D, gg, _, t, ?_, hGD, M2, K.trans K2, q1, rfl, q2, q3, fun h0 => absurd h0 hne⟩
      have := hp.append (plays_ended E (N - m) hne)
      rwa [show m + (N - m) = N by omega] at this
    clear M M2 K K2 J HR HX hp hGD q1 q2 q3
    generalize (D.st : Int) = ds at *
    go_wp2_with fail
    refine bodyPost_end (results_none rfl _ _ _) rfl ?_
    exact HF.out
  · rintro a w ⟨n, u2, u3, u5, u6, u7, u8, u9, u10, u11, u12, u13, u14, u15, u16, u17, u18, u19, u20, u21, u22, u23, u24, u25, u26, u27, u28, u29, u30, u31, u32, u33, u34, u35, u36, u37, u38, u39, u40, u41, u42, u43, u44, u45, u46, u47, u48, rfl, J⟩
    clear HR HX
    rcases n with _ | k
    · go_wp2_with fail
      simp only [ExJ]
      refine bodyPost_ret (results_none rfl _ _ _) rfl ?_
      exact RF.stop J.out
    · skip
      obtain ⟨u, g, s, hu, x15, z15, HC⟩ := RF.step hb4 J.out
      have hkN := RF.le J.out
      have HC1 : Hid _ := fun (_ : Unit) => HC
      have hwu : IntKind.i64.wrap ((u : Int) + 1) = ((u + 1 : Nat) : Int) := by rw [IntKind.wrap_i64]; omega
      have hwn : IntKind.i64.wrap (((k + 1 : Nat) : Int) - 1) = (k : Int) := by rw [IntKind.wrap_i64]; omega
      have hn0 : (((k + 1 : Nat) : Int) == 0) = false := by simp; omega
      have ec : ((u + 1 : Nat) : Int) = (u : Int) + 1 := by omega
      rw [ec] at HC1 hwu
      clear HC J ec
      go_wp2_with fail
      refine (HC1.out ()).mono ?_
      rintro e w2 ⟨rfl, HN⟩
      have HN1 : Hid _ := fun (_ : Unit) => HN
      clear HN HC1
      go_wp2_with fail
      refine (HN1.out ()).mono ?_
      rintro e w3 ⟨op, pl, a, b, q, v0, v1, v2, v3, v4, rfl, hb, JP, c0⟩
      obtain ⟨⟨y0, y1, y2, y3, y4⟩, zz⟩ := cells5F hb
      have z0 := zz 0
      have z1 := zz 1
      have z2 := zz 2
      have z3 := zz 3
      have z4 := zz 4
      obtain ⟨q1, q2, q3, q4⟩ := set5_cells hb (.int .u8 op) (.int .i64 pl) (.int .i64 a) (.int .i64 b)
      unfold set5W at JP c0
      obtain ⟨w4, hw4⟩ : ∃ w4, ((((w3.setCell ⟨b4, 0, none⟩ (.int .u8 op)).setCell ⟨b4, 1, none⟩ (.int .i64 pl)).setCell ⟨b4, 2, none⟩ (.int .i64 a)).setCell ⟨b4, 3, none⟩ (.int .i64 b)).setCell ⟨b4, 4, none⟩ (.int .i64 q) = w4 := ⟨_, rfl⟩
      rw [hw4] at JP c0
      clear zz hb HN1
      by_cases c52 : op = 52
      · subst c52
        have JP : RP E X b4 S0 N tag W true k w4 := JP
        have HJ : Hid _ := JP
        clear JP
        go_wp2_with fail
        go_step3
        exact ⟨⟨k, _, _, _, _, _, _, _, _, _, _, _, _, _, _, _, _, _, _, _, _, _, _, _, _, _, _, _, _, _, _, _, _, _, _, _, _, _, _, _, _, _, _, _, _, _, _, rfl, HJ⟩, by simp [muG, intOf]; omega⟩
      · have e52 : (op == 52) = false := by simp [c52]
        rw [show decide (op = 52) = false from decide_eq_false c52] at JP
        have HJ : Hid _ := JP
        clear JP
        go_wp2_with fail
        go_step3
        exact ⟨⟨k, _, _, _, _, _, _, _, _, _, _, _, _, _, _, _, _, _, _, _, _, _, _, _, _, _, _, _, _, _, _, _, _, _, _, _, _, _, _, _, _, _, _, _, _, _, _, rfl, HJ⟩, by simp [muG, intOf]; omega⟩
  · rintro a w ⟨n, u2, u3, u5, u6, u7, u8, u9, u10, u11, u12, u13, u14, u15, u16, u17, u18, u19, u20, u21, u22, u23, u24, u25, u26, u27, u28, u29, u30, u31, u32, u33, u34, u35, u36, u37, u38, u39, u40, u41, u42, u43, u44, u45, u46, u47, u48, rfl, J⟩
    obtain ⟨en, hen, x10, H2, H3⟩ := RP.ends hE J.out
    clear HR HX J
    by_cases c : en = 2
    · subst c
      have HJ : Hid _ := H2 rfl
      clear H2 H3
      go_wp2_with fail
      go_step3
      exact ⟨⟨n, 1, _, _, _, _, _, _, _, _, _, _, _, _, _, _, _, _, _, _, _, _, _, _, _, _, _, _, _, _, _, _, _, _, _, _, _, _, _, _, _, _, _, _, _, _, _, rfl, HJ⟩, by simp [muG]⟩
    · have c1 : ((en : Int) == 2) = false := by simp; omega
      have HC : Hid _ := fun (_ : Unit) => H3 c
      clear H2 H3
      go_wp2_with fail
      refine (HC.out ()).mono ?_
      rintro e w2 ⟨rfl, J2⟩
      have HJ : Hid _ := J2
      clear J2 HC
      go_wp2_with fail
      go_step3
      exact ⟨⟨n, _, _, _, _, _, _, _, _, _, _, _, _, _, _, _, _, _, _, _, _, _, _, _, _, _, _, _, _, _, _, _, _, _, _, _, _, _, _, _, _, _, _, _, _, _, _, rfl, HJ⟩, by simp [muG, intOf]⟩
  · rintro a w ⟨n, u2, u3, u5, u6, u7, u8, u9, u10, u11, u12, u13, u14, u15, u16, u17, u18, u19, u20, u21, u22, u23, u24, u25, u26, u27, u28, u29, u30, u31, u32, u33, u34, u35, u36, u37, u38, u39, u40, u41, u42, u43, u44, u45, u46, u47, u48, rfl, J⟩
    obtain ⟨op, pl, a, b, q, ⟨y0, y1, y2, y3, y4⟩, HC⟩ := RP.play hE J.out
    have HC1 : Hid _ := fun (_ : Unit) => HC
    clear HR HX J HC
    go_wp2_with fail
    refine (HC1.out ()).mono ?_
    rintro e w2 ⟨st, rfl, J1, J2⟩
    clear HC1
    by_cases c : st = 0
    · subst c
      have HJ : Hid _ := J1 rfl
      clear J1 J2
      go_wp2_with fail
      go_step3
      exact ⟨⟨n, _, _, _, _, _, _, _, _, _, _, _, _, _, _, _, _, _, _, _, _, _, _, _, _, _, _, _, _, _, _, _, _, _, _, _, _, _, _, _, _, _, _, _, _, _, _, rfl, HJ⟩, by simp [muG, intOf]⟩
    · have c1 : (st != 0) = true := by simp [c]
      have HJ : Hid _ := J2 c
      clear J1 J2
      go_wp2_with fail
      go_step3
      exact ⟨⟨n, st, _, _, _, _, _, _, _, _, _, _, _, _, _, _, _, _, _, _, _, _, _, _, _, _, _, _, _, _, _, _, _, _, _, _, _, _, _, _, _, _, _, _, _, _, _, rfl, HJ⟩, by simp [muG]⟩
end
end Go.Proofs.YtmolfmgchbjnbaaGreatDoor
namespace Go.Proofs.YtmolfmgchbjnbaaGreatDoor
open Go.RowKit
open Wire Flow Mach
def stV (st : Nat) (code : Int) (out : ByteArray) (used : Nat) : Value := .agg #[.int .i64 (st : Nat), .int .i64 code, .string out, .int .i64 (used : Nat)]
def GM (Y X : Nat) (W : World) : Prop := W.cell? ⟨Y, 0, none⟩ = some (ptr X)
theorem GM.fr {Y X : Nat} {W W' : World} (h : GM Y X W) (F : Fr [] W W') : GM Y X W' := by
 have hlt : Y < W.heap.size := lt_of_cell h
 show W'.cell? _ = _
 rw [F.cell hlt (by simp)]
 exact h
theorem set4_block {w : World} {b : Nat} {u0 u1 u2 u3 : Value} {t : TypeId} (h : w.heap[b]? = some (.cells #[u0, u1, u2, u3] t)) (v0 v1 v2 v3 : Value) : ((((w.setCell ⟨b, 0, none⟩ v0).setCell ⟨b, 1, none⟩ v1).setCell ⟨b, 2, none⟩ v2).setCell ⟨b, 3, none⟩ v3).heap[b]? = some (.cells #[v0, v1, v2, v3] t) := by
 have hl := (Array.getElem?_eq_some_iff.1 h).1
 have hg := (Array.getElem?_eq_some_iff.1 h).2
 unfold World.setCell
 simp [hl, Array.getElem_modify, hg]
theorem cells4F {w : World} {b : Nat} {v0 v1 v2 v3 : Value} {t : TypeId} (h : w.heap[b]? = some (.cells #[v0, v1, v2, v3] t)) : (w.cell? ⟨b, 0, none⟩ = some v0 ∧ w.cell? ⟨b, 1, none⟩ = some v1 ∧ w.cell? ⟨b, 2, none⟩ = some v2 ∧ w.cell? ⟨b, 3, none⟩ = some v3) ∧ ∀ j, w.frozen? ⟨b, j, none⟩ = false := by
 refine ⟨⟨?_, ?_, ?_, ?_⟩, fun j => ?_⟩ <;> first | (unfold World.cell?; rw [h]; rfl) | (unfold World.frozen?; rw [h]; simp)
section
variable {E : Env} {X Y : Nat} {g : Pl} {s : Ms} {W W' : World} {tag : Nat → Nat}
set_option maxRecDepth 100000 in
set_option maxHeartbeats 2000000 in
theorem tell21 (h : MM E X g s W tag) :
  Calls Tryz.prog 35 #[ptr X] W fun e w => e = .returned (stV s.st s.code s.w.out s.used) ∧ Fr [] W w := by
 have F1 : Fr [] W (W.alloc (.cells #[.int .i64 0, .int .i64 0, .string ⟨#[]⟩, .int .i64 0] 26)) := (Fr.refl [] W).alloc _
 obtain ⟨t1, M1, -⟩ := h.fr F1
 have x12 := M1.xst
 have x13 := M1.xcode
 have x14 := M1.xout
 have x15 := M1.xused
 have HF : Hid _ := F1
 clear h M1 F1
 unfold stV
 generalize s.st = a at *
 generalize s.code = b at *
 generalize s.w.out = c at *
 generalize s.used = d at *
 go_enter Tryz.func35, Tryz.ntmps35
 go_wp2_with fail
 refine bodyPost_ret (results_cell_row rfl _ _ W.heap.size 26 #[.int .i64 (a : Nat), .int .i64 b, .string c, .int .i64 (d : Nat)] (0, 0) _ rfl (World.alloc_heap_new W _) Tryz.underlying26 rfl (by kernel_rfl)) rfl ?_
 exact ⟨rfl, (Fr.refl [] W).alloc _⟩
set_option maxRecDepth 100000 in
set_option maxHeartbeats 2000000 in
theorem tell11 (h : MM E X g s W tag) (hY : GM Y X W) :
  Calls Tryz.prog 22 #[ptr Y] W fun e w => e = .returned (stV s.st s.code s.w.out s.used) ∧ Fr [] W w := by
 have F1 : Fr [] W (W.alloc (.cells #[.int .i64 0, .int .i64 0, .string ⟨#[]⟩, .int .i64 0] 26)) := (Fr.refl [] W).alloc _
 obtain ⟨t1, M1, -⟩ := h.fr F1
 have y0 : _ = _ := hY.fr F1
 have HC : Hid _ := fun (_ : Unit) => tell21 M1
 have HF : Hid _ := F1
 have hk := World.alloc_heap_new W (.cells #[.int .i64 0, .int .i64 0, .string ⟨#[]⟩, .int .i64 0] 26)
 have hsz : W.heap.size < (W.alloc (.cells #[.int .i64 0, .int .i64 0, .string ⟨#[]⟩, .int .i64 0] 26)).heap.size := by simp
 generalize hW1 : W.alloc (.cells #[.int .i64 0, .int .i64 0, .string ⟨#[]⟩, .int .i64 0] 26) = W1 at *
 obtain ⟨B, hB⟩ : ∃ B, W.heap.size = B := ⟨_, rfl⟩
 rw [hB] at hk hsz
 clear h M1 F1 hY
 unfold stV at *
 generalize s.st = a at *
 generalize s.code = b at *
 generalize s.w.out = c at *
 generalize s.used = d at *
 go_enter Tryz.func22, Tryz.ntmps22
 go_wp2_with fail
 refine (HC.out ()).mono ?_
 rintro e W2 ⟨rfl, F2⟩
 have k2 := (F2.block B hsz (by simp)).trans hk
 obtain ⟨⟨c0, c1, c2, c3⟩, fz⟩ := cells4F k2
 have f0 := fz 0
 have f1 := fz 1
 have f2 := fz 2
 have f3 := fz 3
 have HB : Hid _ := set4_block k2
 have HF2 : Hid _ := HF.out.trans F2
 clear F2 hk k2 fz HC y0 hsz
 go_wp2_with fail
 refine bodyPost_ret (results_cell_row rfl _ _ B 26 #[.int .i64 (a : Nat), .int .i64 b, .string c, .int .i64 (d : Nat)] (0, 0) _ rfl (HB.out _ _ _ _) Tryz.underlying26 rfl (by kernel_rfl)) rfl ?_
 have hB' : W.heap.size ≤ B := Nat.le_of_eq hB
 exact ⟨rfl, (((HF2.out.setCell (.inr hB') _).setCell (.inr hB') _).setCell (.inr hB') _).setCell (.inr hB') _⟩
end
section
variable {E : Env} {X Y : Nat} {g : Pl} {S0 : St} {low : List Frm} {fr : Frm} {tag : Nat → Nat} {W : World} {N : Nat}
set_option maxRecDepth 100000 in
set_option maxHeartbeats 2000000 in
theorem go14_any (hE : GoE E) (h : MM E X g (msOf S0 low fr) W tag) (hY : GM Y X W) (hG : Mach.Good E S0) (hN : N ≤ 100000) (hu : S0.used + N ≤ 4611686018427387904) (h0 : S0.st = 0 → S0.code = 0 ∧ Pr S0.frs ∧ S0.frs = low ++ [fr] ∧ hd S0.frs = some g.en) (hst9 : S0.st ≤ 9) :
  Calls Tryz.prog 21 #[ptr Y, .int .i64 (N : Nat)] W fun e w => e = .returned (stI 0) ∧ GoQ E X S0 N tag W (.returned unit) w := by
 have HC : Hid _ := fun (_ : Unit) => go_any hE h hG (by omega) hu h0 hst9
 have y0 : _ = _ := hY
 have c0 : ¬ (N : Int) < 0 := by omega
 have c1 : ¬ 100000 < (N : Int) := by omega
 clear h hG hu h0 hY
 go_enter Tryz.func21, Tryz.ntmps21
 go_wp2_with fail
 refine (HC.out ()).mono ?_
 rintro e W2 ⟨rfl, hP⟩
 have HP : Hid _ := hP
 clear hP HC
 go_wp2_with fail
 go_ret
 exact ⟨rfl, rfl, HP.out⟩
end
end Go.Proofs.YtmolfmgchbjnbaaGreatDoor
