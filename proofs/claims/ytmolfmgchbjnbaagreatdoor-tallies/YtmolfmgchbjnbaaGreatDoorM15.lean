import Derived.Test.YtmolfmgchbjnbaaGreatDoorM14
set_option linter.unusedSimpArgs false
set_option linter.unusedVariables false
namespace Go.Proofs.YtmolfmgchbjnbaaGreatDoor.Ev
open Go
section
variable {P : Program} {G : Nat} {E : EE}
theorem Ext.drew {m m' : Mp} {h h' : AH} {w w1 w' : World} (e : Ext m m' h h' w1 w') (hh : w1.heap = w.heap) (h1 : w1.os = w.os) (h2 : w1.tape = w.tape) (h3 : w1.output = w.output) : Ext m m' h h' w w' :=
 ⟨e.le, e.nn, e.keep, fun r x hx => by
  rcases e.new r x hx with q | ⟨q, q2⟩
  ·exact .inl q
  ·exact .inr ⟨q, by rw [← hh]; exact q2⟩, e.tab, e.os.trans h1, e.tape.trans h2, e.output.trans h3, by rw [← hh]; exact e.size, fun q hq hn => by rw [← hh] at hq; rw [e.blk q hq hn, hh]⟩
theorem evDraw_ok (HE : EOk P G E) (hmix : P.follows .mixedOrders = true) {ops : Array Oper} {pl : Pln} (hp : plan ops = some pl) {a a' : AA} {h h' : AH} {e : Exit} (he : evDraw P G E ops a h pl = some (e, a', h')) : e = .normal ∧ ∀ (m : Mp) (w : World) (t : Array Value) (ds : List Deferred) (id : Nat) (Q : Exit → Act → World → Prop), Rel P G m h w → SlO m a t → (∀ m' w' t', Rel P G m' h' w' → Ext m m' h h' w w' → SlO m' a' t' → Q .normal ⟨t', ds⟩ w') → (Code.region id ops true).wp P Q ⟨t, ds⟩ w := by
 unfold plan planIf at hp
 cases hb : planOk ops (Region.before ops) (planOf ops (Region.before ops)) with
 | false => rw [hb] at hp; cases hp
 | true =>
  rw [hb] at hp
  simp only [cond_true, Option.some.injEq] at hp
  subst hp
  unfold planOk at hb
  simp only [Bool.and_eq_true] at hb
  obtain ⟨⟨⟨b1, b2⟩, b3⟩, b4⟩ := hb
  have F := regF_of b1
  generalize hs : (planOf ops (Region.before ops)).s = s at b2 b3 b4
  generalize hl : (planOf ops (Region.before ops)).l = l at b3 b4
  have htl : (planOf ops (Region.before ops)).t = (List.range ops.size).filter (isTail ops (Region.before ops)) := rfl
  have he' : evDraw P G E ops a h ⟨s, l, (planOf ops (Region.before ops)).t⟩ = some (e, a', h') := by rw [← hs, ← hl]; exact he
  generalize (planOf ops (Region.before ops)).t = tl at htl he'
  simp only [evDraw] at he'
  obtain ⟨⟨a2, h2⟩, r1, r2⟩ := bind_some he'
  simp only [nrm, Option.some.injEq, Prod.mk.injEq] at r2
  obtain ⟨rfl, rfl, rfl⟩ := r2
  obtain ⟨⟨a1, h1⟩, r3, r4⟩ := bind_some r1
  simp only [thenO] at r4
  refine ⟨rfl, fun m w t ds id Q R hsl hQ => ?_⟩
  have R0 : Rel P G m h { w with drawn := w.drawn + 1 } := R.heap rfl
  have I0 : IR P G ops (Region.before ops) h.n (fun _ => False) (fun _ => False) a a h m (fun _ => 0) := ⟨rfl, fun _ q => q.elim, fun _ q => q.elim, fun _ _ q => q.elim, fun _ q => q.elim, fun d _ => rfl, fun i d q => by rcases q with q | q <;> exact q.elim⟩
  obtain ⟨R1, E1, ⟨ρ, I1⟩, off1⟩ := IR.seg (E := E) F s [] I0 (Nat.le_refl _) R0 (fun _ q => q.elim) (fun _ q => q.elim) b2 r3
  have hn1 : a1.n = a.n := (idx_n s r3).1
  apply wp_region_any hmix
  have hTL : ∀ i, isTail ops (Region.before ops) i = true → ∃ p, putO (dstOf ops i) = some p ∧ ∀ d, dstOf ops i = some d → d < a.n := by
   intro i hi
   unfold evTail at r4
   obtain ⟨⟨a3, h3⟩, q1, q2⟩ := bind_some r4
   simp only [thenO] at q2
   obtain ⟨o, d, x, ho, -⟩ := tail_form hi
   obtain ⟨p, g1, g2⟩ := (idx_n tl q2).2 i (by rw [htl]; exact List.mem_filter.2 ⟨List.mem_range.2 (Array.getElem?_eq_some_iff.1 ho).1, hi⟩)
   exact ⟨p, g1, fun d hd => by rw [← hn1, ← segs_n l q1]; exact g2 d hd⟩
  refine draw_any (S := (m, h, { w with drawn := w.drawn + 1 })) (a0 := a) (Fn := (a2, h2)) (tl := tl) HE F ds htl hTL (fun m' w' t' q1 q2 q3 => hQ m' w' t' q1 (q2.drew rfl rfl rfl rfl) q3) ops.size _ (D := fun _ => False) (U := fun i => False ∨ i ∈ s) (aK := a1) (aD := a) (hK := h1) (m := m) (t := t) (ρ := ρ) (l := l) (dn := s.reverse) ?_ (fun i => ?_) (by simp) ?_
  ·refine ⟨E1, ⟨I1.n, I1.pend, I1.uni, I1.inj, I1.lim, fun d hd => I1.ref d fun i hi => hd i (by
     rcases hi with hi | hi
     ·exact .inl hi
     ·exact hi.elim), fun i d hi => I1.dfn i d (by
     rcases hi with hi | hi
     ·exact .inl hi
     ·exact hi.1.elim)⟩, R1, hsl, rfl, fun _ q => q.elim, fun _ _ q => q.elim, fun i _ q => q, fun _ _ q => q.elim, fun _ _ _ q => q.elim, fun d _ => rfl, fun i hi ht _ => ?_, fun q _ => ⟨fun z => z, fun _ _ z => z⟩, fun i hi => ?_, r4, b3⟩
   ·have := List.all_eq_true.1 b4 i (List.mem_range.2 hi)
    unfold allIn at this
    rw [ht, hs, hl] at this
    simp only [Bool.false_or, Bool.or_eq_true] at this
    rcases this with q | q
    ·exact .inl (.inr (by simpa using q))
    ·obtain ⟨z, z1, z2⟩ := List.any_eq_true.1 q
     simp only [Bool.or_eq_true] at z2
     refine .inr ⟨z, z1, ?_⟩
     rcases z2 with z2 | z2
     ·exact .inl (Nat.eq_of_beq_eq_true z2)
     ·exact .inr (by simpa using z2)
   ·rcases hi with hi | hi
    ·exact hi.elim
    ·exact List.mem_reverse.2 hi
  ·refine ⟨fun q => q.elim, fun q => ?_⟩
   rw [Array.getElem?_replicate] at q
   split at q <;> simp at q
  ·unfold cnt
   exact Nat.le_trans (List.length_filter_le _ _) (by simp)
def ScWp (P : Program) (body c : Code) (Q : Exit → Act → World → Prop) (a : Act) (w : World) : Prop := ∀ (b : Frame) (k : List Item) (cs : List Frame), ∃ e a' w', Q e a' w' ∧ Arrives P (lone (b.at a (.code c :: .inScope body :: k)) cs w) b k cs e a' w'
def LpWp (P : Program) (x : Code) (Q : Exit → Act → World → Prop) (a : Act) (w : World) : Prop := ∀ (b : Frame) (k : List Item) (cs : List Frame), ∃ e a' w', Q e a' w' ∧ Arrives P (lone (b.at a (.code x :: .inLoop x :: k)) cs w) b k cs e a' w'
theorem loop_of {x : Code} {Q : Exit → Act → World → Prop} {a : Act} {w : World} (h : LpWp P x Q a w) : (Code.loop x).wp P Q a w := fun b k cs => let ⟨e, a', w', q, r⟩ := h b k cs; ⟨e, a', w', q, .of_steps (.one step_loop) r⟩
theorem lp_of {x : Code} {Q : Exit → Act → World → Prop} {a : Act} {w : World} (h : x.wp P (Exit.then (LpWp P x Q) Q) a w) : LpWp P x Q a w := by
 intro b k cs
 obtain ⟨e, a₁, w₁, hq, harr⟩ := h b (.inLoop x :: k) cs
 cases e with
 | normal =>
  obtain ⟨e₂, a₂, w₂, hq₂, harr₂⟩ := hq b k cs
  exact ⟨e₂, a₂, w₂, hq₂, .of_steps (Steps.trans harr (.one step_inLoop)) harr₂⟩
 | exit id => exact ⟨_, a₁, w₁, hq, .pass (x := .inLoop x) rfl (fun _ _ => .inl (by simp)) harr⟩
 | goto l => exact ⟨_, a₁, w₁, hq, .pass (x := .inLoop x) rfl (fun _ _ => .inl (by simp)) harr⟩
 | ret => exact ⟨_, a₁, w₁, hq, .pass (x := .inLoop x) rfl (fun _ _ => .inl (by simp)) harr⟩
 | panic ch => exact ⟨_, a₁, w₁, hq, .pass (x := .inLoop x) rfl (fun _ _ => .inl (by simp)) harr⟩
 | outgrown => exact ⟨_, a₁, w₁, hq, .pass (x := .inLoop x) rfl (fun _ _ => .inl (by simp)) harr⟩
def inSc (P : Program) (body : Code) (Q : Exit → Act → World → Prop) : Exit → Act → World → Prop
  | .goto l, a, w => match findLabel body l with
    | some rest => ScWp P body rest Q a w
    | none => Q (.goto l) a w
  | e, a, w => Q e a w
theorem sc_of {body c : Code} {Q : Exit → Act → World → Prop} {a : Act} {w : World} (h : c.wp P (inSc P body Q) a w) : ScWp P body c Q a w := by
 intro b k cs
 obtain ⟨e, a₁, w₁, hq, harr⟩ := h b (.inScope body :: k) cs
 cases e with
 | normal => exact ⟨.normal, a₁, w₁, hq, Steps.trans harr (.one step_inScope)⟩
 | exit id => exact ⟨.exit id, a₁, w₁, hq, fun k' hk => harr k' (by simp [exitTo, hk])⟩
 | goto l =>
  cases hf : findLabel body l with
  | some rest =>
   simp only [inSc, hf] at hq
   obtain ⟨e₂, a₂, w₂, hq₂, harr₂⟩ := hq b k cs
   exact ⟨e₂, a₂, w₂, hq₂, .of_steps (harr _ (by simp [gotoIn, hf])) harr₂⟩
  | none =>
   simp only [inSc, hf] at hq
   exact ⟨.goto l, a₁, w₁, hq, fun k' hk => harr k' (by simp [gotoIn, hf, hk])⟩
 | ret => exact ⟨_, a₁, w₁, hq, harr⟩
 | panic ch => exact ⟨_, a₁, w₁, hq, harr⟩
 | outgrown => exact ⟨_, a₁, w₁, hq, harr⟩
theorem scope_of {x : Code} {Q : Exit → Act → World → Prop} {a : Act} {w : World} (h : ScWp P x x Q a w) : (Code.scope x).wp P Q a w := fun b k cs => let ⟨e, a', w', q, r⟩ := h b k cs; ⟨e, a', w', q, .of_steps (.one step_scope) r⟩
def CPost (P : Program) (G : Nat) (m : Mp) (h : AH) (w : World) (ds : List Deferred) (Q : Exit → Act → World → Prop) (e : Exit) (a' : AA) (h' : AH) : Prop := ∀ m' w' t', Rel P G m' h' w' → Ext m m' h h' w w' → SlO m' a' t' → Q e ⟨t', ds⟩ w'
theorem evC_ok (HE : EOk P G E) (hmix : P.follows .mixedOrders = true) (ds : List Deferred) : ∀ (n : Nat) (s : Option Code) (c : Code) (a a' : AA) (h h' : AH) (e : Exit), evC P G E n s c a h = some (e, a', h') → ∀ (m : Mp) (w : World) (t : Array Value) (Q : Exit → Act → World → Prop), Rel P G m h w → SlO m a t → CPost P G m h w ds Q e a' h' →
  (match s with
   | none => c.wp P Q ⟨t, ds⟩ w ∧ ∀ x, c = .loop x → LpWp P x Q ⟨t, ds⟩ w
   | some body => ScWp P body c Q ⟨t, ds⟩ w) := by
 intro n
 induction n with
 | zero => intro s c a a' h h' e he; cases he
 | succ n ih =>
  intro s c a a' h h' e he m w t Q R hs hQ
  change stepC P G E (evC P G E n) s c a h = some (e, a', h') at he
  -- behind a part
  have after : ∀ (y : Code) (e1 : Exit) (a1 : AA) (h1 : AH), aftSeq (evC P G E n) y (e1, a1, h1) = some (e, a', h') → ∀ K : Act → World → Prop, (∀ m1 w1 t1, Rel P G m1 h1 w1 → Ext m m1 h h1 w w1 → SlO m1 a1 t1 → (∀ Q', CPost P G m1 h1 w1 ds Q' e a' h' → y.wp P Q' ⟨t1, ds⟩ w1 ∧ ∀ x, y = .loop x → LpWp P x Q' ⟨t1, ds⟩ w1) → K ⟨t1, ds⟩ w1) → CPost P G m h w ds (Exit.then K Q) e1 a1 h1 := by
   intro y e1 a1 h1 hy K hKK m1 w1 t1 R1 E1 S1
   cases e1 with
   | normal =>
    simp only [aftSeq] at hy
    exact hKK m1 w1 t1 R1 E1 S1 fun Q' hq => ih none y a1 a' h1 h' e hy m1 w1 t1 Q' R1 S1 hq
   | exit id => simp only [aftSeq, Option.some.injEq, Prod.mk.injEq] at hy; obtain ⟨rfl, rfl, rfl⟩ := hy; exact hQ m1 w1 t1 R1 E1 S1
   | goto l => simp only [aftSeq, Option.some.injEq, Prod.mk.injEq] at hy; obtain ⟨rfl, rfl, rfl⟩ := hy; exact hQ m1 w1 t1 R1 E1 S1
   | ret => simp only [aftSeq, Option.some.injEq, Prod.mk.injEq] at hy; obtain ⟨rfl, rfl, rfl⟩ := hy; exact hQ m1 w1 t1 R1 E1 S1
   | panic ch => simp only [aftSeq, Option.some.injEq, Prod.mk.injEq] at hy; obtain ⟨rfl, rfl, rfl⟩ := hy; exact hQ m1 w1 t1 R1 E1 S1
   | outgrown => simp only [aftSeq, Option.some.injEq, Prod.mk.injEq] at hy; obtain ⟨rfl, rfl, rfl⟩ := hy; exact hQ m1 w1 t1 R1 E1 S1
  cases s with
  | some body =>
   simp only [stepC] at he
   obtain ⟨⟨e1, a1, h1⟩, r1, r2⟩ := bind_some he
   refine sc_of (ih none c a a1 h h1 e1 r1 m w t (inSc P body Q) R hs ?_).1
   intro m1 w1 t1 R1 E1 S1
   cases e1 with
   | goto l =>
    simp only [aftScope] at r2
    cases hf : findLabel body l with
    | some rest =>
     rw [hf] at r2
     simp only [aftGoto] at r2
     simp only [inSc, hf]
     exact ih (some body) rest a1 a' h1 h' e r2 m1 w1 t1 Q R1 S1 fun m2 w2 t2 R2 E2 S2 => hQ m2 w2 t2 R2 (E1.trans E2) S2
    | none =>
     rw [hf] at r2
     simp only [aftGoto, Option.some.injEq, Prod.mk.injEq] at r2
     obtain ⟨rfl, rfl, rfl⟩ := r2
     simp only [inSc, hf]
     exact hQ m1 w1 t1 R1 E1 S1
   | normal => simp only [aftScope, Option.some.injEq, Prod.mk.injEq] at r2; obtain ⟨rfl, rfl, rfl⟩ := r2; exact hQ m1 w1 t1 R1 E1 S1
   | exit id => simp only [aftScope, Option.some.injEq, Prod.mk.injEq] at r2; obtain ⟨rfl, rfl, rfl⟩ := r2; exact hQ m1 w1 t1 R1 E1 S1
   | ret => simp only [aftScope, Option.some.injEq, Prod.mk.injEq] at r2; obtain ⟨rfl, rfl, rfl⟩ := r2; exact hQ m1 w1 t1 R1 E1 S1
   | panic ch => simp only [aftScope, Option.some.injEq, Prod.mk.injEq] at r2; obtain ⟨rfl, rfl, rfl⟩ := r2; exact hQ m1 w1 t1 R1 E1 S1
   | outgrown => simp only [aftScope, Option.some.injEq, Prod.mk.injEq] at r2; obtain ⟨rfl, rfl, rfl⟩ := r2; exact hQ m1 w1 t1 R1 E1 S1
  | none =>
   simp only [stepC] at he
   have here : ∀ (a1 : AA) (h1 : AH) (e1 : Exit), some (e1, a, h) = some (e, a', h') → Q e1 ⟨t, ds⟩ w := by
    intro a1 h1 e1 q
    simp only [Option.some.injEq, Prod.mk.injEq] at q
    obtain ⟨rfl, rfl, rfl⟩ := q
    exact hQ m w t R (.refl m h w) hs
   cases c <;> simp only [stepC0] at he <;> try (cases he; done)
   case skip => exact ⟨wp_skip (here a h _ he), fun x q => by cases q⟩
   case label l => exact ⟨wp_label (here a h _ he), fun x q => by cases q⟩
   case exit id => exact ⟨wp_exit (here a h _ he), fun x q => by cases q⟩
   case goto l => exact ⟨wp_goto (here a h _ he), fun x q => by cases q⟩
   case ret => exact ⟨wp_ret (here a h _ he), fun x q => by cases q⟩
   case region id ops d =>
    refine ⟨?_, fun x q => by cases q⟩
    cases d with
    | false =>
     simp only [evReg] at he
     obtain ⟨⟨a1, h1⟩, r1, r2⟩ := bind_some he
     simp only [nrm, Option.some.injEq, Prod.mk.injEq] at r2
     obtain ⟨rfl, rfl, rfl⟩ := r2
     apply wp_region
     rw [List.range_eq_range']
     have := evOps_ok HE (Q := Q) ds ops.toList 0 a a1 h h1 r1 (by simp) m w t R hs hQ
     simpa using this
    | true =>
     simp only [evReg] at he
     obtain ⟨pl, hp, r1⟩ := bind_some he
     obtain ⟨rfl, hd⟩ := evDraw_ok HE hmix hp r1
     exact hd m w t ds id Q R hs hQ
   case seq x y =>
    refine ⟨?_, fun x q => by cases q⟩
    obtain ⟨⟨e1, a1, h1⟩, r1, r2⟩ := bind_some he
    refine wp_seq (ih none x a a1 h h1 e1 r1 m w t _ R hs ?_).1
    exact after y e1 a1 h1 r2 _ fun m1 w1 t1 R1 E1 S1 hk => (hk Q fun m2 w2 t2 R2 E2 S2 => hQ m2 w2 t2 R2 (E1.trans E2) S2).1
   case cond q x y =>
    refine ⟨?_, fun x q => by cases q⟩
    obtain ⟨f, hf, r1⟩ := bind_some he
    obtain ⟨v, hv, r2⟩ := bind_some r1
    have hv' := opnd_ok R hf hs hv ds
    unfold onCond at r2
    split at r2
    ·exact wp_cond hv'.bool (ih none x a a' h h' e r2 m w t Q R hs hQ).1
    ·exact wp_cond hv'.bool (ih none y a a' h h' e r2 m w t Q R hs hQ).1
    ·cases r2
   case block id x =>
    refine ⟨?_, fun x q => by cases q⟩
    obtain ⟨⟨e1, a1, h1⟩, r1, r2⟩ := bind_some he
    refine wp_block (ih none x a a1 h h1 e1 r1 m w t _ R hs ?_).1
    intro m1 w1 t1 R1 E1 S1
    cases e1 with
    | exit i =>
     simp only [aftBlock, Option.some.injEq, Prod.mk.injEq] at r2
     obtain ⟨r3, rfl, rfl⟩ := r2
     have := hQ m1 w1 t1 R1 E1 S1
     rw [← r3] at this
     simp only [Exit.inBlock]
     by_cases hi : i = id
     ·subst hi
      simpa using this
     ·rw [if_neg hi]
      have hb : Nat.beq i id = false := by
       cases hq : Nat.beq i id with
       | false => rfl
       | true => exact absurd (Nat.eq_of_beq_eq_true hq) hi
      rw [hb] at this
      exact this
    | normal => simp only [aftBlock, Option.some.injEq, Prod.mk.injEq] at r2; obtain ⟨rfl, rfl, rfl⟩ := r2; exact hQ m1 w1 t1 R1 E1 S1
    | goto l => simp only [aftBlock, Option.some.injEq, Prod.mk.injEq] at r2; obtain ⟨rfl, rfl, rfl⟩ := r2; exact hQ m1 w1 t1 R1 E1 S1
    | ret => simp only [aftBlock, Option.some.injEq, Prod.mk.injEq] at r2; obtain ⟨rfl, rfl, rfl⟩ := r2; exact hQ m1 w1 t1 R1 E1 S1
    | panic ch => simp only [aftBlock, Option.some.injEq, Prod.mk.injEq] at r2; obtain ⟨rfl, rfl, rfl⟩ := r2; exact hQ m1 w1 t1 R1 E1 S1
    | outgrown => simp only [aftBlock, Option.some.injEq, Prod.mk.injEq] at r2; obtain ⟨rfl, rfl, rfl⟩ := r2; exact hQ m1 w1 t1 R1 E1 S1
   case loop x =>
    obtain ⟨⟨e1, a1, h1⟩, r1, r2⟩ := bind_some he
    have hlp : LpWp P x Q ⟨t, ds⟩ w := by
     refine lp_of (ih none x a a1 h h1 e1 r1 m w t _ R hs ?_).1
     exact after (.loop x) e1 a1 h1 r2 _ fun m1 w1 t1 R1 E1 S1 hk => (hk Q fun m2 w2 t2 R2 E2 S2 => hQ m2 w2 t2 R2 (E1.trans E2) S2).2 x rfl
    exact ⟨loop_of hlp, fun y q => by cases q; exact hlp⟩
   case scope x => exact ⟨scope_of (ih (some x) x a a' h h' e he m w t Q R hs hQ), fun x q => by cases q⟩
end
section
variable {P : Program} {G : Nat} {E : EE}
def resS (t : Array Value) : ResultVar → Sem Value
 | .tmp k => pure (t.getD k undef)
 | .cell k ty => do loadVar ty (← asAddr (t.getD k undef))
theorem results_eq (fn : Func) (t : Array Value) : results fn t = (do
  let vs ← fn.results.mapM (resS t)
  pure (if h : vs.size = 1 then vs[0] else .tuple vs)) := by
 unfold results
 congr
theorem res_ok {m : Mp} {h : AH} {w : World} (R : Rel P G m h w) {a : AA} {t : Array Value} (hs : SlO m a t) : ∀ (l : List ResultVar) (fs : List Rd) (vs : List Value), allSome (resF P) l = some fs → allSome (resV a h) fs = some vs → ∃ vs', (l.mapM (resS t)).run P w = .ok vs' w ∧ L2 (S3 m) vs vs'
  | [], fs, vs, h1, h2 => by
    simp only [allSome, Option.some.injEq] at h1
    subst h1
    simp only [allSome, Option.some.injEq] at h2
    subst h2
    exact ⟨[], by simp, .nil⟩
  | x :: l, fs, vs, h1, h2 => by
    simp only [allSome] at h1
    obtain ⟨f, k1, h3⟩ := bind_some h1
    obtain ⟨fr, k2, h4⟩ := bind_some h3
    simp only [Option.some.injEq] at h4
    subst h4
    simp only [allSome] at h2
    obtain ⟨v, k3, h5⟩ := bind_some h2
    obtain ⟨vr, k4, h6⟩ := bind_some h5
    simp only [Option.some.injEq] at h6
    subst h6
    obtain ⟨vs', r1, r2⟩ := res_ok R hs l fr vr k2 k4
    have hx : ∃ v', (resS t x).run P w = .ok v' w ∧ S3 m v v' := by
      cases x with
      | tmp k =>
        simp only [resF] at k1
        obtain ⟨g, hg, rfl⟩ := map_some k1
        have k3' : g a = some v := k3
        rw [AA.get_form hg] at k3'
        exact ⟨_, rfl, hs.val k v k3'⟩
      | cell k ty =>
        simp only [resF] at k1
        obtain ⟨g, hg, rfl⟩ := map_some k1
        have k3' : (g a).bind (rLoad P h ty) = some v := k3
        obtain ⟨p, hp, hl⟩ := bind_some k3'
        rw [AA.get_form hg] at hp
        have hpp := hs.val k p hp
        obtain ⟨v', z1, z2⟩ := load_ok R hpp hl
        have hptr : ∃ q, p = .pointer (some q) := by
          unfold rLoad at hl
          split at hl
          · exact ⟨_, rfl⟩
          · cases hl
        obtain ⟨q, rfl⟩ := hptr
        obtain ⟨q', e, -⟩ := hpp.ptr
        refine ⟨v', ?_, z2⟩
        rw [e] at z1
        simp only [resS, e]
        simpa [asAddr, Instr.loadAt, Instr.sureAddr] using z1
    obtain ⟨v', z1, z2⟩ := hx
    exact ⟨v' :: vs', by simp [List.mapM_cons, z1, r1], .cons z2 r2⟩
theorem results_ok {m : Mp} {h : AH} {w : World} (R : Rel P G m h w) {a : AA} {t : Array Value} (hs : SlO m a t) {fn : Func} {r : Value × AH} (hr : resultsA P fn a h = some r) : r.2 = h ∧ ∃ v', (results fn t).run P w = .ok v' w ∧ S3 m r.1 v' := by
 unfold resultsA at hr
 obtain ⟨fs, h1, h2⟩ := bind_some hr
 obtain ⟨v, h3, h4⟩ := bind_some h2
 obtain ⟨vs, h5, h6⟩ := bind_some h3
 simp only [same, Option.some.injEq] at h4
 subst h4
 obtain ⟨vs', r1, r2⟩ := res_ok R hs fn.results.toList fs vs h1 h5
 have hrun : (fn.results.mapM (resS t)).run P w = .ok vs'.toArray w := by
  rw [Array.mapM_eq_mapM_toList]
  simp [r1]
 refine ⟨rfl, if hh : vs'.toArray.size = 1 then vs'.toArray[0] else .tuple vs'.toArray, ?_, ?_⟩
 ·rw [results_eq]
  simp only [Sem.run_bind, hrun, Result.andThen]
  rfl
 ·unfold tup at h6
  split at h6
  ·rename_i v0
   cases h6
   obtain ⟨y, q, e, hy, hq⟩ := r2.cons_left
   rw [hq.nil_left] at e
   subst e
   simpa using hy
  ·rename_i l0 hne
   cases hb : vs.all one2 with
   | false => rw [hb] at h6; cases h6
   | true =>
    rw [hb] at h6
    simp only [cond_true, Option.some.injEq] at h6
    subst h6
    have hn : ¬ (vs'.toArray.size = 1) := by
     intro q
     have hl : vs.length = 1 := by rw [r2.1]; simpa using q
     match vs, hl with
     | [v0], _ => exact hne v0 rfl
    rw [dif_neg hn]
    refine .inr ⟨_, _, rfl, rfl, ?_⟩
    simp only [List.toList_toArray]
    exact ⟨r2.1, fun i x y hx hy => (r2.2 i x y hx hy).s2 (List.all_eq_true.1 hb x (List.mem_of_getElem? hx))⟩
theorem evF_ok (hmix : P.follows .mixedOrders = true) (M : Nat) {X : FuncId → List Value → AH → Option (Option (Value × AH))} (HX : ∀ f args h r, X f args h = some (some r) → (∃ fn, entered P f = some fn) ∧ ∀ m w args', Rel P G m h w → L2 (S3 m) args args'.toList → Calls P f args' w fun
  | .returned v', w' => Wrote P G m h w r v' w'
  | _, _ => False) : ∀ n, EOk P G (evF P G M X n) := by
 intro n
 induction n with
 | zero => intro f args h r hr; cases hr
 | succ n ih =>
  intro f args h r hr
  change stepF P G M X (evF P G M X n) f args h = some r at hr
  unfold stepF at hr
  cases hx : X f args h with
  | some q =>
   rw [hx] at hr
   simp only [stepX] at hr
   subst hr
   exact HX f args h r hx
  | none =>
   rw [hx] at hr
   simp only [stepX] at hr
   obtain ⟨fn, hen, hr1⟩ := bind_some hr
   refine ⟨⟨fn, hen⟩, fun m w args' R ha => ?_⟩
   obtain ⟨hf, -, c, hb⟩ := entered_ok hen
   unfold runF at hr1
   rw [hb] at hr1
   simp only [Option.bind_some] at hr1
   unfold runC at hr1
   obtain ⟨a, hpa, hr2⟩ := bind_some hr1
   obtain ⟨⟨e, a', h'⟩, hc, hr3⟩ := bind_some hr2
   obtain ⟨p1, p2, p3⟩ := putAll_ok _ _ _ _ hpa
   have hla : args.length = args'.size := by rw [ha.1]; simp
   have hs : SlO m a (args' ++ Array.replicate (fn.ntmps - args'.size) undef) := by
    refine ⟨?_, fun i v hv => ?_⟩
    ·rw [p1]
     show max args.length fn.ntmps = _
     simp
     omega
    ·rw [p3 i, AA.nil_get] at hv
     split at hv
     ·rename_i hi
      simp only [Nat.sub_zero] at hv
      obtain ⟨y, hy, s⟩ := ha.at hv
      have hlt : i < args'.size := by rw [← hla]; omega
      have hy' : args'[i]? = some y := by simpa using hy
      have : (args' ++ Array.replicate (fn.ntmps - args'.size) undef).getD i undef = y := by
       rw [Array.getD_eq_getD_getElem?, Array.getElem?_append_left hlt, hy']
       rfl
      rw [this]
      exact s
     ·cases hv
   refine calls_of_wp hf hb ?_
   refine (evC_ok ih hmix [] M none c a a' h h' e hc m w _ _ R hs ?_).1
   intro m' w' t' R' E' S'
   have fin : resultsA P fn a' h' = some r → ∃ v, (results fn t').run P w' = .ok v w' ∧ Wrote P G m h w r v w' := by
    intro hres
    obtain ⟨e1, v', z1, z2⟩ := results_ok R' S' hres
    exact ⟨v', z1, m', by rw [e1]; exact R', by rw [e1]; exact E', z2⟩
   unfold aftBody at hr3
   split at hr3
   ·rename_i heq
    cases heq
    obtain ⟨v, q1, q2⟩ := fin hr3
    exact ⟨rfl, v, q1, q2⟩
   ·rename_i heq
    cases heq
    obtain ⟨v, q1, q2⟩ := fin hr3
    exact ⟨rfl, v, q1, q2⟩
   ·cases hr3
end
def plainV : Value → Bool
 | .bool _ => true
 | .int _ _ => true
 | .string _ => true
 | _ => false
theorem S0.plain {m : Mp} {v v' : Value} (hv : plainV v = true) (h : S0 m v v') : v' = v := by
 cases v <;> simp only [plainV, Bool.false_eq_true] at hv <;> cases v' <;> simp only [S0] at h
 ·rw [h]
 ·rw [h.1, h.2]
 ·rw [h]
theorem S2.plain {m : Mp} {v v' : Value} (hv : plainV v = true) (h : S2 m v v') : v' = v := by
 rcases h with (h | ⟨f, x, y, x', y', rfl, -, -⟩) | ⟨c, c', rfl, -, -⟩
 ·exact h.plain hv
 ·cases hv
 ·cases hv
theorem S3.plains {m : Mp} {l : List Value} {v' : Value} (hl : l.all plainV = true) (h : S3 m (.tuple l.toArray) v') : v' = .tuple l.toArray := by
 rcases h with ((h | ⟨f, x, y, x', y', e, -, -⟩) | ⟨c, c', e, -, -⟩) | ⟨c, c', e, rfl, h⟩
 ·cases v' <;> simp only [S0] at h
 ·cases e
 ·cases e
 ·cases e
  congr 1
  apply Array.ext'
  simp only [List.toList_toArray] at h ⊢
  apply List.ext_getElem?
  intro i
  cases hx : l[i]? with
  | none => rw [List.getElem?_eq_none_iff] at hx ⊢; rw [← h.1]; exact hx
  | some x =>
   obtain ⟨y, hy, s⟩ := h.at hx
   rw [hy, s.plain (List.all_eq_true.1 hl x (List.mem_of_getElem? hx))]
def TabS (ss : List ByteArray) (w : World) : Prop := ∃ B o c, w.cell? ⟨1, 0, none⟩ = some (.slice (some ⟨B, o, none⟩) ss.length c) ∧ ss.length ≤ c ∧ 0 < ss.length ∧ 2 ≤ B ∧ B < w.heap.size ∧ ∀ i s, ss[i]? = some s → w.cell? ⟨B, i + o, none⟩ = some (.string s)
def tb (l : List Value) : AO := ⟨3, l, 0, []⟩
def hs0 (ss : List ByteArray) : AH := AH.set 0 (tb []) (AH.set 1 (tb [.slice (some ⟨2, 0, none⟩) ss.length ss.length]) (AH.set 2 (tb (ss.map .string)) (AH.nil 3)))
def ms0 (B o N : Nat) : Mp := fun r => if r = 0 then some (some ⟨0, 0, 0, 0⟩) else if r = 1 then some (some ⟨1, 0, 0, 0⟩) else if r = 2 then some (some ⟨B, o, N, 1⟩) else none
theorem nil_get (n q : Nat) : (AH.nil n).get q = none := by
 simp only [AH.nil, AH.get]
 unfold AH.got
 split
 ·rename_i f hf
  obtain ⟨f1, k1, h1, h2, rfl⟩ := sel3_form hf
  show k1 (f1 _) = none
  rw [sel_all h1, sel2_all h2]
 ·rfl
theorem hs0_get (ss : List ByteArray) (q : Nat) : (hs0 ss).get q = if q = 0 then some (tb []) else if q = 1 then some (tb [.slice (some ⟨2, 0, none⟩) ss.length ss.length]) else if q = 2 then some (tb (ss.map .string)) else none := by
 unfold hs0
 rw [AH.get_set (by decide), AH.get_set (by decide), AH.get_set (by decide), nil_get]
theorem rel0 {P : Program} {ss : List ByteArray} {w : World} {B o c : Nat} (h1 : w.cell? ⟨1, 0, none⟩ = some (.slice (some ⟨B, o, none⟩) ss.length c)) (h2 : ss.length ≤ c) (h3 : 0 < ss.length) (h4 : 2 ≤ B) (h5 : B < w.heap.size) (h6 : ∀ i s, ss[i]? = some s → w.cell? ⟨B, i + o, none⟩ = some (.string s)) : Rel P 2 (ms0 B o (o + c)) (hs0 ss) w := by
 have hn : (hs0 ss).n = 3 := by simp only [hs0, AH.set_n]; rfl
 refine ⟨by rw [hn]; omega, fun r x e => ?_, fun r e => ?_, fun r r' x x' e e' eb => ?_, fun g hg => ?_, fun r hr => ?_⟩
 ·rw [hn, hs0_get]
  simp only [ms0] at e
  split at e
  ·rename_i q
   subst q
   cases e
   exact ⟨by omega, by show 0 < _; omega, tb [], rfl, .inr (.inr ⟨rfl, fun i v hv => by simp [tb] at hv⟩)⟩
  split at e
  ·rename_i q
   subst q
   cases e
   refine ⟨by omega, by show 1 < _; omega, _, rfl, .inr (.inr ⟨rfl, fun i v hv => ?_⟩)⟩
   cases i with
   | succ i => simp [tb] at hv
   | zero =>
    simp only [tb, List.getElem?_cons_zero, Option.some.injEq] at hv
    subst hv
    exact ⟨_, h1, .inl ⟨rfl, h2, fun q => by omega, rfl, rfl, .inr ⟨⟨B, o, o + c, 1⟩, rfl, rfl, by simp, by simp⟩⟩⟩
  split at e
  ·rename_i q
   subst q
   cases e
   refine ⟨by omega, h5, _, rfl, .inr (.inr ⟨rfl, fun i v hv => ?_⟩)⟩
   simp only [tb, List.getElem?_map] at hv
   cases hx : ss[i]? with
   | none => rw [hx] at hv; cases hv
   | some s =>
    rw [hx] at hv
    cases hv
    exact ⟨_, h6 i s hx, .inl rfl⟩
  ·cases e
 ·simp only [ms0] at e
  split at e
  ·cases e
  split at e
  ·cases e
  split at e
  ·cases e
  ·cases e
 ·simp only [ms0] at e e'
  split at e
  ·cases e
   split at e'
   ·omega
   split at e'
   ·cases e'; cases eb
   split at e'
   ·cases e'; simp at eb; omega
   ·cases e'
  split at e
  ·cases e
   split at e'
   ·cases e'; cases eb
   split at e'
   ·omega
   split at e'
   ·cases e'; simp at eb; omega
   ·cases e'
  split at e
  ·cases e
   split at e'
   ·cases e'; simp at eb; omega
   split at e'
   ·cases e'; simp at eb; omega
   split at e'
   ·omega
   ·cases e'
  ·cases e
 ·rcases (show g = 0 ∨ g = 1 by omega) with rfl | rfl
  ·exact ⟨⟨0, 0, 0, 0⟩, rfl, rfl, rfl⟩
  ·exact ⟨⟨1, 0, 0, 0⟩, rfl, rfl, rfl⟩
 ·rw [hn] at hr
  rw [hs0_get, if_neg (by omega), if_neg (by omega), if_neg (by omega)]
structure Kept (w w' : World) : Prop where
 os : w'.os = w.os
 tape : w'.tape = w.tape
 output : w'.output = w.output
 size : w.heap.size ≤ w'.heap.size
 blk : ∀ b, b < w.heap.size → w'.heap[b]? = w.heap[b]?
theorem kept0 {ss : List ByteArray} {w w' : World} {B o N : Nat} {m' : Mp} {h' : AH} (E : Ext (ms0 B o N) m' (hs0 ss) h' w w') : Kept w w' := by
 refine ⟨E.os, E.tape, E.output, E.size, fun b hb => E.blk b hb fun r x e _ => ?_⟩
 rw [hs0_get]
 simp only [ms0] at e
 split at e
 ·rename_i q; rw [if_pos q]; exact ⟨_, rfl, rfl⟩
 split at e
 ·rename_i q' q; rw [if_neg q', if_pos q]; exact ⟨_, rfl, rfl⟩
 split at e
 ·rename_i q1 q2 q; rw [if_neg q1, if_neg q2, if_pos q]; exact ⟨_, rfl, rfl⟩
 ·cases e
theorem noX_ok {P : Program} : ∀ f args h r, noX f args h = some (some r) → (∃ fn, entered P f = some fn) ∧ ∀ m w args', Rel P 2 m h w → L2 (S3 m) args args'.toList → Calls P f args' w fun
  | .returned v', w' => Wrote P 2 m h w r v' w'
  | _, _ => False := fun f args h r e => by cases e
theorem plains_s3 {m : Mp} : ∀ {l : List Value}, l.all plainV = true → L2 (S3 m) l l
  | [], _ => .nil
  | v :: l, h => by
    simp only [List.all_cons, Bool.and_eq_true] at h
    refine .cons ?_ (plains_s3 h.2)
    have h1 := h.1
    cases v <;> first | exact S0.s3 (s0_bool _) | exact S0.s3 (s0_int _ _) | exact S0.s3 (s0_str _) | cases h1
theorem closedN {P : Program} (hmix : P.follows .mixedOrders = true) {ss : List ByteArray} {w : World} (ht : TabS ss w) {M n : Nat} {f : FuncId} {args : List Value} (ha : args.all plainV = true) {l : List Value} (hl : l.all plainV = true) (hr : (evF P 2 M noX n f args (hs0 ss)).map (·.1) = some (.tuple l.toArray)) : Calls P f args.toArray w fun e w' => e = .returned (.tuple l.toArray) ∧ Kept w w' := by
 obtain ⟨B, o, c, h1, h2, h3, h4, h5, h6⟩ := ht
 cases he : evF P 2 M noX n f args (hs0 ss) with
 | none => rw [he] at hr; cases hr
 | some r =>
  rw [he] at hr
  simp only [Option.map_some, Option.some.injEq] at hr
  have := (evF_ok hmix M noX_ok n f args (hs0 ss) r he).2 _ w args.toArray (rel0 h1 h2 h3 h4 h5 h6) (by simpa using plains_s3 ha)
  refine this.mono fun e w' hh => ?_
  cases e with
  | returned v' =>
   obtain ⟨m', R', E', S'⟩ := hh
   rw [hr] at S'
   exact ⟨by rw [S'.plains hl], kept0 E'⟩
  | _ => exact hh.elim
def intIs (n : Nat) : Value → Bool
 | .int .i64 (.ofNat k) => Nat.beq k n
 | _ => false
def strIs (l : List UInt8) : Value → Bool
 | .string s => lbeq s.data.toList l
 | _ => false
def threeL (l : List UInt8) (a b : Nat) : List Value → Bool
 | [x, y, z] => strIs l x && intIs a y && intIs b z
 | _ => false
def threeV (l : List UInt8) (a b : Nat) : Value → Bool
 | .tuple vs => threeL l a b vs.toList
 | _ => false
def threeR (l : List UInt8) (a b : Nat) : Option (Value × AH) → Bool
 | some (v, _) => threeV l a b v
 | none => false
theorem intIs_ok {n : Nat} {v : Value} (h : intIs n v = true) : v = .int .i64 (n : Int) := by
 unfold intIs at h
 split at h
 ·rw [Nat.eq_of_beq_eq_true h]; rfl
 ·cases h
theorem strIs_ok {l : List UInt8} {v : Value} (h : strIs l v = true) : v = .string ⟨l.toArray⟩ := by
 unfold strIs at h
 split at h
 ·rename_i s
  rw [lbeq_eq] at h
  have e := h
  congr 1
  apply WideShapes.bytes_inj
  simpa using e
 ·cases h
theorem three_ok {l : List UInt8} {a b : Nat} {r : Option (Value × AH)} (h : threeR l a b r = true) : r.map (·.1) = some (.tuple [.string ⟨l.toArray⟩, .int .i64 (a : Int), .int .i64 (b : Int)].toArray) := by
 unfold threeR at h
 split at h
 ·rename_i v q
  unfold threeV at h
  split at h
  ·rename_i vs
   unfold threeL at h
   split at h
   ·rename_i x y z e
    simp only [Bool.and_eq_true] at h
    obtain ⟨⟨h1, h2⟩, h3⟩ := h
    rw [strIs_ok h1, intIs_ok h2, intIs_ok h3] at e
    simp only [Option.map_some, Option.some.injEq]
    congr 1
    exact Array.ext' (by rw [e])
   ·cases h
  ·cases h
 ·cases h
theorem closed3 {P : Program} (hmix : P.follows .mixedOrders = true) {ss : List ByteArray} {w : World} (ht : TabS ss w) {M n : Nat} {f : FuncId} {args : List Value} (ha : args.all plainV = true) {l : List UInt8} {a b : Nat} (hr : threeR l a b (evF P 2 M noX n f args (hs0 ss)) = true) : Calls P f args.toArray w fun e w' => e = .returned (.tuple #[.string ⟨l.toArray⟩, .int .i64 (a : Int), .int .i64 (b : Int)]) ∧ Kept w w' :=
 closedN hmix ht ha rfl (three_ok hr)
theorem Rel.grow {P : Program} {G : Nat} {m : Mp} {h : AH} {w w' : World} (R : Rel P G m h w) (K : Kept w w') : Rel P G m h w' ∧ Ext m m h h w w' := by
 refine ⟨⟨R.lim, fun r x e => ?_, R.dead, R.inj, R.glo, R.top⟩, ⟨.refl m, Nat.le_refl _, fun r _ e => ⟨e, rfl⟩, fun r x e => .inl e, fun _ _ q _ => q, K.os, K.tape, K.output, K.size, fun b hb _ => K.blk b hb⟩⟩
 obtain ⟨h1, h2, o, h3, h4⟩ := R.row r x e
 exact ⟨h1, Nat.lt_of_lt_of_le h2 K.size, o, h3, h4.mono (.refl m) (K.blk x.b h2)⟩
def cloneV (h : AH) : List Value → Option (Option (Value × AH))
 | [.string s] => cond (Nat.ble s.data.toList.length 4096) (some (some (.string s, h))) none
 | _ => none
def cloneX (k : FuncId) (f : FuncId) (args : List Value) (h : AH) : Option (Option (Value × AH)) := cond (Nat.beq f k) (cloneV h args) none
theorem cloneX_ok {P : Program} {G : Nat} {k : FuncId} (he : ∃ fn, entered P k = some fn) (hc : ∀ (s : ByteArray) (w : World), s.size ≤ 4096 → Calls P k #[.string s] w fun e w' => e = .returned (.string s) ∧ Kept w w') :
  ∀ f args h r, cloneX k f args h = some (some r) → (∃ fn, entered P f = some fn) ∧ ∀ m w args', Rel P G m h w → L2 (S3 m) args args'.toList → Calls P f args' w fun
  | .returned v', w' => Wrote P G m h w r v' w'
  | _, _ => False := by
 intro f args h r hr
 unfold cloneX at hr
 cases hb : Nat.beq f k with
 | false => rw [hb] at hr; cases hr
 | true =>
  rw [hb] at hr
  simp only [cond_true] at hr
  have hf := Nat.eq_of_beq_eq_true hb
  subst hf
  refine ⟨he, fun m w args' R ha => ?_⟩
  unfold cloneV at hr
  split at hr
  ·rename_i s
   cases hl : Nat.ble s.data.toList.length 4096 with
   | false => rw [hl] at hr; cases hr
   | true =>
    rw [hl] at hr
    simp only [cond_true, Option.some.injEq] at hr
    subst hr
    obtain ⟨y, q, e, hy, hq⟩ := ha.cons_left
    rw [hq.nil_left] at e
    obtain rfl := hy.string
    obtain rfl : args' = #[.string s] := Array.ext' e
    refine (hc s w (Nat.le_of_ble_eq_true hl)).mono fun e' w' ⟨he', K⟩ => ?_
    subst he'
    obtain ⟨R', E'⟩ := R.grow K
    exact ⟨m, R', E', S0.s3 (s0_str s)⟩
  ·cases hr
structure Left (P : Program) (w : World) (r : Value × AH) (m : Mp) (v' : Value) (w' : World) : Prop where
 rel : Rel P 2 m r.2 w'
 kept : Kept w w'
 val : S3 m r.1 v'
 own : ∀ q x, 3 ≤ q → m q = some (some x) → w.heap.size ≤ x.b ∧ x.s = 0
theorem closedL {P : Program} (hmix : P.follows .mixedOrders = true) {ss : List ByteArray} {w : World} (ht : TabS ss w) {X : FuncId → List Value → AH → Option (Option (Value × AH))}
  (HX : ∀ f args h r, X f args h = some (some r) → (∃ fn, entered P f = some fn) ∧ ∀ m w args', Rel P 2 m h w → L2 (S3 m) args args'.toList → Calls P f args' w fun
  | .returned v', w' => Wrote P 2 m h w r v' w'
  | _, _ => False) {M n : Nat} {f : FuncId} {args : List Value} (ha : args.all plainV = true) {r : Value × AH} (hr : evF P 2 M X n f args (hs0 ss) = some r) : Calls P f args.toArray w fun e w' => ∃ v' m, e = .returned v' ∧ Left P w r m v' w' := by
 obtain ⟨B, o, c, h1, h2, h3, h4, h5, h6⟩ := ht
 have := (evF_ok hmix M HX n f args (hs0 ss) r hr).2 _ w args.toArray (rel0 h1 h2 h3 h4 h5 h6) (by simpa using plains_s3 ha)
 refine this.mono fun e w' hh => ?_
 cases e with
 | returned v' =>
  obtain ⟨m', R', E', S'⟩ := hh
  refine ⟨v', m', rfl, R', kept0 E', S', fun q x hq hx => ?_⟩
  rcases E'.new q x hx with e | ⟨-, e | ⟨r0, x0, e0, -, -, e2⟩⟩
  ·simp only [ms0] at e
   rw [if_neg (by omega), if_neg (by omega), if_neg (by omega)] at e
   cases e
  ·exact e
  ·exfalso
   simp only [hs0_get] at e2
   simp only [ms0] at e0
   split at e0
   ·rename_i z; exact e2 (tb []) (by rw [if_pos z]) rfl
   split at e0
   ·rename_i z' z; exact e2 _ (by rw [if_neg z', if_pos z]) rfl
   split at e0
   ·rename_i z1 z2 z; exact e2 _ (by rw [if_neg z1, if_neg z2, if_pos z]) rfl
   ·cases e0
 | _ => exact hh.elim
theorem Rel.sliceAt {P : Program} {G : Nat} {m : Mp} {h : AH} {w : World} (R : Rel P G m h w) {r off n c : Nat} {v' : Value} (hv : S3 m (.slice (some ⟨r, off, none⟩) n c) v') {xs : List Value} {e : TypeId} {es : List (Value × Value)} (hg : h.get r = some ⟨1, xs, e, es⟩) :
  ∃ x c', m r = some (some x) ∧ v' = .slice (some ⟨x.b, off + x.s, none⟩) n c' ∧ c ≤ c' ∧ x.b < w.heap.size ∧ ∀ i v, xs[i]? = some v → ∃ u, w.cell? ⟨x.b, i + x.s, none⟩ = some u ∧ S1 m v u := by
 obtain ⟨a, c', rfl, h1, -, h2, h3, h4⟩ := hv.sl
 rcases h4 with h4 | ⟨x, h4, h5, h6, -⟩
 ·exact absurd ((R.dead r h4).2 _ hg) (by simp)
 ·obtain ⟨-, k2, o, k3, k4⟩ := R.row r x h4
  rw [hg] at k3
  cases k3
  obtain ⟨b, off', sp⟩ := a
  simp only at h2 h3 h5 h6
  subst h3 h5 h6
  refine ⟨x, c', h4, rfl, h1, k2, fun i v hv => ?_⟩
  rcases k4 with ⟨-, k4⟩ | ⟨q, -⟩ | ⟨q, -⟩
  ·exact k4.cell hv
  ·cases q
  ·cases q
end Go.Proofs.YtmolfmgchbjnbaaGreatDoor.Ev
