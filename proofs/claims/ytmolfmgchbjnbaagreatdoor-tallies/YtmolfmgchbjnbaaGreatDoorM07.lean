import Derived.Test.YtmolfmgchbjnbaaGreatDoorM06
set_option linter.unusedSimpArgs false
set_option linter.unusedVariables false
namespace Go.Proofs.YtmolfmgchbjnbaaGreatDoor.Ev
open Go
def clsB : Builtin → Nat
 | .append => 2
 | _ => 0
def clsC : Callee → Nat
 | .builtin b => clsB b
 | .value _ => 3
 | _ => 0
def cls : Op → Nat
 | .alloc _ => 1
 | .box _ _ => 1
 | .buildSlice _ _ _ => 1
 | .makeMap _ _ => 1
 | .makeSlice _ _ _ => 1
 | .store _ _ _ => 2
 | .mapUpdate _ _ _ _ => 2
 | .convert s d _ => cond (Nat.beq s d) 2 0
 | .call c => clsC c.callee
 | _ => 0
def dstOf (ops : Array Oper) (i : Nat) : Option Tmp := (ops[i]?).bind (·.dst)
def isB (want : Bool) : Value → Option Bool
 | .bool b => some (b == want)
 | _ => some false
abbrev Wn := AA → Option Bool
def wnC (b : Bool) : Wn := fun _ => some b
def wnS (want : Bool) (f : Acc) : Wn := fun a => (f a).bind (isB want)
def wantedS (want : Bool) : Option Tmp → Option Wn
 | none => some (wnC false)
 | some d => (slotF d).map (wnS want)
def wantedG (ops : Array Oper) : Option (Nat × Bool) → Option Wn
 | none => some (wnC true)
 | some (j, want) => wantedS want (dstOf ops j)
def tmpsOf (o : Oper) : List Tmp := o.op.operands.toList.filterMap fun | .tmp t => some t | _ => none
section
variable (P : Program) (G : Nat) (E : FuncId → List Value → AH → Option (Value × AH))
def mkNew (h : AH) (p : AO × (Nat → Value)) : Option (Value × AH) := cond (Nat.blt h.n 4096) (some (p.2 h.n, h.new p.1)) none
def same (h : AH) (v : Value) : Option (Value × AH) := some (v, h)
def enterE (h : AH) : FuncId × List Value → Option (Value × AH)
 | (f, l) => E f l h
abbrev Exe := (FuncId → List Value → AH → Option (Value × AH)) → AA → AH → Option (Value × AH)
def eRead (f : Rd) : Exe := fun _ s h => (f s h).bind (same h)
def eNew (f : Nw) : Exe := fun _ s h => (f s).bind (mkNew h)
def eWrite (f : Wt) : Exe := fun _ s h => f s h
def eCall (f : Cl) : Exe := fun E s h => (f s).bind (enterE E h)
def execN (o : Op) : Nat → Option Exe
 | 0 => (aRead P G o).map eRead
 | 1 => (aNew P G o).map eNew
 | 2 => (aWrite P G o).map eWrite
 | _ => (aCall G o).map eCall
def execO (o : Op) : Option Exe := execN P G o (cls o)
abbrev Pt := Value → AA → Option AA
def ptNone : Pt := fun _ a => some a
def ptAt (d : Nat) (f : Option Value → N16 (N16 (Option Value)) → N16 (N16 (Option Value))) : Pt := fun v a => a.putF d v f
def putO : Option Tmp → Option Pt
 | none => some ptNone
 | some d => (upd2 d).map (ptAt d)
def withH (h : AH) (a : AA) : Option (AA × AH) := some (a, h)
def putR (p : Pt) (a : AA) : Value × AH → Option (AA × AH)
 | (v, h) => (p v a).bind (withH h)
abbrev St := (FuncId → List Value → AH → Option (Value × AH)) → AA → AH → Option (AA × AH)
def stB (e : Exe) (p : Pt) (E : FuncId → List Value → AH → Option (Value × AH)) (a : AA) (h : AH) : Bool → Option (AA × AH)
 | true => (e E a h).bind (putR p a)
 | false => putR p a (undef, h)
def st (w : Wn) (e : Exe) (p : Pt) : St := fun E a h => (w a).bind (stB e p E a h)
def stepO (ops : Array Oper) (o : Oper) : Option St := (wantedG ops o.guard).bind fun w => (execO P G o.op).bind fun e => (putO o.dst).map (st w e)
def thenO (K : AA → AH → Option (AA × AH)) : AA × AH → Option (AA × AH)
 | (a, h) => K a h
def runS (a : AA) (h : AH) : Option St → Option (AA × AH)
 | some f => f E a h
 | none => none
def evOps (ops : Array Oper) : List Oper → AA → AH → Option (AA × AH)
 | [], a, h => some (a, h)
 | o :: l, a, h => (runS E a h (stepO P G ops o)).bind (thenO (evOps ops l))
def readsT (ops : Array Oper) (o : Oper) (d : Tmp) : Bool := (tmpsOf o).contains d || (match o.guard with | some g => dstOf ops g.1 == some d | none => false)
def readsAt (ops : Array Oper) (i : Nat) (d : Tmp) : Bool := match ops[i]? with | some o => readsT ops o d | none => false
def bt (b : Array Nat) (i j : Nat) : Bool := (b.getD i 0).testBit j
def isTail (ops : Array Oper) (b : Array Nat) (i : Nat) : Bool :=
 match ops[i]? with
 | some ⟨some d, .assign (.tmp x), _, _, _, none⟩ => ((List.range ops.size).all fun k => !(readsAt ops k d) || (bt b i k && !(Nat.beq i k))) && (List.range ops.size).any fun j => dstOf ops j == some x && bt b i j
 | _ => false
def isChain (ops : Array Oper) (i : Nat) : Bool := match ops[i]? with | some o => Nat.ble 2 (cls o.op) | none => false
def isRead (ops : Array Oper) (i : Nat) : Bool := match ops[i]? with | some o => Nat.beq (cls o.op) 0 | none => false
def apartA (ops : Array Oper) (b : Array Nat) (o : Oper) (i j : Nat) : Bool :=
 match dstOf ops j with
 | none => true
 | some d =>
  (Nat.beq i j || o.dst != some d) &&
  (!(readsT ops o d) || cond (isTail ops b j) (!(isTail ops b i) && bt b j i) (!(Nat.beq i j) && bt b i j))
def regOk1 (ops : Array Oper) (b : Array Nat) (i : Nat) : Bool :=
 match ops[i]? with
 | none => false
 | some o => (o.after.toList.all fun e => !Region.binds .any e || Nat.blt e.on i) && (List.range ops.size).all (apartA ops b o i)
def gapOf (ops : Array Oper) (b : Array Nat) (i : Nat) : Nat := ((List.range i).filter fun j => isChain ops j && bt b i j).length
def segIdx (ops : Array Oper) (b : Array Nat) (k : Nat) : List Nat := (List.range ops.size).filter fun i => !(isChain ops i) && !(isTail ops b i) && Nat.beq (gapOf ops b i) k
def agIdx (ops : Array Oper) (b : Array Nat) (c k : Nat) : List Nat := (List.range ops.size).filter fun i => isRead ops i && !(isTail ops b i) && Nat.blt (gapOf ops b i) k && !(bt b c i)
abbrev Segs := List (Nat × List Nat × List Nat)
def planFrom (ops : Array Oper) (b : Array Nat) : List Nat → Nat → Segs
 | [], _ => []
 | c :: l, k => (c, agIdx ops b c (k + 1), segIdx ops b (k + 1)) :: planFrom ops b l (k + 1)
def noRead (ops : Array Oper) (i j : Nat) : Bool := match dstOf ops j with | none => true | some d => !(readsAt ops i d)
def segOk (ops : Array Oper) (b : Array Nat) : List Nat → List Nat → Bool
 | _, [] => true
 | dn, j :: r => !(isChain ops j) && !(isTail ops b j) && dn.all (fun i => noRead ops i j && !(Nat.beq i j)) && segOk ops b (j :: dn) r
def chainOk (ops : Array Oper) (b : Array Nat) : List Nat → Segs → Bool
 | _, [] => true
 | dn, (c, ag, sg) :: l =>
  isChain ops c && dn.all (fun i => noRead ops i c && (!(isRead ops i) || bt b c i || ag.contains i)) && sg.all (fun i => bt b i c) && l.all (fun q => bt b q.1 c && q.2.2.all fun i => bt b i c) &&
  segOk ops b dn sg && chainOk ops b (sg.reverse ++ dn) l
structure Pln where
 s : List Nat
 l : Segs
 t : List Nat
def allIn (ops : Array Oper) (b : Array Nat) (p : Pln) (i : Nat) : Bool := isTail ops b i || p.s.contains i || p.l.any fun q => Nat.beq q.1 i || q.2.2.contains i
def planOk (ops : Array Oper) (b : Array Nat) (p : Pln) : Bool := (List.range ops.size).all (regOk1 ops b) && segOk ops b [] p.s && chainOk ops b p.s.reverse p.l && (List.range ops.size).all (allIn ops b p)
def planOf (ops : Array Oper) (b : Array Nat) : Pln := ⟨segIdx ops b 0, planFrom ops b ((List.range ops.size).filter (isChain ops)) 0, (List.range ops.size).filter (isTail ops b)⟩
def planIf (ops : Array Oper) (b : Array Nat) (p : Pln) : Option Pln := cond (planOk ops b p) (some p) none
def plan (ops : Array Oper) : Option Pln := planIf ops (Region.before ops) (planOf ops (Region.before ops))
def againU (a : AA) (h : AH) (v u : Value) : Option (AA × AH) := cond (veq v u) (some (a, h)) none
def againV (f : Acc) (a : AA) (h : AH) (v : Value) : Option (AA × AH) := (f a).bind (againU a h v)
def agB (r : Rd) (f : Acc) (a : AA) (h : AH) : Bool → Option (AA × AH)
 | true => (r a h).bind (againV f a h)
 | false => some (a, h)
def ag (w : Wn) (r : Rd) (f : Acc) : St := fun _ a h => (w a).bind (agB r f a h)
def agD (w : Wn) (r : Rd) : Option Tmp → Option St
 | none => none
 | some d => (slotF d).map (ag w r)
def againO (ops : Array Oper) (o : Oper) : Option St := (wantedG ops o.guard).bind fun w => (aRead P G o.op).bind fun r => agD w r o.dst
def stepI (ops : Array Oper) : Bool → Nat → Option St
 | false, i => (ops[i]?).bind (stepO P G ops)
 | true, i => (ops[i]?).bind (againO P G ops)
def evIdx (ops : Array Oper) (again : Bool) : List Nat → AA → AH → Option (AA × AH)
 | [], a, h => some (a, h)
 | i :: l, a, h => (runS E a h (stepI P G ops again i)).bind (thenO (evIdx ops again l))
def evSegs (ops : Array Oper) : Segs → AA → AH → Option (AA × AH)
 | [], a, h => some (a, h)
 | (c, ag, sg) :: l, a, h => (runS E a h (stepI P G ops false c)).bind (thenO fun a h => (evIdx P G E ops true ag a h).bind (thenO fun a h => (evIdx P G E ops false sg a h).bind (thenO (evSegs ops l))))
def evTail (ops : Array Oper) (l : Segs) (t : List Nat) (a : AA) (h : AH) : Option (AA × AH) := (evSegs P G E ops l a h).bind (thenO (evIdx P G E ops false t))
def nrm : AA × AH → Option (Exit × AA × AH)
 | (a, h) => some (.normal, a, h)
def evDraw (ops : Array Oper) (a : AA) (h : AH) : Pln → Option (Exit × AA × AH)
 | ⟨s, l, t⟩ => ((evIdx P G E ops false s a h).bind (thenO (evTail P G E ops l t))).bind nrm
def evReg (ops : Array Oper) (a : AA) (h : AH) : Bool → Option (Exit × AA × AH)
 | false => (evOps P G E ops ops.toList a h).bind nrm
 | true => (plan ops).bind (evDraw P G E ops a h)
section
variable (R : Option Code → Code → AA → AH → Option (Exit × AA × AH))
def aftSeq (y : Code) : Exit × AA × AH → Option (Exit × AA × AH)
 | (.normal, a, h) => R none y a h
 | r => some r
def aftBlock (id : Nat) : Exit × AA × AH → Option (Exit × AA × AH)
 | (.exit i, a, h) => some (cond (Nat.beq i id) .normal (.exit i), a, h)
 | r => some r
def aftGoto (body : Code) (l : Nat) (a : AA) (h : AH) : Option Code → Option (Exit × AA × AH)
 | some rest => R (some body) rest a h
 | none => some (.goto l, a, h)
def aftScope (body : Code) : Exit × AA × AH → Option (Exit × AA × AH)
 | (.goto l, a, h) => aftGoto R body l a h (findLabel body l)
 | r => some r
def onCond (x y : Code) (a : AA) (h : AH) : Value → Option (Exit × AA × AH)
 | .bool true => R none x a h
 | .bool false => R none y a h
 | _ => none
def stepC0 (a : AA) (h : AH) : Code → Option (Exit × AA × AH)
 | .skip => some (.normal, a, h)
 | .label _ => some (.normal, a, h)
 | .region _ ops d => evReg P G E ops a h d
 | .seq x y => (R none x a h).bind (aftSeq R y)
 | .cond q x y => (opnd G q).bind fun f => (f a).bind (onCond R x y a h)
 | .block id x => (R none x a h).bind (aftBlock id)
 | .loop x => (R none x a h).bind (aftSeq R (.loop x))
 | .scope x => R (some x) x a h
 | .exit id => some (.exit id, a, h)
 | .goto l => some (.goto l, a, h)
 | .ret => some (.ret, a, h)
 | _ => none
def stepC (s : Option Code) (c : Code) (a : AA) (h : AH) : Option (Exit × AA × AH) :=
 match s with
 | none => stepC0 P G E R a h c
 | some body => (R none c a h).bind (aftScope R body)
end
def noC (_ : Option Code) (_ : Code) (_ : AA) (_ : AH) : Option (Exit × AA × AH) := none
def evC (n : Nat) : Option Code → Code → AA → AH → Option (Exit × AA × AH) := Nat.repeat (stepC P G E) n noC
def resT (f : Acc) : Rd := fun a _ => f a
def resC (t : TypeId) (f : Acc) : Rd := fun a h => (f a).bind (rLoad P h t)
def resF : ResultVar → Option Rd
 | .tmp t => (slotF t).map resT
 | .cell d t => (slotF d).map (resC P t)
def resV (a : AA) (h : AH) (f : Rd) : Option Value := f a h
def tup : List Value → Option Value
 | [v] => some v
 | l => cond (l.all one2) (some (.tuple l.toArray)) none
def resultsA (fn : Func) (a : AA) (h : AH) : Option (Value × AH) := (allSome (resF P) fn.results.toList).bind fun l => ((allSome (resV a h) l).bind tup).bind (same h)
def aftBody (fn : Func) : Exit × AA × AH → Option (Value × AH)
 | (.normal, a, h) => resultsA P fn a h
 | (.ret, a, h) => resultsA P fn a h
 | _ => none
end
def putAll : List Value → Nat → AA → Option AA
 | [], _, a => some a
 | v :: l, i, a => (a.putAt v i).bind (putAll l (i + 1))
def AA.nil (n : Nat) : AA := ⟨n, N16.all (N16.all none)⟩
section
variable (P : Program) (G M : Nat) (X : FuncId → List Value → AH → Option (Option (Value × AH)))
def runC (R : FuncId → List Value → AH → Option (Value × AH)) (args : List Value) (h : AH) (fn : Func) (c : Code) : Option (Value × AH) :=
 (putAll args 0 (AA.nil (max args.length fn.ntmps))).bind fun a => (evC P G R M none c a h).bind (aftBody P fn)
def runF (R : FuncId → List Value → AH → Option (Value × AH)) (args : List Value) (h : AH) (fn : Func) : Option (Value × AH) := fn.body.bind (runC P G M R args h fn)
def stepX (R : FuncId → List Value → AH → Option (Value × AH)) (f : FuncId) (args : List Value) (h : AH) : Option (Option (Value × AH)) → Option (Value × AH)
 | some r => r
 | none => (entered P f).bind (runF P G M R args h)
def stepF (R : FuncId → List Value → AH → Option (Value × AH)) (f : FuncId) (args : List Value) (h : AH) : Option (Value × AH) := stepX P G M R f args h (X f args h)
def noF (_ : FuncId) (_ : List Value) (_ : AH) : Option (Value × AH) := none
def noX (_ : FuncId) (_ : List Value) (_ : AH) : Option (Option (Value × AH)) := none
def evF (n : Nat) : FuncId → List Value → AH → Option (Value × AH) := Nat.repeat (stepF P G M X) n noF
end
section
variable {α : Type}
theorem sel_upd {i j : Nat} {u : (α → α) → N16 α → N16 α} {s : N16 α → α} (hu : upd i = some u) (hs : sel j = some s) (f : α → α) (x : N16 α) : s (u f x) = if j = i then f (s x) else s x := by
 unfold upd at hu
 split at hu <;> cases hu <;> (unfold sel at hs; split at hs <;> cases hs <;> rfl)
theorem sel_some {i : Nat} (h : i < 16) : ∃ s : N16 α → α, sel i = some s := by
 match i, h with
 | 0, _ => exact ⟨_, rfl⟩
 | 1, _ => exact ⟨_, rfl⟩
 | 2, _ => exact ⟨_, rfl⟩
 | 3, _ => exact ⟨_, rfl⟩
 | 4, _ => exact ⟨_, rfl⟩
 | 5, _ => exact ⟨_, rfl⟩
 | 6, _ => exact ⟨_, rfl⟩
 | 7, _ => exact ⟨_, rfl⟩
 | 8, _ => exact ⟨_, rfl⟩
 | 9, _ => exact ⟨_, rfl⟩
 | 10, _ => exact ⟨_, rfl⟩
 | 11, _ => exact ⟨_, rfl⟩
 | 12, _ => exact ⟨_, rfl⟩
 | 13, _ => exact ⟨_, rfl⟩
 | 14, _ => exact ⟨_, rfl⟩
 | 15, _ => exact ⟨_, rfl⟩
 | n + 16, h => omega
theorem upd_some {i : Nat} (h : i < 16) : ∃ s : (α → α) → N16 α → N16 α, upd i = some s := by
 match i, h with
 | 0, _ => exact ⟨_, rfl⟩
 | 1, _ => exact ⟨_, rfl⟩
 | 2, _ => exact ⟨_, rfl⟩
 | 3, _ => exact ⟨_, rfl⟩
 | 4, _ => exact ⟨_, rfl⟩
 | 5, _ => exact ⟨_, rfl⟩
 | 6, _ => exact ⟨_, rfl⟩
 | 7, _ => exact ⟨_, rfl⟩
 | 8, _ => exact ⟨_, rfl⟩
 | 9, _ => exact ⟨_, rfl⟩
 | 10, _ => exact ⟨_, rfl⟩
 | 11, _ => exact ⟨_, rfl⟩
 | 12, _ => exact ⟨_, rfl⟩
 | 13, _ => exact ⟨_, rfl⟩
 | 14, _ => exact ⟨_, rfl⟩
 | 15, _ => exact ⟨_, rfl⟩
 | n + 16, h => omega
theorem upd_lt {i : Nat} {s : (α → α) → N16 α → N16 α} (h : upd i = some s) : i < 16 := by
 unfold upd at h
 split at h <;> first | omega | cases h
theorem sel_all {i : Nat} {s : N16 α → α} (h : sel i = some s) (x : α) : s (N16.all x) = x := by
 unfold sel at h
 split at h <;> cases h <;> rfl
theorem sel2_form {i : Nat} {g : N16 (N16 α) → α} (h : sel2 i = some g) : ∃ f k, sel (i / 16) = some f ∧ sel (i % 16) = some k ∧ g = get2 f k := by
 unfold sel2 at h
 cases h1 : (sel (i / 16) : Option (N16 (N16 α) → N16 α)) with
 | none => simp [h1] at h
 | some f =>
  cases h2 : (sel (i % 16) : Option (N16 α → α)) with
  | none => simp [h1, h2] at h
  | some k => exact ⟨f, k, rfl, rfl, by simpa [h1, h2] using h.symm⟩
theorem upd2_form {i : Nat} {p : α → N16 (N16 α) → N16 (N16 α)} (h : upd2 i = some p) : ∃ f k, upd (i / 16) = some f ∧ upd (i % 16) = some k ∧ p = set2 f k := by
 unfold upd2 at h
 cases h1 : (upd (i / 16) : Option ((N16 α → N16 α) → N16 (N16 α) → N16 (N16 α))) with
 | none => simp [h1] at h
 | some f =>
  cases h2 : (upd (i % 16) : Option ((α → α) → N16 α → N16 α)) with
  | none => simp [h1, h2] at h
  | some k => exact ⟨f, k, rfl, rfl, by simpa [h1, h2] using h.symm⟩
theorem sel2_upd2 {i j : Nat} {p : α → N16 (N16 α) → N16 (N16 α)} {g : N16 (N16 α) → α} (hp : upd2 i = some p) (hg : sel2 j = some g) (v : α) (t : N16 (N16 α)) : g (p v t) = if j = i then v else g t := by
 obtain ⟨F, K, h1, h2, rfl⟩ := upd2_form hp
 obtain ⟨f, k, h3, h4, rfl⟩ := sel2_form hg
 show k (f (F (K (cst v)) t)) = _
 rw [sel_upd h1 h3]
 by_cases e1 : j / 16 = i / 16
 ·rw [if_pos e1, sel_upd h2 h4]
  by_cases e2 : j % 16 = i % 16
  ·rw [if_pos e2, if_pos (by omega)]; rfl
  ·rw [if_neg e2, if_neg (by rintro rfl; exact e2 rfl)]; rfl
 ·rw [if_neg e1, if_neg (by rintro rfl; exact e1 rfl)]; rfl
theorem sel2_some {i : Nat} (h : i < 256) : ∃ g : N16 (N16 α) → α, sel2 i = some g := by
 obtain ⟨f, hf⟩ := sel_some (α := N16 α) (i := i / 16) (by omega)
 obtain ⟨k, hk⟩ := sel_some (α := α) (i := i % 16) (by omega)
 exact ⟨get2 f k, by simp [sel2, hf, hk]⟩
theorem upd2_some {i : Nat} (h : i < 256) : ∃ g : α → N16 (N16 α) → N16 (N16 α), upd2 i = some g := by
 obtain ⟨f, hf⟩ := upd_some (α := N16 α) (i := i / 16) (by omega)
 obtain ⟨k, hk⟩ := upd_some (α := α) (i := i % 16) (by omega)
 exact ⟨set2 f k, by simp [upd2, hf, hk]⟩
theorem sel2_all {i : Nat} {g : N16 (N16 α) → α} (h : sel2 i = some g) (x : α) : g (N16.all (N16.all x)) = x := by
 obtain ⟨f, k, h1, h2, rfl⟩ := sel2_form h
 show k (f _) = x
 rw [sel_all h1, sel_all h2]
theorem sel3_form {i : Nat} {g : N16 (N16 (N16 α)) → α} (h : sel3 i = some g) : ∃ f k, sel (i / 256) = some f ∧ sel2 (i % 256) = some k ∧ g = get3 f k := by
 unfold sel3 at h
 cases h1 : (sel (i / 256) : Option (N16 (N16 (N16 α)) → N16 (N16 α))) with
 | none => simp [h1] at h
 | some f =>
  cases h2 : (sel2 (i % 256) : Option (N16 (N16 α) → α)) with
  | none => simp [h1, h2] at h
  | some k => exact ⟨f, k, rfl, rfl, by simpa [h1, h2] using h.symm⟩
theorem upd3_form {i : Nat} {p : α → N16 (N16 (N16 α)) → N16 (N16 (N16 α))} (h : upd3 i = some p) : ∃ f k, upd (i / 256) = some f ∧ upd2 (i % 256) = some k ∧ p = set3 f k := by
 unfold upd3 at h
 cases h1 : (upd (i / 256) : Option ((N16 (N16 α) → N16 (N16 α)) → N16 (N16 (N16 α)) → N16 (N16 (N16 α)))) with
 | none => simp [h1] at h
 | some f =>
  cases h2 : (upd2 (i % 256) : Option (α → N16 (N16 α) → N16 (N16 α))) with
  | none => simp [h1, h2] at h
  | some k => exact ⟨f, k, rfl, rfl, by simpa [h1, h2] using h.symm⟩
theorem sel3_upd3 {i j : Nat} {p : α → N16 (N16 (N16 α)) → N16 (N16 (N16 α))} {g : N16 (N16 (N16 α)) → α} (hp : upd3 i = some p) (hg : sel3 j = some g) (v : α) (t : N16 (N16 (N16 α))) : g (p v t) = if j = i then v else g t := by
 obtain ⟨F, K, h1, h2, rfl⟩ := upd3_form hp
 obtain ⟨f, k, h3, h4, rfl⟩ := sel3_form hg
 show k (f (F (K v) t)) = _
 rw [sel_upd h1 h3]
 by_cases e1 : j / 256 = i / 256
 ·rw [if_pos e1, sel2_upd2 h2 h4]
  by_cases e2 : j % 256 = i % 256
  ·rw [if_pos e2, if_pos (by omega)]
  ·rw [if_neg e2, if_neg (by rintro rfl; exact e2 rfl)]; rfl
 ·rw [if_neg e1, if_neg (by rintro rfl; exact e1 rfl)]; rfl
theorem sel3_some {i : Nat} (h : i < 4096) : ∃ g : N16 (N16 (N16 α)) → α, sel3 i = some g := by
 obtain ⟨f, hf⟩ := sel_some (α := N16 (N16 α)) (i := i / 256) (by omega)
 obtain ⟨k, hk⟩ := sel2_some (α := α) (i := i % 256) (by omega)
 exact ⟨get3 f k, by simp [sel3, hf, hk]⟩
theorem upd3_some {i : Nat} (h : i < 4096) : ∃ g : α → N16 (N16 (N16 α)) → N16 (N16 (N16 α)), upd3 i = some g := by
 obtain ⟨f, hf⟩ := upd_some (α := N16 (N16 α)) (i := i / 256) (by omega)
 obtain ⟨k, hk⟩ := upd2_some (α := α) (i := i % 256) (by omega)
 exact ⟨set3 f k, by simp [upd3, hf, hk]⟩
end
theorem AH.get_set {r : Nat} (hr : r < 4096) (o : AO) (h : AH) (q : Nat) : (h.set r o).get q = if q = r then some o else h.get q := by
 obtain ⟨n, t⟩ := h
 obtain ⟨p, hp⟩ := upd3_some (α := Option AO) hr
 simp only [AH.set, hp, AH.puts, AH.get]
 cases hg : (sel3 q : Option (N16 (N16 (N16 (Option AO))) → Option AO)) with
 | none =>
  have : q ≠ r := by
   rintro rfl
   obtain ⟨g, hg'⟩ := sel3_some (α := Option AO) hr
   rw [hg] at hg'
   cases hg'
  simp [AH.got, this]
 | some g => simp only [AH.got]; exact sel3_upd3 hp hg (some o) t
theorem AH.set_n (r : Nat) (o : AO) (h : AH) : (h.set r o).n = h.n := by
 obtain ⟨n, t⟩ := h
 simp only [AH.set]
 cases upd3 r <;> rfl
theorem AH.new_eq (o : AO) (h : AH) : h.new o = ⟨h.n + 1, ((⟨h.n, h.t⟩ : AH).set h.n o).t⟩ := by
 obtain ⟨n, t⟩ := h
 cases n with
 | zero =>
  show AH.puts 1 o t (upd3 0) = ⟨0 + 1, (AH.puts 0 o t (upd3 0)).t⟩
  cases (upd3 0 : Option (Option AO → N16 (N16 (N16 (Option AO))) → N16 (N16 (N16 (Option AO))))) <;> rfl
 | succ n =>
  show AH.puts (n + 2) o t (upd3 (n + 1)) = ⟨n + 1 + 1, (AH.puts (n + 1) o t (upd3 (n + 1))).t⟩
  cases (upd3 (n + 1) : Option (Option AO → N16 (N16 (N16 (Option AO))) → N16 (N16 (N16 (Option AO))))) <;> rfl
theorem AH.new_n (o : AO) (h : AH) : (h.new o).n = h.n + 1 := by rw [AH.new_eq]
theorem AH.get_t (q : Nat) (h : AH) (n : Nat) : (⟨n, h.t⟩ : AH).get q = h.get q := rfl
theorem AH.get_new {h : AH} (hn : h.n < 4096) (o : AO) (q : Nat) : (h.new o).get q = if q = h.n then some o else h.get q := by
 rw [AH.new_eq, AH.get_t, AH.get_set hn]
theorem AA.get_form {i : Nat} {f : Acc} (h : slotF i = some f) (a : AA) : f a = a.get i := by simp [AA.get, h]
theorem putO_ok {d : Option Tmp} {p : Pt} (h : putO d = some p) {v : Value} {a a' : AA} (hp : p v a = some a') :
  a'.n = a.n ∧ (∀ k, d = some k → k < a.n) ∧ ∀ t, a'.get t = if d = some t then some v else a.get t := by
 cases d with
 | none =>
  simp only [putO, Option.some.injEq] at h
  subst h
  simp only [ptNone, Option.some.injEq] at hp
  subst hp
  exact ⟨rfl, (fun k hk => by cases hk), fun t => by simp⟩
 | some k =>
  simp only [putO] at h
  cases hu : (upd2 k : Option (Option Value → N16 (N16 (Option Value)) → N16 (N16 (Option Value)))) with
  | none => simp [hu] at h
  | some u =>
   simp only [hu, Option.map_some, Option.some.injEq] at h
   subst h
   obtain ⟨n, t⟩ := a
   simp only [ptAt, AA.putF] at hp
   cases hb : Nat.blt k n with
   | false => simp [hb] at hp
   | true =>
    simp only [hb, cond_true, Option.some.injEq] at hp
    subst hp
    refine ⟨rfl, fun k' hk' => ?_, fun q => ?_⟩
    ·cases hk'
     simpa [Nat.blt_eq] using hb
    ·show (slotF q).bind _ = _
     unfold AA.get slotF
     cases hg : (sel2 q : Option (N16 (N16 (Option Value)) → Option Value)) with
     | none =>
      have hne : k ≠ q := by
       rintro rfl
       obtain ⟨F, K, h1, h2, -⟩ := upd2_form hu
       have := upd_lt h1
       obtain ⟨g, hg'⟩ := sel2_some (α := Option Value) (i := k) (by omega)
       rw [hg] at hg'
       cases hg'
      simp [hne]
     | some g =>
      simp only [Option.map_some, Option.bind_some, AA.getF, Option.some.injEq]
      rw [sel2_upd2 hu hg]
      by_cases e : q = k
      ·simp [e]
      ·rw [if_neg e, if_neg (by rintro rfl; exact e rfl)]
theorem AA.putAt_ok {v : Value} {d : Nat} {a a' : AA} (h : a.putAt v d = some a') : a'.n = a.n ∧ d < a.n ∧ ∀ t, a'.get t = if t = d then some v else a.get t := by
 unfold AA.putAt at h
 cases hu : (upd2 d : Option (Option Value → N16 (N16 (Option Value)) → N16 (N16 (Option Value)))) with
 | none => simp [hu] at h
 | some u =>
  have hp : putO (some d) = some (ptAt d u) := by simp [putO, hu]
  obtain ⟨h1, h2, h3⟩ := putO_ok hp (v := v) (a := a) (a' := a') (by simpa [hu, ptAt] using h)
  refine ⟨h1, h2 d rfl, fun t => ?_⟩
  rw [h3 t]
  simp [eq_comm]
theorem AA.nil_get (n t : Nat) : (AA.nil n).get t = none := by
 unfold AA.get slotF AA.nil
 cases hg : (sel2 t : Option (N16 (N16 (Option Value)) → Option Value)) with
 | none => simp
 | some g =>
  simp only [Option.map_some, Option.bind_some, AA.getF]
  exact sel2_all hg none
theorem putAll_ok : ∀ (l : List Value) (i : Nat) (a a' : AA), putAll l i a = some a' → a'.n = a.n ∧ (l = [] ∨ i + l.length ≤ a.n) ∧ ∀ t, a'.get t = if i ≤ t ∧ t < i + l.length then l[t - i]? else a.get t := by
 intro l
 induction l with
 | nil =>
  intro i a a' h
  simp only [putAll, Option.some.injEq] at h
  subst h
  exact ⟨rfl, .inl rfl, fun t => by rw [if_neg (by simp)]⟩
 | cons v l ih =>
  intro i a a' h
  simp only [putAll] at h
  cases h1 : a.putAt v i with
  | none => simp [h1] at h
  | some b =>
   simp only [h1, Option.bind_some] at h
   obtain ⟨n1, l1, g1⟩ := AA.putAt_ok h1
   obtain ⟨n2, l2, g2⟩ := ih (i + 1) b a' h
   refine ⟨n2.trans n1, .inr ?_, fun t => ?_⟩
   ·rcases l2 with rfl | l2
    ·simp; omega
    ·simp only [List.length_cons]; omega
   ·rw [g2 t]
    simp only [List.length_cons]
    by_cases c1 : i + 1 ≤ t ∧ t < i + 1 + l.length
    ·rw [if_pos c1, if_pos (by omega)]
     obtain ⟨k, hk⟩ : ∃ k, t - i = k + 1 := ⟨t - i - 1, by omega⟩
     rw [hk, show t - (i + 1) = k by omega]
     simp
    ·rw [if_neg c1, g1 t]
     by_cases c2 : t = i
     ·subst c2
      rw [if_pos rfl, if_pos (by omega)]
      simp
     ·rw [if_neg c2, if_neg (by omega)]
end Go.Proofs.YtmolfmgchbjnbaaGreatDoor.Ev
