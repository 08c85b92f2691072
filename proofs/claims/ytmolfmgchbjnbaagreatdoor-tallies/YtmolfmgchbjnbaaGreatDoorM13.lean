import Derived.Test.YtmolfmgchbjnbaaGreatDoorM12
set_option linter.unusedSimpArgs false
set_option linter.unusedVariables false
namespace Go.Proofs.YtmolfmgchbjnbaaGreatDoor.Ev
open Go
section
variable {P : Program} {G : Nat}
theorem opnd_congr {x : Operand} {g : Acc} (hg : opnd G x = some g) {a a' : AA} (h : ∀ d, x = .tmp d → a.get d = a'.get d) : g a = g a' := by
  cases x with
  | tmp d => rw [AA.get_form hg, AA.get_form hg]; exact h d rfl
  | const v =>
    simp only [opnd] at hg
    cases hb : flat2 v with
    | false => rw [hb] at hg; cases hg
    | true => rw [hb] at hg; simp only [cond_true, Option.some.injEq] at hg; subst hg; rfl
  | global q =>
    simp only [opnd] at hg
    cases hb : Nat.blt q G with
    | false => rw [hb] at hg; cases hg
    | true => rw [hb] at hg; simp only [cond_true, Option.some.injEq] at hg; subst hg; rfl
  | func f => simp only [opnd, Option.some.injEq] at hg; subst hg; rfl
theorem allSome_congr {α β : Type} {f f' : α → Option β} : ∀ {l : List α}, (∀ x ∈ l, f x = f' x) → allSome f l = allSome f' l
  | [], _ => rfl
  | x :: l, h => by
    have ih : allSome f l = allSome f' l := allSome_congr fun y hy => h y (by simp [hy])
    simp only [allSome, h x (by simp), ih]
theorem args_congr {a a' : AA} {xs : List Operand} {l : List Acc} (h1 : allSome (opnd G) xs = some l) (HC : ∀ d, Operand.tmp d ∈ xs → a.get d = a'.get d) : allSome (accV a) l = allSome (accV a') l := by
  apply allSome_congr
  intro g hg
  obtain ⟨j, hj⟩ := List.getElem?_of_mem hg
  have h2 := allSome_ok h1
  have hlt : j < xs.length := by rw [h2.1]; exact (List.getElem?_eq_some_iff.1 hj).1
  have h3 := h2.2 j _ g (List.getElem?_eq_getElem hlt) hj
  exact opnd_congr h3 fun d hd => HC d (by rw [← hd]; exact List.getElem_mem hlt)
theorem parts_congr {a a' : AA} {xs : List (Nat × Operand)} {l : List Part} (h1 : allSome (partF G) xs = some l) (HC : ∀ d, Operand.tmp d ∈ xs.map (·.2) → a.get d = a'.get d) : allSome (partV a) l = allSome (partV a') l := by
  apply allSome_congr
  intro g hg
  obtain ⟨j, hj⟩ := List.getElem?_of_mem hg
  have h2 := allSome_ok h1
  have hlt : j < xs.length := by rw [h2.1]; exact (List.getElem?_eq_some_iff.1 hj).1
  have h3 := h2.2 j _ g (List.getElem?_eq_getElem hlt) hj
  unfold partF at h3
  obtain ⟨f, h4, rfl⟩ := map_some h3
  unfold partV
  simp only
  rw [opnd_congr h4 fun d hd => HC d (List.mem_map.2 ⟨xs[j], List.getElem_mem hlt, hd⟩)]
theorem optV_congr {a a' : AA} {x : Option Operand} {f : Option Acc} (h1 : optF G x = some f) (HC : ∀ d, x = some (.tmp d) → a.get d = a'.get d) : optV a f = optV a' f := by
  cases x with
  | none => simp only [optF, Option.some.injEq] at h1; subst h1; rfl
  | some x =>
    simp only [optF] at h1
    obtain ⟨g, h2, rfl⟩ := map_some h1
    simp only [optV]
    rw [opnd_congr h2 fun d hd => HC d (by rw [hd])]
theorem aRead_congr {op : Op} {f : Rd} (hf : aRead P G op = some f) {a a' : AA} (HC : ∀ d, Operand.tmp d ∈ op.operands.toList → a.get d = a'.get d) (h : AH) : f a h = f a' h := by
  cases op <;> simp only [aRead] at hf <;> try (cases hf; done)
  case move x => obtain ⟨g, e, rfl⟩ := map_some hf; exact opnd_congr e fun d hd => HC d (by simp [Op.operands, hd])
  case assign x => obtain ⟨g, e, rfl⟩ := map_some hf; exact opnd_congr e fun d hd => HC d (by simp [Op.operands, hd])
  case pick c x y =>
    obtain ⟨gc, ec, hf1⟩ := bind_some hf
    obtain ⟨gx, ex, hf2⟩ := bind_some hf1
    obtain ⟨gy, ey, rfl⟩ := map_some hf2
    simp only [xPick]
    rw [opnd_congr ec fun d hd => HC d (by simp [Op.operands, hd]), opnd_congr ex fun d hd => HC d (by simp [Op.operands, hd]), opnd_congr ey fun d hd => HC d (by simp [Op.operands, hd])]
  case load ty x => obtain ⟨g, e, rfl⟩ := map_some hf; simp only [xLoad]; rw [opnd_congr e fun d hd => HC d (by simp [Op.operands, hd])]
  case nilCheck x => obtain ⟨g, e, rfl⟩ := map_some hf; simp only [xNil]; rw [opnd_congr e fun d hd => HC d (by simp [Op.operands, hd])]
  case binOp bop ty x y yt =>
    obtain ⟨gx, ex, hf1⟩ := bind_some hf
    obtain ⟨gy, ey, rfl⟩ := map_some hf1
    simp only [xBin]
    rw [opnd_congr ex fun d hd => HC d (by simp [Op.operands, hd]), opnd_congr ey fun d hd => HC d (by simp [Op.operands, hd])]
  case unOp uop ty x => obtain ⟨g, e, rfl⟩ := map_some hf; simp only [xUn]; rw [opnd_congr e fun d hd => HC d (by simp [Op.operands, hd])]
  case convert s dt x => obtain ⟨g, e, rfl⟩ := map_some hf; simp only [xConv]; rw [opnd_congr e fun d hd => HC d (by simp [Op.operands, hd])]
  case makeFunc fn first cap =>
    cases fn <;> simp only at hf <;> try (cases hf; done)
    obtain ⟨l1, e1, hf1⟩ := bind_some hf
    obtain ⟨l2, e2, rfl⟩ := map_some hf1
    simp only [xFunc]
    rw [args_congr e1 fun d hd => HC d (by simp [Op.operands]; left; simpa using hd), args_congr e2 fun d hd => HC d (by simp [Op.operands]; right; simpa using hd)]
  case slice ty x lo hi mx =>
    obtain ⟨gx, ex, hf1⟩ := bind_some hf
    obtain ⟨gl, el, hf2⟩ := bind_some hf1
    obtain ⟨gh, eh, hf3⟩ := bind_some hf2
    obtain ⟨gm, em, rfl⟩ := map_some hf3
    simp only [xSlice]
    rw [opnd_congr ex fun d hd => HC d (by simp [Op.operands, hd]), optV_congr el fun d hd => HC d (by simp [Op.operands, hd]), optV_congr eh fun d hd => HC d (by simp [Op.operands, hd]), optV_congr em fun d hd => HC d (by simp [Op.operands, hd])]
  case fieldAddr st x i => obtain ⟨g, e, rfl⟩ := map_some hf; simp only [xFieldAddr]; rw [opnd_congr e fun d hd => HC d (by simp [Op.operands, hd])]
  case field ty x i => obtain ⟨g, e, rfl⟩ := map_some hf; simp only [xField]; rw [opnd_congr e fun d hd => HC d (by simp [Op.operands, hd])]
  case indexAddr ty x i =>
    obtain ⟨gx, ex, hf1⟩ := bind_some hf
    obtain ⟨gy, ey, rfl⟩ := map_some hf1
    simp only [xIndexAddr]
    rw [opnd_congr ex fun d hd => HC d (by simp [Op.operands, hd]), opnd_congr ey fun d hd => HC d (by simp [Op.operands, hd])]
  case index ty x i =>
    obtain ⟨gx, ex, hf1⟩ := bind_some hf
    obtain ⟨gy, ey, rfl⟩ := map_some hf1
    simp only [xIndex]
    rw [opnd_congr ex fun d hd => HC d (by simp [Op.operands, hd]), opnd_congr ey fun d hd => HC d (by simp [Op.operands, hd])]
  case lookup ty x i ok =>
    obtain ⟨gx, ex, hf1⟩ := bind_some hf
    obtain ⟨gy, ey, rfl⟩ := map_some hf1
    simp only [xLookup]
    rw [opnd_congr ex fun d hd => HC d (by simp [Op.operands, hd]), opnd_congr ey fun d hd => HC d (by simp [Op.operands, hd])]
  case extract x i => obtain ⟨g, e, rfl⟩ := map_some hf; simp only [xExtract]; rw [opnd_congr e fun d hd => HC d (by simp [Op.operands, hd])]
  case build ty ps =>
    obtain ⟨l, e, rfl⟩ := map_some hf
    simp only [xBuild]
    rw [parts_congr e fun d hd => HC d (by simpa [Op.operands] using hd)]
  case call c =>
    obtain ⟨callee, args, ats⟩ := c
    simp only at hf
    unfold rCall at hf
    split at hf
    · simp only at hf
      obtain ⟨l, e, hf1⟩ := bind_some hf
      have hc := args_congr (a := a) (a' := a') e fun d hd => HC d (by simp [Op.operands, Call.operands]; simpa using hd)
      unfold rBuilt at hf1
      split at hf1
      · obtain ⟨ty, e2, rfl⟩ := map_some hf1; simp only [xLen, hc]
      · cases hf1; simp only [xMinMax, hc]
      · cases hf1; simp only [xMinMax, hc]
      · cases hf1
    · cases hf
theorem aNew_congr {op : Op} {f : Nw} (hf : aNew P G op = some f) {a a' : AA} (HC : ∀ d, Operand.tmp d ∈ op.operands.toList → a.get d = a'.get d) : f a = f a' := by
  cases op <;> simp only [aNew] at hf <;> try (cases hf; done)
  case alloc e => cases hf; rfl
  case box e x => obtain ⟨g, e, rfl⟩ := map_some hf; simp only [yBox]; rw [opnd_congr e fun d hd => HC d (by simp [Op.operands, hd])]
  case buildSlice ty n ps =>
    obtain ⟨l, e, rfl⟩ := map_some hf
    simp only [ySlice]
    rw [parts_congr e fun d hd => HC d (by simpa [Op.operands] using hd)]
  case makeMap ty r =>
    cases r with
    | some _ => simp at hf
    | none => simp only at hf; obtain ⟨ke, hk, rfl⟩ := map_some hf; rfl
  case makeSlice ty l c =>
    obtain ⟨gx, ex, hf1⟩ := bind_some hf
    obtain ⟨gy, ey, rfl⟩ := map_some hf1
    simp only [yMake]
    rw [opnd_congr ex fun d hd => HC d (by simp [Op.operands, hd]), opnd_congr ey fun d hd => HC d (by simp [Op.operands, hd])]
theorem aWrite_congr {op : Op} {f : Wt} (hf : aWrite P G op = some f) {a a' : AA} (HC : ∀ d, Operand.tmp d ∈ op.operands.toList → a.get d = a'.get d) (h : AH) : f a h = f a' h := by
  cases op <;> simp only [aWrite] at hf <;> try (cases hf; done)
  case store ty x y =>
    obtain ⟨gx, ex, hf1⟩ := bind_some hf
    obtain ⟨gy, ey, rfl⟩ := map_some hf1
    simp only [zStore]
    rw [opnd_congr ex fun d hd => HC d (by simp [Op.operands, hd]), opnd_congr ey fun d hd => HC d (by simp [Op.operands, hd])]
  case mapUpdate ty x k y =>
    obtain ⟨gx, ex, hf1⟩ := bind_some hf
    obtain ⟨gk, ek, hf2⟩ := bind_some hf1
    obtain ⟨gy, ey, rfl⟩ := map_some hf2
    simp only [zUpdate]
    rw [opnd_congr ex fun d hd => HC d (by simp [Op.operands, hd]), opnd_congr ek fun d hd => HC d (by simp [Op.operands, hd]), opnd_congr ey fun d hd => HC d (by simp [Op.operands, hd])]
  case convert s dt x => obtain ⟨g, e, rfl⟩ := map_some hf; simp only [zConv]; rw [opnd_congr e fun d hd => HC d (by simp [Op.operands, hd])]
  case call c =>
    obtain ⟨callee, args, ats⟩ := c
    simp only at hf
    unfold wCall at hf
    split at hf
    · simp only at hf
      obtain ⟨l, e, hf1⟩ := bind_some hf
      have hc := args_congr (a := a) (a' := a') e fun d hd => HC d (by simp [Op.operands, Call.operands]; simpa using hd)
      unfold wBuilt at hf1
      split at hf1
      · cases hf1; simp only [zAppend, hc]
      · cases hf1
    · cases hf
theorem aCall_congr {op : Op} {f : Cl} (hf : aCall G op = some f) {a a' : AA} (HC : ∀ d, Operand.tmp d ∈ op.operands.toList → a.get d = a'.get d) : f a = f a' := by
  cases op <;> simp only [aCall] at hf <;> try (cases hf; done)
  case call c =>
    obtain ⟨callee, args, ats⟩ := c
    unfold cCall at hf
    split at hf
    · rename_i fo heq
      simp only at heq
      subst heq
      obtain ⟨g, eg, hf1⟩ := bind_some hf
      obtain ⟨l, el, rfl⟩ := map_some hf1
      simp only [vCall]
      rw [opnd_congr eg fun d hd => HC d (by simp [Op.operands, Call.operands, hd]), args_congr (a := a) (a' := a') el fun d hd => HC d (by simp [Op.operands, Call.operands]; right; simpa using hd)]
    · cases hf
theorem exec_congr {op : Op} {e : Exe} (he : execO P G op = some e) {a a' : AA} (HC : ∀ d, Operand.tmp d ∈ op.operands.toList → a.get d = a'.get d) (E : EE) (h : AH) : e E a h = e E a' h := by
  unfold execO execN at he
  split at he
  · obtain ⟨f, hf, rfl⟩ := map_some he; simp only [eRead]; rw [aRead_congr hf HC]
  · obtain ⟨f, hf, rfl⟩ := map_some he; simp only [eNew]; rw [aNew_congr hf HC]
  · obtain ⟨f, hf, rfl⟩ := map_some he; simp only [eWrite]; rw [aWrite_congr hf HC]
  · obtain ⟨f, hf, rfl⟩ := map_some he; simp only [eCall]; rw [aCall_congr hf HC]
def HLe (h h' : AH) : Prop := ∀ r o, h.get r = some o → h'.get r = some o
theorem HLe.row {h h' : AH} (hh : HLe h h') {r : Nat} {p : List Value × TypeId} (hr : rowAt r h = some p) : rowAt r h' = some p := by
  obtain ⟨xs, e⟩ := p
  obtain ⟨es, hg⟩ := rowAt_ok hr
  simp [rowAt, hh r _ hg, asRow]
theorem HLe.cells {h h' : AH} (hh : HLe h h') {r : Nat} {p : List Value} (hr : cellsAt r h = some p) : cellsAt r h' = some p := by
  cases hg : h.get r with
  | none => simp [cellsAt, hg, asCells] at hr
  | some o =>
    unfold cellsAt at hr ⊢
    rw [hg] at hr
    rw [hh r o hg]
    exact hr
theorem HLe.map {h h' : AH} (hh : HLe h h') {k r : Nat} {p : List (Value × Value)} (hr : mapAt k r h = some p) : mapAt k r h' = some p := by
  obtain ⟨xs, hg⟩ := mapAt_ok hr
  simp [mapAt, hh r _ hg, asMap]
theorem aRead_heap {op : Op} {f : Rd} (hf : aRead P G op = some f) {a : AA} {h h' : AH} (hh : HLe h h') {v : Value} (hv : f a h = some v) : f a h' = some v := by
  cases op <;> simp only [aRead] at hf <;> try (cases hf; done)
  case load ty x =>
    obtain ⟨g, e, rfl⟩ := map_some hf
    obtain ⟨p, hp, hv1⟩ := bind_some hv
    simp only [xLoad, hp, Option.bind_some]
    unfold rLoad at hv1 ⊢
    split at hv1
    · rename_i b off
      unfold aLoad at hv1 ⊢
      cases hr : cellsAt b h with
      | none => rw [hr] at hv1; cases hv1
      | some q => rw [hr] at hv1; rw [hh.cells hr]; exact hv1
    · cases hv1
  case convert s dt x =>
    obtain ⟨g, e, rfl⟩ := map_some hf
    obtain ⟨p, hp, hv1⟩ := bind_some hv
    simp only [xConv, hp, Option.bind_some]
    unfold aConv at hv1 ⊢
    split at hv1 <;> try exact hv1
    rename_i q n c
    obtain ⟨et, he, hv2⟩ := bind_some hv1
    simp only [he, Option.bind_some]
    cases hb : (isByte P et && isStr P dt) with
    | false => rw [hb] at hv2; cases hv2
    | true =>
      rw [hb] at hv2
      simp only [cond_true] at hv2 ⊢
      unfold strOf at hv2 ⊢
      split at hv2
      · exact hv2
      · rename_i b off n' c' heq
        cases hr : rowAt b h with
        | none => rw [hr] at hv2; cases hv2
        | some q => rw [hr] at hv2; rw [hh.row hr]; exact hv2
      · cases hv2
  case slice ty x lo hi mx =>
    obtain ⟨gx, ex, hf1⟩ := bind_some hf
    obtain ⟨gl, el, hf2⟩ := bind_some hf1
    obtain ⟨gh, eh, hf3⟩ := bind_some hf2
    obtain ⟨gm, em, rfl⟩ := map_some hf3
    obtain ⟨xv, e1, hv1⟩ := bind_some hv
    obtain ⟨lv, e2, hv2⟩ := bind_some hv1
    obtain ⟨hv', e3, hv3⟩ := bind_some hv2
    obtain ⟨mv, e4, hv4⟩ := bind_some hv3
    simp only [xSlice, e1, e2, e3, e4, Option.bind_some]
    unfold aSlice at hv4 ⊢
    split at hv4
    · exact hv4
    · obtain ⟨et, he, hv5⟩ := bind_some hv4
      obtain ⟨z, hz, hv6⟩ := bind_some hv5
      simp only [he, hz, Option.bind_some]
      unfold sliceV at hv6 ⊢
      obtain ⟨m0, k1, hv7⟩ := bind_some hv6
      obtain ⟨h0, k2, hv8⟩ := bind_some hv7
      obtain ⟨l0, k3, hv9⟩ := bind_some hv8
      simp only [k1, k2, k3, Option.bind_some]
      have hrow : ∀ q, rowE h et q = true → rowE h' et q = true := by
        intro q hq
        unfold rowE at hq ⊢
        split at hq
        · rfl
        · rename_i b off
          cases hr : rowAt b h with
          | none => rw [hr] at hq; cases hq
          | some p => rw [hr] at hq; rw [hh.row hr]; exact hq
        · cases hq
      generalize hbb : ((mv.isNone || hv'.isSome) && rowE h et _ && Nat.ble h0 m0 && (!(Nat.beq m0 l0) || mv.isSome || Nat.beq _ 0)) = bb at hv9
      cases bb with
      | false => cases hv9
      | true =>
        simp only [Bool.and_eq_true] at hbb
        rw [show ((mv.isNone || hv'.isSome) && rowE h' et _ && Nat.ble h0 m0 && (!(Nat.beq m0 l0) || mv.isSome || Nat.beq _ 0)) = true by simp only [Bool.and_eq_true]; exact ⟨⟨⟨hbb.1.1.1, hrow _ hbb.1.1.2⟩, hbb.1.2⟩, hbb.2⟩]
        exact hv9
    · cases hv4
  case lookup ty x i ok =>
    obtain ⟨gx, ex, hf1⟩ := bind_some hf
    obtain ⟨gy, ey, rfl⟩ := map_some hf1
    obtain ⟨xv, e1, hv1⟩ := bind_some hv
    obtain ⟨yv, e2, hv2⟩ := bind_some hv1
    simp only [xLookup, e1, e2, Option.bind_some]
    unfold aLookup at hv2 ⊢
    split at hv2
    · rename_i r k et hk
      unfold lookK at hv2 ⊢
      cases hb : (keyT P k && isKeyV P k yv) with
      | false => rw [hb] at hv2; cases hv2
      | true =>
        rw [hb] at hv2
        simp only [cond_true] at hv2 ⊢
        obtain ⟨z, hz, hv3⟩ := bind_some hv2
        obtain ⟨es, hes, hv4⟩ := bind_some hv3
        simp only [hz, Option.bind_some]
        have : esAt k h' r = some es := by
          cases r with
          | none => exact hes
          | some r => exact hh.map hes
        simp only [this, Option.bind_some]
        exact hv4
    · cases hv2
  case move x => obtain ⟨g, e, rfl⟩ := map_some hf; exact hv
  case assign x => obtain ⟨g, e, rfl⟩ := map_some hf; exact hv
  case pick c x y => obtain ⟨gc, ec, hf1⟩ := bind_some hf; obtain ⟨gx, ex, hf2⟩ := bind_some hf1; obtain ⟨gy, ey, rfl⟩ := map_some hf2; exact hv
  case nilCheck x => obtain ⟨g, e, rfl⟩ := map_some hf; exact hv
  case binOp bop ty x y yt => obtain ⟨gx, ex, hf1⟩ := bind_some hf; obtain ⟨gy, ey, rfl⟩ := map_some hf1; exact hv
  case unOp uop ty x => obtain ⟨g, e, rfl⟩ := map_some hf; exact hv
  case makeFunc fn first cap => cases fn <;> simp only at hf <;> try (cases hf; done)
                                obtain ⟨l1, e1, hf1⟩ := bind_some hf; obtain ⟨l2, e2, rfl⟩ := map_some hf1; exact hv
  case fieldAddr st x i => obtain ⟨g, e, rfl⟩ := map_some hf; exact hv
  case field ty x i => obtain ⟨g, e, rfl⟩ := map_some hf; exact hv
  case indexAddr ty x i => obtain ⟨gx, ex, hf1⟩ := bind_some hf; obtain ⟨gy, ey, rfl⟩ := map_some hf1; exact hv
  case index ty x i => obtain ⟨gx, ex, hf1⟩ := bind_some hf; obtain ⟨gy, ey, rfl⟩ := map_some hf1; exact hv
  case extract x i => obtain ⟨g, e, rfl⟩ := map_some hf; exact hv
  case build ty ps => obtain ⟨l, e, rfl⟩ := map_some hf; exact hv
  case call c =>
    obtain ⟨callee, args, ats⟩ := c
    simp only at hf
    unfold rCall at hf
    split at hf
    · simp only at hf
      obtain ⟨l, e, hf1⟩ := bind_some hf
      unfold rBuilt at hf1
      split at hf1
      · obtain ⟨ty, e2, rfl⟩ := map_some hf1; exact hv
      · cases hf1; exact hv
      · cases hf1; exact hv
      · cases hf1
    · cases hf
end
def bitsOf (acc : Array Nat) (o : Oper) : Nat := o.after.foldl (fun s e => if Region.binds .any e then s ||| 2 ^ e.on ||| acc.getD e.on 0 else s) 0
theorem bits_fold (acc : Array Nat) (j : Nat) : ∀ (l : List Edge) (s : Nat), (l.foldl (fun s e => if Region.binds .any e then s ||| 2 ^ e.on ||| acc.getD e.on 0 else s) s).testBit j = true → s.testBit j = true ∨ ∃ e ∈ l, Region.binds .any e = true ∧ (j = e.on ∨ (acc.getD e.on 0).testBit j = true)
  | [], s, h => .inl h
  | e :: l, s, h => by
    simp only [List.foldl_cons] at h
    rcases bits_fold acc j l _ h with q | ⟨e', h1, h2, h3⟩
    · cases hb : Region.binds .any e with
      | false => rw [hb] at q; exact .inl (by simpa using q)
      | true =>
        rw [hb] at q
        simp only [if_true, Nat.testBit_or, Bool.or_eq_true] at q
        rcases q with (q | q) | q
        · exact .inl q
        · rw [Nat.testBit_two_pow] at q
          exact .inr ⟨e, by simp, hb, .inl (by simpa using (of_decide_eq_true q).symm)⟩
        · exact .inr ⟨e, by simp, hb, .inr q⟩
    · exact .inr ⟨e', by simp [h1], h2, h3⟩
theorem bits_keep : ∀ (l : List Oper) (acc : Array Nat) (k v : Nat), acc[k]? = some v → (l.foldl (fun acc o => acc.push (bitsOf acc o)) acc)[k]? = some v
  | [], acc, k, v, h => h
  | o :: l, acc, k, v, h => by
    simp only [List.foldl_cons]
    have hk := (Array.getElem?_eq_some_iff.1 h).1
    exact bits_keep l _ k v (by rw [Array.getElem?_push, if_neg (by omega)]; exact h)
theorem bits_ok (j : Nat) : ∀ (l : List Oper) (acc : Array Nat) (i : Nat), ((l.foldl (fun acc o => acc.push (bitsOf acc o)) acc).getD i 0).testBit j = true → (acc.getD i 0).testBit j = true ∨ ∃ o e, l[i - acc.size]? = some o ∧ acc.size ≤ i ∧ e ∈ o.after.toList ∧ Region.binds .any e = true ∧ (j = e.on ∨ ((l.foldl (fun acc o => acc.push (bitsOf acc o)) acc).getD e.on 0).testBit j = true)
  | [], acc, i, h => .inl h
  | o :: l, acc, i, h => by
    simp only [List.foldl_cons] at h ⊢
    rcases bits_ok j l (acc.push (bitsOf acc o)) i h with q | ⟨o', e, h1, h2, h3, h4, h5⟩
    · rcases Nat.lt_trichotomy i acc.size with c | c | c
      · left
        rw [Array.getD_eq_getD_getElem?, Array.getElem?_push, if_neg (by omega)] at q
        rw [Array.getD_eq_getD_getElem?]
        exact q
      · subst c
        rw [Array.getD_eq_getD_getElem?, Array.getElem?_push_size] at q
        simp only [Option.getD_some] at q
        unfold bitsOf at q
        rw [← Array.foldl_toList] at q
        rcases bits_fold acc j _ _ q with q | ⟨e, h1, h2, h3⟩
        · simp at q
        · refine .inr ⟨o, e, by simp, Nat.le_refl _, h1, h2, ?_⟩
          rcases h3 with h3 | h3
          · exact .inl h3
          · right
            rw [Array.getD_eq_getD_getElem?] at h3 ⊢
            cases he : acc[e.on]? with
            | none => rw [he] at h3; simp at h3
            | some v =>
              rw [he] at h3
              rw [bits_keep l _ e.on v (by rw [Array.getElem?_push, if_neg (by have := (Array.getElem?_eq_some_iff.1 he).1; omega)]; exact he)]
              exact h3
      · rw [Array.getD_eq_getD_getElem?, Array.getElem?_eq_none (by simp; omega)] at q
        simp at q
    · rw [Array.size_push] at h1 h2
      refine .inr ⟨o', e, ?_, by omega, h3, h4, h5⟩
      obtain ⟨k, hk⟩ : ∃ k, i - acc.size = k + 1 := ⟨i - acc.size - 1, by omega⟩
      rw [hk, List.getElem?_cons_succ]
      rw [show i - (acc.size + 1) = k by omega] at h1
      exact h1
theorem before_ok {ops : Array Oper} {i j : Nat} (h : bt (Region.before ops) i j = true) : ∃ o e, ops[i]? = some o ∧ e ∈ o.after.toList ∧ Region.binds .any e = true ∧ (j = e.on ∨ bt (Region.before ops) e.on j = true) := by
  have e : Region.before ops = ops.toList.foldl (fun acc o => acc.push (bitsOf acc o)) #[] := by
    unfold Region.before bitsOf
    rw [← Array.foldl_toList]
  unfold bt at h ⊢
  rw [e] at h ⊢
  rcases bits_ok j ops.toList #[] i h with q | ⟨o, e, h1, h2, h3, h4, h5⟩
  · simp at q
  · exact ⟨o, e, by simpa using h1, h3, h4, h5⟩
section
variable {P : Program} {G : Nat} {E : EE} {ops : Array Oper} {b : Array Nat}
def Pend (P : Program) (G : Nat) (ops : Array Oper) (i : Nat) (a : AA) (h : AH) (m : Mp) (r : Nat) : Prop := ∃ o wn e p bw, ops[i]? = some o ∧ wantedG ops o.guard = some wn ∧ execO P G o.op = some e ∧ putO o.dst = some p ∧ wn a = some bw ∧ (∀ d, o.dst = some d → d < a.n) ∧
  ((bw = false ∧ ∀ d, o.dst = some d → a.get d = some undef) ∨
   (bw = true ∧ cls o.op = 0 ∧ ∃ f v, aRead P G o.op = some f ∧ f a h = some v ∧ ∀ d, o.dst = some d → a.get d = some v) ∨
   (bw = true ∧ cls o.op = 1 ∧ ∃ f q, aNew P G o.op = some f ∧ f a = some q ∧ r < h.n ∧ m r = none ∧ h.get r = some q.1 ∧ ∀ d, o.dst = some d → a.get d = some (q.2 r)))
theorem reads_op {o : Oper} {d : Tmp} (hd : Operand.tmp d ∈ o.op.operands.toList) : readsT ops o d = true := by
  unfold readsT
  simp only [Bool.or_eq_true]
  left
  unfold tmpsOf
  simp only [List.contains_eq_mem, List.mem_filterMap, decide_eq_true_eq]
  exact ⟨.tmp d, hd, rfl⟩
theorem wanted_congr {o : Oper} {wn : Wn} (hw : wantedG ops o.guard = some wn) {a a' : AA} (h : ∀ d, readsT ops o d = true → a'.get d = a.get d) : wn a' = wn a := by
  unfold wantedG at hw
  split at hw
  · cases hw; rfl
  · rename_i j want hg
    unfold wantedS at hw
    split at hw
    · cases hw; rfl
    · rename_i d hd
      obtain ⟨g, h1, rfl⟩ := map_some hw
      simp only [wnS]
      rw [AA.get_form h1, AA.get_form h1, h d (by unfold readsT; rw [hg]; simp [hd])]
theorem readsAt_eq {i : Nat} {o : Oper} (hi : ops[i]? = some o) (d : Tmp) : readsAt ops i d = readsT ops o d := by simp [readsAt, hi]
theorem dstOf_eq {i : Nat} {o : Oper} (hi : ops[i]? = some o) : dstOf ops i = o.dst := by simp [dstOf, hi]
theorem Pend.slots {i : Nat} {a a' : AA} {h : AH} {m : Mp} {r : Nat} (hp : Pend P G ops i a h m r) (hn : a'.n = a.n) (h1 : ∀ d, readsAt ops i d = true → a'.get d = a.get d) (h2 : ∀ d, dstOf ops i = some d → a'.get d = a.get d) : Pend P G ops i a' h m r := by
  obtain ⟨o, wn, e, p, bw, k1, k2, k3, k4, k5, k6, k7⟩ := hp
  have h1' : ∀ d, readsT ops o d = true → a'.get d = a.get d := fun d hd => h1 d (by rw [readsAt_eq k1]; exact hd)
  have h2' : ∀ d, o.dst = some d → a'.get d = a.get d := fun d hd => h2 d (by rw [dstOf_eq k1]; exact hd)
  refine ⟨o, wn, e, p, bw, k1, k2, k3, k4, by rw [wanted_congr k2 h1']; exact k5, fun d hd => by rw [hn]; exact k6 d hd, ?_⟩
  rcases k7 with ⟨q1, q2⟩ | ⟨q1, q2, f, v, q3, q4, q5⟩ | ⟨q1, q2, f, q, q3, q4, q5, q6, q7, q8⟩
  · exact .inl ⟨q1, fun d hd => by rw [h2' d hd]; exact q2 d hd⟩
  · exact .inr (.inl ⟨q1, q2, f, v, q3, by rw [aRead_congr q3 (a := a') (a' := a) fun d hd => h1' d (reads_op hd)]; exact q4, fun d hd => by rw [h2' d hd]; exact q5 d hd⟩)
  · exact .inr (.inr ⟨q1, q2, f, q, q3, by rw [aNew_congr q3 (a := a') (a' := a) fun d hd => h1' d (reads_op hd)]; exact q4, q5, q6, q7, fun d hd => by rw [h2' d hd]; exact q8 d hd⟩)
theorem Pend.heap {i : Nat} {a : AA} {h h' : AH} {m : Mp} {r : Nat} (hp : Pend P G ops i a h m r) (hh : HLe h h') (hn : h.n ≤ h'.n) : Pend P G ops i a h' m r := by
  obtain ⟨o, wn, e, p, bw, k1, k2, k3, k4, k5, k6, k7⟩ := hp
  refine ⟨o, wn, e, p, bw, k1, k2, k3, k4, k5, k6, ?_⟩
  rcases k7 with k7 | ⟨q1, q2, f, v, q3, q4, q5⟩ | ⟨q1, q2, f, q, q3, q4, q5, q6, q7, q8⟩
  · exact .inl k7
  · exact .inr (.inl ⟨q1, q2, f, v, q3, aRead_heap q3 hh q4, q5⟩)
  · exact .inr (.inr ⟨q1, q2, f, q, q3, q4, by omega, q6, hh _ _ q7, q8⟩)
theorem Pend.map {i : Nat} {a : AA} {h : AH} {m m' : Mp} {r : Nat} (hp : Pend P G ops i a h m r) (hm : r < h.n → m r = none → m' r = none) : Pend P G ops i a h m' r := by
  obtain ⟨o, wn, e, p, bw, k1, k2, k3, k4, k5, k6, k7⟩ := hp
  refine ⟨o, wn, e, p, bw, k1, k2, k3, k4, k5, k6, ?_⟩
  rcases k7 with k7 | k7 | ⟨q1, q2, f, q, q3, q4, q5, q6, q7, q8⟩
  · exact .inl k7
  · exact .inr (.inl k7)
  · exact .inr (.inr ⟨q1, q2, f, q, q3, q4, q5, hm q5 q6, q7, q8⟩)
theorem step_parts {o : Oper} {s : St} (hst : stepO P G ops o = some s) {a a' : AA} {h h' : AH} (hv : s E a h = some (a', h')) : ∃ wn e p bw v, wantedG ops o.guard = some wn ∧ execO P G o.op = some e ∧ putO o.dst = some p ∧ wn a = some bw ∧ p v a = some a' ∧ ((bw = true ∧ e E a h = some (v, h')) ∨ (bw = false ∧ v = undef ∧ h' = h)) := by
  unfold stepO at hst
  obtain ⟨wn, hw, hst1⟩ := bind_some hst
  obtain ⟨e, he, hst2⟩ := bind_some hst1
  obtain ⟨p, hp, rfl⟩ := map_some hst2
  obtain ⟨bw, hb, hv1⟩ := bind_some hv
  unfold stB at hv1
  split at hv1
  · obtain ⟨⟨v, h1⟩, hv2, hv3⟩ := bind_some hv1
    simp only [putR] at hv3
    obtain ⟨a1, hp1, hv4⟩ := bind_some hv3
    simp only [withH, Option.some.injEq, Prod.mk.injEq] at hv4
    obtain ⟨rfl, rfl⟩ := hv4
    exact ⟨wn, e, p, true, v, hw, he, hp, hb, hp1, .inl ⟨rfl, hv2⟩⟩
  · simp only [putR] at hv1
    obtain ⟨a1, hp1, hv4⟩ := bind_some hv1
    simp only [withH, Option.some.injEq, Prod.mk.injEq] at hv4
    obtain ⟨rfl, rfl⟩ := hv4
    exact ⟨wn, e, p, false, undef, hw, he, hp, hb, hp1, .inr ⟨rfl, rfl, rfl⟩⟩
theorem step_make {o : Oper} {wn : Wn} {e : Exe} {p : Pt} (hw : wantedG ops o.guard = some wn) (he : execO P G o.op = some e) (hp : putO o.dst = some p) {a a' : AA} {h h' : AH} {bw : Bool} {v : Value} (hb : wn a = some bw) (hpa : p v a = some a') (hc : (bw = true ∧ e E a h = some (v, h')) ∨ (bw = false ∧ v = undef ∧ h' = h)) : ∃ s, stepO P G ops o = some s ∧ s E a h = some (a', h') := by
  refine ⟨st wn e p, by simp [stepO, hw, he, hp], ?_⟩
  simp only [st, hb, Option.bind_some]
  rcases hc with ⟨rfl, hc⟩ | ⟨rfl, rfl, rfl⟩
  · simp [stB, hc, putR, hpa, withH]
  · simp [stB, putR, hpa, withH]
theorem put_ex {d : Option Tmp} {p : Pt} (hp : putO d = some p) {a : AA} (hd : ∀ k, d = some k → k < a.n) (v : Value) : ∃ a', p v a = some a' := by
  cases d with
  | none => simp only [putO, Option.some.injEq] at hp; subst hp; exact ⟨a, rfl⟩
  | some k =>
    simp only [putO] at hp
    obtain ⟨u, hu, rfl⟩ := map_some hp
    obtain ⟨n, t⟩ := a
    have : k < n := hd k rfl
    exact ⟨_, by simp only [ptAt, AA.putF]; rw [show Nat.blt k n = true by rw [Nat.blt_eq]; exact this]; rfl⟩
end
section
variable {P : Program} {G : Nat} {E : EE} {ops : Array Oper} {b : Array Nat}
structure RegF (ops : Array Oper) (b : Array Nat) : Prop where
  edge : ∀ i o e, ops[i]? = some o → e ∈ o.after.toList → Region.binds .any e = true → e.on < i
  apart : ∀ i j d, i < ops.size → j < ops.size → dstOf ops j = some d → i = j ∨ dstOf ops i ≠ some d
  tail : ∀ i j d, i < ops.size → j < ops.size → dstOf ops j = some d → readsAt ops i d = true → isTail ops b j = true → isTail ops b i = false ∧ bt b j i = true
  body : ∀ i j d, i < ops.size → j < ops.size → dstOf ops j = some d → readsAt ops i d = true → isTail ops b j = false → i ≠ j ∧ bt b i j = true
theorem regF_of (h : (List.range ops.size).all (regOk1 ops b) = true) : RegF ops b := by
  have hi : ∀ i, i < ops.size → ∃ o, ops[i]? = some o ∧ (o.after.toList.all fun e => !Region.binds .any e || Nat.blt e.on i) = true ∧ ∀ j, j < ops.size → apartA ops b o i j = true := by
    intro i hi
    have := List.all_eq_true.1 h i (List.mem_range.2 hi)
    unfold regOk1 at this
    split at this
    · cases this
    · rename_i o ho
      simp only [Bool.and_eq_true] at this
      exact ⟨o, ho, this.1, fun j hj => List.all_eq_true.1 this.2 j (List.mem_range.2 hj)⟩
  have ap : ∀ i j d, i < ops.size → j < ops.size → dstOf ops j = some d → (i = j ∨ dstOf ops i ≠ some d) ∧ (readsAt ops i d = true → cond (isTail ops b j) (!(isTail ops b i) && bt b j i) (!(Nat.beq i j) && bt b i j) = true) := by
    intro i j d h1 h2 hd
    obtain ⟨o, ho, -, ha⟩ := hi i h1
    have := ha j h2
    unfold apartA at this
    rw [hd] at this
    simp only [Bool.and_eq_true, Bool.or_eq_true] at this
    obtain ⟨q1, q2⟩ := this
    refine ⟨?_, fun hr => ?_⟩
    · rcases q1 with q1 | q1
      · exact .inl (Nat.eq_of_beq_eq_true q1)
      · right
        rw [dstOf_eq ho]
        simpa using q1
    · rcases q2 with q2 | q2
      · rw [readsAt_eq ho] at hr
        rw [hr] at q2
        cases q2
      · exact q2
  refine ⟨fun i o e ho he hb => ?_, fun i j d h1 h2 hd => (ap i j d h1 h2 hd).1, fun i j d h1 h2 hd hr ht => ?_, fun i j d h1 h2 hd hr ht => ?_⟩
  · have hlt : i < ops.size := (Array.getElem?_eq_some_iff.1 ho).1
    obtain ⟨o', ho', h1, -⟩ := hi i hlt
    rw [ho] at ho'
    cases ho'
    have := List.all_eq_true.1 h1 e he
    simp only [hb, Bool.not_true, Bool.false_or] at this
    simpa [Nat.blt_eq] using this
  · have := (ap i j d h1 h2 hd).2 hr
    rw [ht] at this
    simpa using this
  · have := (ap i j d h1 h2 hd).2 hr
    rw [ht] at this
    simp only [cond_false, Bool.and_eq_true, Bool.not_eq_true'] at this
    refine ⟨?_, this.2⟩
    rintro rfl
    simp at this
structure IR (P : Program) (G : Nat) (ops : Array Oper) (b : Array Nat) (z : Nat) (Dn U : Nat → Prop) (a0 a : AA) (h : AH) (m : Mp) (ρ : Nat → Nat) : Prop where
  n : a.n = a0.n
  pend : ∀ i, U i → Pend P G ops i a h m (ρ i)
  uni : ∀ i, U i → i < ops.size ∧ isChain ops i = false ∧ isTail ops b i = false
  inj : ∀ i i', U i → U i' → ρ i = ρ i' → i = i'
  lim : ∀ i, U i → (z ≤ ρ i ∧ ρ i < h.n) ∨ ρ i = 4096 + i
  ref : ∀ d, (∀ i, (U i ∨ Dn i) → dstOf ops i ≠ some d) → a.get d = a0.get d
  dfn : ∀ i d, (U i ∨ Dn i) → dstOf ops i = some d → ∃ v, a.get d = some v
theorem cls_lt {o : Oper} {i : Nat} (ho : ops[i]? = some o) (hc : isChain ops i = false) : cls o.op = 0 ∨ cls o.op = 1 := by
  have hc : Nat.ble 2 (cls o.op) = false := by
    unfold isChain at hc
    rw [ho] at hc
    exact hc
  have : ¬ 2 ≤ cls o.op := fun q => by rw [Nat.ble_eq_true_of_le q] at hc; cases hc
  omega
theorem IR.step {z : Nat} {Dn U : Nat → Prop} {a0 a : AA} {h : AH} {m : Mp} {ρ : Nat → Nat} {w : World} (F : RegF ops b) (I : IR P G ops b z Dn U a0 a h m ρ) (hz : z ≤ h.n) (R : Rel P G m h w) {j : Nat} (hU : ¬ U j) (hD : ∀ i, Dn i → i < ops.size ∧ i ≠ j) (hc : isChain ops j = false) (ht : isTail ops b j = false) (hr : ∀ i, U i → noRead ops i j = true)
    {a1 : AA} {h1 : AH} (hrun : runS E a h (stepI P G ops false j) = some (a1, h1)) :
    Rel P G m h1 w ∧ Ext m m h h1 w w ∧ (∃ ρ', IR P G ops b z Dn (fun i => U i ∨ i = j) a0 a1 h1 m ρ') ∧ ∀ d, dstOf ops j ≠ some d → a1.get d = a.get d := by
  unfold runS at hrun
  split at hrun
  case h_2 => cases hrun
  case h_1 =>
  rename_i s hs
  simp only [stepI] at hs
  obtain ⟨o, ho, hst⟩ := bind_some hs
  have hj : j < ops.size := (Array.getElem?_eq_some_iff.1 ho).1
  obtain ⟨wn, e, p, bw, v, k1, k2, k3, k4, k5, k6⟩ := step_parts hst hrun
  obtain ⟨p1, p2, p3⟩ := putO_ok k3 k5
  have hd : dstOf ops j = o.dst := dstOf_eq ho
  have hoff : ∀ d, dstOf ops j ≠ some d → a1.get d = a.get d := fun d q => by rw [p3 d, if_neg (by rw [← hd]; exact q)]
  have hown : ∀ d, readsAt ops j d = true → a1.get d = a.get d := fun d q => hoff d fun q2 => (F.body j j d hj hj q2 q ht).1 rfl
  have hread : ∀ i, U i → ∀ d, readsAt ops i d = true → a1.get d = a.get d := fun i hi d q => hoff d fun q2 => by
    have := hr i hi
    unfold noRead at this
    rw [q2] at this
    simp only [q] at this
    cases this
  have hdst : ∀ i, (U i ∨ Dn i) → ∀ d, dstOf ops i = some d → a1.get d = a.get d := fun i hi d q => hoff d fun q2 => by
    have hin : i < ops.size ∧ i ≠ j := by
      rcases hi with hi | hi
      · exact ⟨(I.uni i hi).1, fun e => hU (e ▸ hi)⟩
      · exact hD i hi
    rcases F.apart i j d hin.1 hj q2 with e | e
    · exact hin.2 e
    · exact e q
  -- what the memory becomes
  have key : Rel P G m h1 w ∧ Ext m m h h1 w w ∧ HLe h h1 ∧ h.n ≤ h1.n ∧ ∃ r, Pend P G ops j a1 h1 m r ∧ ((h.n ≤ r ∧ r < h1.n) ∨ r = 4096 + j) := by
    rcases k6 with ⟨rfl, k6⟩ | ⟨rfl, rfl, rfl⟩
    · have k2' := k2
      unfold execO execN at k2
      rcases cls_lt ho hc with hcl | hcl
      · rw [hcl] at k2
        obtain ⟨f, hf, rfl⟩ := map_some k2
        obtain ⟨v1, hv1, hv2⟩ := bind_some k6
        simp only [same, Option.some.injEq, Prod.mk.injEq] at hv2
        obtain ⟨rfl, rfl⟩ := hv2
        refine ⟨R, .refl m _ w, fun _ _ q => q, Nat.le_refl _, 4096 + j, ⟨o, wn, _, p, true, ho, k1, k2', k3, ?_, fun d q => by rw [p1]; exact p2 d q, .inr (.inl ⟨rfl, hcl, f, v1, hf, ?_, fun d q => by rw [p3 d, if_pos q]⟩)⟩, .inr rfl⟩
        · rw [wanted_congr k1 (a := a) (a' := a1) fun d q => hown d (by rw [readsAt_eq ho]; exact q)]; exact k4
        · rw [aRead_congr hf (a := a1) (a' := a) fun d q => hown d (by rw [readsAt_eq ho]; exact reads_op q)]; exact hv1
      · rw [hcl] at k2
        obtain ⟨f, hf, rfl⟩ := map_some k2
        obtain ⟨q, hv1, hv2⟩ := bind_some k6
        unfold mkNew at hv2
        cases hb : Nat.blt h.n 4096 with
        | false => rw [hb] at hv2; cases hv2
        | true =>
          rw [hb] at hv2
          simp only [cond_true, Option.some.injEq, Prod.mk.injEq] at hv2
          obtain ⟨rfl, rfl⟩ := hv2
          have hn : h.n < 4096 := by simpa [Nat.blt_eq] using hb
          obtain ⟨R2, E2⟩ := R.newA hn q.1
          have hle : HLe h (h.new q.1) := fun r o' hr' => by
            rw [AH.get_new hn]
            by_cases c : r = h.n
            · subst c
              rw [R.top h.n (Nat.le_refl _)] at hr'
              cases hr'
            · rw [if_neg c]; exact hr'
          refine ⟨R2, E2, hle, E2.nn, h.n, ⟨o, wn, _, p, true, ho, k1, k2', k3, ?_, fun d q' => by rw [p1]; exact p2 d q', .inr (.inr ⟨rfl, hcl, f, q, hf, ?_, by rw [AH.new_n]; omega, R.none_at (Nat.le_refl _), by rw [AH.get_new hn, if_pos rfl], fun d q' => by rw [p3 d, if_pos q']⟩)⟩, .inl ⟨Nat.le_refl _, by rw [AH.new_n]; omega⟩⟩
          · rw [wanted_congr k1 (a := a) (a' := a1) fun d q => hown d (by rw [readsAt_eq ho]; exact q)]; exact k4
          · rw [aNew_congr hf (a := a1) (a' := a) fun d q => hown d (by rw [readsAt_eq ho]; exact reads_op q)]; exact hv1
    · refine ⟨R, .refl m _ w, fun _ _ q => q, Nat.le_refl _, 4096 + j, ⟨o, wn, e, p, false, ho, k1, k2, k3, ?_, fun d q => by rw [p1]; exact p2 d q, .inl ⟨rfl, fun d q => by rw [p3 d, if_pos q]⟩⟩, .inr rfl⟩
      rw [wanted_congr k1 (a := a) (a' := a1) fun d q => hown d (by rw [readsAt_eq ho]; exact q)]; exact k4
  obtain ⟨R1, E1, HL, HN, r, hpj, hr1⟩ := key
  refine ⟨R1, E1, ⟨fun i => if i = j then r else ρ i, ?_⟩, hoff⟩
  refine ⟨p1.trans I.n, fun i hi => ?_, fun i hi => ?_, fun i i' hi hi' => ?_, fun i hi => ?_, fun d hd' => ?_, fun i d hi hd' => ?_⟩
  · by_cases c : i = j
    · subst c; simp only [if_true]; exact hpj
    · simp only [c, if_false]
      have hUi : U i := hi.resolve_right c
      exact ((I.pend i hUi).slots p1 (hread i hUi) (hdst i (.inl hUi))).heap HL HN
  · rcases hi with hi | rfl
    · exact I.uni i hi
    · exact ⟨hj, hc, ht⟩
  · have hlimU : ∀ i, U i → i ≠ j → ρ i ≠ r := fun i hi hne q => by
      rcases I.lim i hi with l1 | l1
      · rcases hr1 with l2 | l2
        · omega
        · have := R.lim; omega
      · rcases hr1 with l2 | l2
        · have := R1.lim; omega
        · omega
    by_cases c : i = j
    · by_cases c' : i' = j
      · intro _; rw [c, c']
      · simp only [c, if_true, c', if_false]
        intro q
        exact absurd q.symm (hlimU i' (hi'.resolve_right c') c')
    · by_cases c' : i' = j
      · simp only [c, if_false, c', if_true]
        intro q
        exact absurd q (hlimU i (hi.resolve_right c) c)
      · simp only [c, if_false, c']
        exact I.inj i i' (hi.resolve_right c) (hi'.resolve_right c')
  · by_cases c : i = j
    · subst c
      simp only [if_true]
      rcases hr1 with q | q
      · exact .inl ⟨by omega, q.2⟩
      · exact .inr q
    · simp only [c, if_false]
      rcases I.lim i (hi.resolve_right c) with q | q
      · exact .inl ⟨q.1, by omega⟩
      · exact .inr q
  · rw [hoff d (hd' j (.inl (.inr rfl)))]
    exact I.ref d fun i hi => hd' i (by rcases hi with hi | hi; · exact .inl (.inl hi)
                                        · exact .inr hi)
  · by_cases c : i = j
    · subst c
      rw [p3 d, if_pos (by rw [← hd]; exact hd')]
      exact ⟨v, rfl⟩
    · have hi' : U i ∨ Dn i := by
        rcases hi with (hi | hi) | hi
        · exact .inl hi
        · exact absurd hi c
        · exact .inr hi
      rw [hdst i hi' d hd']
      exact I.dfn i d hi' hd'
theorem IR.seg (F : RegF ops b) {z : Nat} : ∀ (l dn : List Nat) {Dn U : Nat → Prop} {a0 a : AA} {h : AH} {m : Mp} {ρ : Nat → Nat} {w : World}, IR P G ops b z Dn U a0 a h m ρ → z ≤ h.n → Rel P G m h w → (∀ i, U i → i ∈ dn) → (∀ i, Dn i → i < ops.size ∧ i ∉ l) → segOk ops b dn l = true → ∀ {a1 : AA} {h1 : AH}, evIdx P G E ops false l a h = some (a1, h1) →
    Rel P G m h1 w ∧ Ext m m h h1 w w ∧ (∃ ρ', IR P G ops b z Dn (fun i => U i ∨ i ∈ l) a0 a1 h1 m ρ') ∧ ∀ d, (∀ i ∈ l, dstOf ops i ≠ some d) → a1.get d = a.get d
  | [], dn, Dn, U, a0, a, h, m, ρ, w, I, hz, R, hU, hD, hs, a1, h1, hrun => by
    simp only [evIdx, Option.some.injEq, Prod.mk.injEq] at hrun
    obtain ⟨rfl, rfl⟩ := hrun
    refine ⟨R, .refl m h w, ⟨ρ, ?_⟩, fun d _ => rfl⟩
    have e : (fun i => U i ∨ i ∈ ([] : List Nat)) = U := by funext i; simp
    rw [e]
    exact I
  | j :: l, dn, Dn, U, a0, a, h, m, ρ, w, I, hz, R, hU, hD, hs, a1, h1, hrun => by
    simp only [segOk, Bool.and_eq_true, Bool.not_eq_true'] at hs
    obtain ⟨⟨⟨s1, s2⟩, s3⟩, s4⟩ := hs
    simp only [evIdx] at hrun
    obtain ⟨⟨a2, h2⟩, r1, r2⟩ := bind_some hrun
    simp only [thenO] at r2
    have hall : ∀ i, U i → noRead ops i j = true ∧ i ≠ j := fun i hi => by
      have := List.all_eq_true.1 s3 i (hU i hi)
      simp only [Bool.and_eq_true, Bool.not_eq_true'] at this
      refine ⟨this.1, ?_⟩
      rintro rfl
      simp at this
    obtain ⟨R2, E2, ⟨ρ2, I2⟩, off2⟩ := I.step (E := E) F hz R (j := j) (fun q => (hall j q).2 rfl) (fun i hi => ⟨(hD i hi).1, fun e => (hD i hi).2 (by simp [e])⟩) s1 s2 (fun i hi => (hall i hi).1) r1
    obtain ⟨R3, E3, ⟨ρ3, I3⟩, off3⟩ := IR.seg F l (j :: dn) I2 (Nat.le_trans hz E2.nn) R2 (fun i hi => by
      rcases hi with hi | rfl
      · exact List.mem_cons_of_mem _ (hU i hi)
      · simp) (fun i hi => ⟨(hD i hi).1, fun e => (hD i hi).2 (by simp [e])⟩) s4 r2
    refine ⟨R3, E2.trans E3, ⟨ρ3, ?_⟩, fun d hd => ?_⟩
    · have e : (fun i => (U i ∨ i = j) ∨ i ∈ l) = (fun i => U i ∨ i ∈ j :: l) := by funext i; simp [or_assoc]
      rw [← e]
      exact I3
    · rw [off3 d fun i hi => hd i (by simp [hi]), off2 d (hd j (by simp))]
theorem again_ok : ∀ (l : List Nat) {a a1 : AA} {h h1 : AH}, evIdx P G E ops true l a h = some (a1, h1) → a1 = a ∧ h1 = h ∧ ∀ i ∈ l, ∃ o wn f d, ops[i]? = some o ∧ wantedG ops o.guard = some wn ∧ aRead P G o.op = some f ∧ o.dst = some d ∧ (wn a = some true → ∃ v, f a h = some v ∧ a.get d = some v)
  | [], a, a1, h, h1, hrun => by
    simp only [evIdx, Option.some.injEq, Prod.mk.injEq] at hrun
    obtain ⟨rfl, rfl⟩ := hrun
    exact ⟨rfl, rfl, fun i hi => by simp at hi⟩
  | j :: l, a, a1, h, h1, hrun => by
    simp only [evIdx] at hrun
    obtain ⟨⟨a2, h2⟩, r1, r2⟩ := bind_some hrun
    simp only [thenO] at r2
    unfold runS at r1
    split at r1
    · rename_i s hs
      simp only [stepI] at hs
      obtain ⟨o, ho, hst⟩ := bind_some hs
      unfold againO at hst
      obtain ⟨wn, hw, hst1⟩ := bind_some hst
      obtain ⟨f, hf, hst2⟩ := bind_some hst1
      unfold agD at hst2
      split at hst2
      · cases hst2
      · rename_i d hd
        obtain ⟨g, hg, rfl⟩ := map_some hst2
        obtain ⟨bw, hb, r3⟩ := bind_some r1
        have key : a2 = a ∧ h2 = h ∧ (bw = true → ∃ v, f a h = some v ∧ a.get d = some v) := by
          unfold agB at r3
          split at r3
          · obtain ⟨v, hv, r4⟩ := bind_some r3
            unfold againV at r4
            obtain ⟨u, hu, r5⟩ := bind_some r4
            unfold againU at r5
            cases hq : veq v u with
            | false => rw [hq] at r5; cases r5
            | true =>
              rw [hq] at r5
              simp only [cond_true, Option.some.injEq, Prod.mk.injEq] at r5
              obtain ⟨rfl, rfl⟩ := r5
              rw [AA.get_form hg] at hu
              exact ⟨rfl, rfl, fun _ => ⟨v, hv, by rw [hu, veq_eq hq]⟩⟩
          · simp only [Option.some.injEq, Prod.mk.injEq] at r3
            obtain ⟨rfl, rfl⟩ := r3
            exact ⟨rfl, rfl, fun q => by cases q⟩
        obtain ⟨rfl, rfl, hk⟩ := key
        obtain ⟨e1, e2, h3⟩ := again_ok l r2
        refine ⟨e1, e2, fun i hi => ?_⟩
        rcases List.mem_cons.1 hi with rfl | hi
        · exact ⟨o, wn, f, d, ho, hw, hf, hd, fun q => hk (by rw [hb] at q; simpa using q)⟩
        · exact h3 i hi
    · cases r1
end
end Go.Proofs.YtmolfmgchbjnbaaGreatDoor.Ev
