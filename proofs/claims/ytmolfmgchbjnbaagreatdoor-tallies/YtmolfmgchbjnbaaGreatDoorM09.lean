import Derived.Laws.BytesString
import Derived.Laws.Tables
import Derived.Lib.IndexBytes
import Derived.Test.YtmolfmgchbjnbaaGreatDoorM08
set_option linter.unusedSimpArgs false
set_option linter.unusedVariables false
namespace Go.Proofs.YtmolfmgchbjnbaaGreatDoor.Ev
open Go
section
variable {P : Program} {G : Nat} {m : Mp} {h : AH} {w : World}
theorem elemT_ok {t e : TypeId} (h : elemT P t = some e) : P.underlying t = some (.slice e) := by
 unfold elemT at h
 cases hu : P.underlying t with
 | none => simp [hu] at h
 | some d => cases d <;> simp [hu] at h; rw [h]
theorem fieldsT_ok {t : TypeId} {fs : Array Field} (h : fieldsT P t = some fs) : P.underlying t = some (.struct fs) := by
 unfold fieldsT at h
 cases hu : P.underlying t with
 | none => simp [hu] at h
 | some d => cases d <;> simp [hu] at h; rw [h]
theorem mapT_ok {t : TypeId} {ke : TypeId × TypeId} (h : mapT P t = some ke) : P.underlying t = some (.map ke.1 ke.2) := by
 unfold mapT at h
 cases hu : P.underlying t with
 | none => simp [hu] at h
 | some d => cases d <;> simp [hu] at h; rw [← h]
theorem intT_ok {t : TypeId} {k : IntKind} (h : intT P t = some k) : P.underlying t = some (.int k) := by
 unfold intT at h
 cases hu : P.underlying t with
 | none => simp [hu] at h
 | some d => cases d <;> simp [hu] at h; rw [h]
theorem isStr_ok {t : TypeId} (h : isStr P t = true) : P.underlying t = some .string := by unfold isStr at h; split at h <;> first | assumption | cases h
theorem isByte_ok {t : TypeId} (h : isByte P t = true) : P.underlying t = some (.int .u8) := by unfold isByte at h; split at h <;> first | assumption | cases h
theorem isSliceT_ok {t : TypeId} (h : isSliceT P t = true) : ∃ e, P.underlying t = some (.slice e) := by unfold isSliceT at h; split at h <;> first | exact ⟨_, by assumption⟩ | cases h
theorem bytesOf_ok {l : List Value} : ∀ {b : List UInt8}, bytesOf l = some b → ∀ {l' : List Value}, L2 (S1 m) l l' → ∃ ns : List Int, l' = ns.map (fun n => .int .u8 n) ∧ b = ns.map (fun n => UInt8.ofNat n.toNat) := by
 induction l with
 | nil => intro b hb l' hl; cases hb; rw [hl.nil_left]; exact ⟨[], rfl, rfl⟩
 | cons x l ih =>
  intro b hb l' hl
  obtain ⟨y, r, rfl, h1, h2⟩ := hl.cons_left
  unfold bytesOf at hb
  split at hb
  ·rename_i heq; cases heq
  ·rename_i n l0 heq
   cases heq
   cases hq : bytesOf l with
   | none => simp [hq] at hb
   | some q =>
    simp only [hq, Option.map_some, Option.some.injEq] at hb
    subst hb
    obtain ⟨ns, rfl, rfl⟩ := ih hq h2
    exact ⟨n :: ns, by simp [h1.s3.int], by simp⟩
  ·cases hb
theorem foldl_push (ns : List Int) : ∀ (s : ByteArray), (ns.foldl (fun r n => r.push (UInt8.ofNat n.toNat)) s).data.toList = s.data.toList ++ ns.map (fun n => UInt8.ofNat n.toNat) := by
 induction ns with
 | nil => intro s; simp
 | cons n ns ih => intro s; rw [List.foldl_cons, ih]; simp [ByteArray.push]
theorem conv_ok (R : Rel P G m h w) {s d : TypeId} {x x' v : Value} (hx : S3 m x x') (hv : aConv P h s d x = some v) : ∃ v', (convert s d x').run P w = .ok v' w ∧ S3 m v v' := by
 unfold aConv at hv
 split at hv
 ·rename_i k n
  rw [hx.int]
  cases hs : intT P s with
  | none => simp [hs] at hv
  | some k1 =>
   cases hd : intT P d with
   | none => simp [hs, hd] at hv
   | some k2 =>
    simp only [hs, hd, Option.bind_some, convI, Option.some.injEq, wr_eq, mkI_eq] at hv
    subst hv
    exact ⟨_, by simp [convert, run_underlying (intT_ok hs), run_underlying (intT_ok hd), Conv.intToInt], (s0_int _ _).s3⟩
 ·rename_i q
  rw [hx.string]
  cases hs : isStr P s with
  | false => simp [hs] at hv
  | true =>
   cases hd : isStr P d with
   | false => simp [hs, hd] at hv
   | true =>
    simp only [hs, hd, Bool.and_self, cond_true, Option.some.injEq] at hv
    subst hv
    exact ⟨_, by simp [convert, run_underlying (isStr_ok hs), run_underlying (isStr_ok hd)], (s0_str _).s3⟩
 ·rename_i o n c
  cases he : elemT P s with
  | none => simp [he] at hv
  | some e =>
   simp only [he, Option.bind_some] at hv
   cases hb : isByte P e with
   | false => simp [hb] at hv
   | true =>
    cases hd : isStr P d with
    | false => simp [hb, hd] at hv
    | true =>
     simp only [hb, hd, Bool.and_self, cond_true] at hv
     have hu := elemT_ok he
     have hud := isStr_ok hd
     have hue := isByte_ok hb
     unfold strOf at hv
     split at hv
     ·rename_i n' c' heq
      cases heq
      cases hv
      rw [hx.slN]
      exact ⟨_, by simp [convert, run_underlying hu, run_underlying hud, run_underlying hue, Conv.bytesToString], (s0_str _).s3⟩
     ·rename_i b off n' c' heq
      cases heq
      obtain ⟨a, c'', rfl, -, -, hsl⟩ := hx.sl
      unfold strR at hv
      split at hv
      ·rename_i xs e' hr
       obtain ⟨x, es, hm, rfl, -, hg, hO, -⟩ := R.sl hr hsl
       cases hc : cut xs off n with
       | none => simp [hc] at hv
       | some l =>
        simp only [hc, Option.bind_some] at hv
        cases hq : bytesOf l with
        | none => simp [hq] at hv
        | some bs =>
         simp only [hq, Option.map_some, Option.some.injEq, strV] at hv
         subst hv
         obtain ⟨l', hl, hcell⟩ := hO.cut hc
         have hlen : l'.length = n := by rw [← hl.1]; exact (cut_ok hc).2.1
         have hrun := run_loadCells_list (P := P) (w := w) ⟨x.b, off + x.s, none⟩ l' hcell
         rw [hlen] at hrun
         obtain ⟨ns, rfl, rfl⟩ := bytesOf_ok hq hl
         have hb := run_bytesToString (P := P) w ⟨x.b, off + x.s, none⟩ n c'' ns hrun
         refine ⟨_, by simp [convert, run_underlying hu, run_underlying hud, run_underlying hue, hb]; rfl, ?_⟩
         have e : (ns.foldl (fun r n => r.push (UInt8.ofNat n.toNat)) ByteArray.empty) = ⟨(ns.map (fun n => UInt8.ofNat n.toNat)).toArray⟩ := by
          apply WideShapes.bytes_inj
          rw [foldl_push]
          simp
         rw [e]
         exact (s0_str _).s3
      ·cases hv
     ·cases hv
 ·cases hv
theorem AdR.plus {b off : Nat} {a : Addr} (ha : AdR m ⟨b, off, none⟩ a) (k : Nat) : AdR m ⟨b, off + k, none⟩ (a.add k) := by
 obtain ⟨-, h2, h3⟩ := ha
 obtain ⟨q, r, s⟩ := a
 simp only at h2
 subst h2
 rw [add_off]
 refine ⟨rfl, rfl, ?_⟩
 rcases h3 with h3 | ⟨x, h3, h4, h5⟩
 ·exact .inl h3
 ·exact .inr ⟨x, h3, h4, by simp only at h5 ⊢; omega⟩
theorem SlR.ad {a a' : Addr} {c : Nat} (h : SlR m a a' c) : AdR m a a' := by
 obtain ⟨h1, h2, h3⟩ := h
 refine ⟨h1, h2, ?_⟩
 rcases h3 with h3 | ⟨x, h3, h4, h5, -⟩
 ·exact .inl h3
 ·exact .inr ⟨x, h3, h4, h5⟩
theorem fieldAddr_ok {s : TypeId} {i : Nat} {x x' v : Value} (hx : S3 m x x') (hv : aFieldAddr (fieldOffs P s i) x = some v) : ∃ v', (Instr.fieldAt s x' i).run P w = .ok v' w ∧ S3 m v v' := by
 unfold aFieldAddr at hv
 split at hv
 ·rename_i b off
  obtain ⟨a, rfl, ha⟩ := hx.ptr
  cases hk : fieldOffs P s i with
  | none => simp [hk] at hv
  | some k =>
   simp only [hk, Option.bind_some, Option.some.injEq, mkPtr_eq] at hv
   subst hv
   unfold fieldOffs at hk
   cases hf : fieldsT P s with
   | none => simp [hf] at hk
   | some fs =>
    simp only [hf, Option.bind_some] at hk
    cases hfi : fs[i]? with
    | none => simp [hfi] at hk
    | some f =>
     simp only [hfi, Option.bind_some] at hk
     cases hn : sizeT P f.type with
     | none => simp [hn] at hk
     | some n =>
      simp only [hn, Option.bind_some] at hk
      cases hz : Nat.beq n 0 with
      | true => simp [hz] at hk
      | false =>
       simp only [hz, cond_false, Option.some.injEq] at hk
       subst hk
       have hn0 : n ≠ 0 := by intro e; subst e; simp at hz
       exact ⟨.pointer (some (a.add f.offset)), by simp [Instr.fieldAt, run_underlying (fieldsT_ok hf), hfi, Instr.sureAddr, fieldPlace, size_ok hn, hn0], S0.s3 (ha.plus f.offset)⟩
 ·cases hv
theorem part_ok {t : TypeId} {cs cs' : Array Value} {off : Nat} (hc : L2 (S1 m) cs.toList cs'.toList) {b : Bool} (hb : aggOf P t = some b) {v : Value} (hv : aPart P t cs.toList off b = some v) : ∃ v', (part t cs' off).run P w = .ok v' w ∧ S3 m v v' := by
 cases b with
 | false =>
  simp only [aPart, nth_eq] at hv
  obtain ⟨y, hy, s⟩ := hc.at hv
  have : cs'[off]? = some y := by simpa using hy
  exact ⟨y, by simp [part, agg_ok hb, this], s.s3⟩
 | true =>
  simp only [aPart] at hv
  cases hn : sizeT P t with
  | none => simp [hn] at hv
  | some n =>
   simp only [hn, Option.bind_some] at hv
   cases hq : cut cs.toList off n with
   | none => simp [hq] at hv
   | some l =>
    simp only [hq, Option.map_some, Option.some.injEq, aggV] at hv
    subst hv
    obtain ⟨e, -, -⟩ := cut_ok hq
    refine ⟨.agg (cs'.extract off (off + n)), by simp [part, agg_ok hb, size_ok hn], .inl (.inr ⟨_, _, rfl, rfl, ?_⟩)⟩
    have : (cs'.extract off (off + n)).toList = (cs'.toList.drop off).take n := by simp [Array.toList_extract, List.extract_eq_take_drop]
    rw [this, e]
    simpa using (hc.drop off).take n
theorem field_ok {t : TypeId} {i : Nat} {x x' v : Value} (hx : S3 m x x') (hv : aField P t i x = some v) : ∃ v', (Instr.field t x' i).run P w = .ok v' w ∧ S3 m v v' := by
 unfold aField at hv
 split at hv
 ·rename_i cs
  obtain ⟨cs', rfl, hc⟩ := hx.agg
  cases hf : fieldsT P t with
  | none => simp [hf] at hv
  | some fs =>
   simp only [hf, Option.bind_some] at hv
   cases hfi : fs[i]? with
   | none => simp [hfi] at hv
   | some f =>
    simp only [hfi, Option.bind_some, fieldV] at hv
    cases hq : aggOf P f.type with
    | none => simp [hq] at hv
    | some q =>
     simp only [hq, Option.bind_some] at hv
     obtain ⟨v', h1, h2⟩ := part_ok (w := w) hc hq hv
     exact ⟨v', by simp [Instr.field, run_underlying (fieldsT_ok hf), hfi, asAgg, h1], h2⟩
 ·cases hv
theorem indexAddr_ok {t : TypeId} {x x' i i' v : Value} (hx : S3 m x x') (hi : S3 m i i') (hv : aIndexAddr (elemSz P t) (arrSz P t) x i = some v) : ∃ v', (Instr.indexAt t x' i').run P w = .ok v' w ∧ S3 m v v' := by
 unfold aIndexAddr at hv
 split at hv
 ·rename_i b off k j
  obtain ⟨a, rfl, ha⟩ := hx.ptr
  rw [hi.int]
  obtain ⟨⟨n, z⟩, hz, hv⟩ := Option.bind_eq_some_iff.1 hv
  unfold arrSz at hz
  obtain ⟨⟨n', e⟩, h1, h2⟩ := Option.bind_eq_some_iff.1 hz
  obtain ⟨z', h3, h4⟩ := Option.map_eq_some_iff.1 h2
  cases h4
  unfold arrNE at h1
  obtain ⟨d, hu, h5⟩ := Option.bind_eq_some_iff.1 h1
  have hu' : P.underlying t = some (.array n' e) := by
   cases d <;> simp at h5
   rw [hu, h5.1, h5.2]
  unfold arrPtr at hv
  simp only at hv h3
  cases hb : Nat.blt j n' with
  | false => simp [hb] at hv
  | true =>
   simp only [hb, cond_true, Option.some.injEq, mkPtr_eq] at hv
   subst hv
   have hj : j < n' := by simpa [Nat.blt_eq] using hb
   refine ⟨.pointer (some (a.add (j * z))), ?_, S0.s3 (ha.plus (j * z))⟩
   simp [Instr.indexAt, asIntOf, run_underlying hu', Instr.sureAddr, size_ok h3, hj]
 ·rename_i b off n c k j
  obtain ⟨a, c', rfl, -, -, hs⟩ := hx.sl
  rw [hi.int]
  cases hz : elemSz P t with
  | none => simp [hz] at hv
  | some z =>
   simp only [hz, Option.bind_some] at hv
   cases hb : Nat.blt j n with
   | false => simp [hb] at hv
   | true =>
    simp only [hb, cond_true, Option.some.injEq, mkPtr_eq] at hv
    subst hv
    have hj : j < n := by simpa [Nat.blt_eq] using hb
    unfold elemSz at hz
    cases he : elemT P t with
    | none => simp [he] at hz
    | some e =>
     simp only [he, Option.bind_some] at hz
     have hlt : (0 : Int) ≤ Int.ofNat j ∧ (Int.ofNat j : Int) < n := ⟨by simp, by simpa using hj⟩
     refine ⟨.pointer (some (a.add (j * z))), ?_, S0.s3 (hs.ad.plus (j * z))⟩
     simp [Instr.indexAt, asIntOf, run_underlying (elemT_ok he), size_ok hz, hj]
 ·cases hv
theorem index_ok {t : TypeId} {x x' i i' v : Value} (hx : S3 m x x') (hi : S3 m i i') (hv : aIndex P t x i = some v) : ∃ v', (Instr.index t x' i').run P w = .ok v' w ∧ S3 m v v' := by
 unfold aIndex at hv
 split at hv
 ·rename_i s k j
  rw [hx.string, hi.int]
  cases hu : isStr P t with
  | false => simp [hu] at hv
  | true =>
   simp only [hu, cond_true, nth_eq] at hv
   cases hq : s.data.toList[j]? with
   | none => simp [hq] at hv
   | some b =>
    simp only [hq, Option.map_some, Option.some.injEq] at hv
    subst hv
    have hj : j < s.size := by
     have := (List.getElem?_eq_some_iff.1 hq).1
     simpa using this
    have e : s[j]? = some b := by
     rw [ByteArray.getElem?_lt' s j hj]
     have := Lib.data_getElem? s j hj
     rw [hq] at this
     exact this.symm
    exact ⟨_, by simp [Instr.index, asIntOf, run_underlying (isStr_ok hu), e], (s0_int _ _).s3⟩
 ·cases hv
theorem len_ok {t ty : TypeId} {ts : Array TypeId} (ht : ts[0]? = some t) {l : List Value} {args : Array Value} (ha : L2 (S3 m) l args.toList) {v : Value} (hv : rLen P t l = some v) : ∃ v', (Builtin.len_ ts ty args).run P w = .ok v' w ∧ S3 m v v' := by
 unfold rLen at hv
 split at hv
 ·rename_i x
  obtain ⟨y, r, e, hx, hr⟩ := ha.cons_left
  have ha0 : args[0]? = some y := by rw [← Array.getElem?_toList, e]; rfl
  unfold aLen at hv
  split at hv
  ·rename_i s
   rw [hx.string] at ha0
   cases hu : isStr P t with
   | false => simp [hu] at hv
   | true =>
    simp only [hu, cond_true, Option.some.injEq] at hv
    subst hv
    exact ⟨goInt s.data.toList.length, by simp [Builtin.len_, ht, ha0, run_underlying (isStr_ok hu)], (s0_int _ _).s3⟩
  ·rename_i o n c
   cases hu : isSliceT P t with
   | false => simp [hu] at hv
   | true =>
    simp only [hu, cond_true, Option.some.injEq] at hv
    subst hv
    obtain ⟨e', he⟩ := isSliceT_ok hu
    cases o with
    | none =>
     rw [hx.slN] at ha0
     exact ⟨goInt n, by simp [Builtin.len_, ht, ha0, run_underlying he], (s0_int _ _).s3⟩
    | some a =>
     obtain ⟨b, c', rfl, -⟩ := hx.sl
     exact ⟨goInt n, by simp [Builtin.len_, ht, ha0, run_underlying he], (s0_int _ _).s3⟩
  ·cases hv
 ·cases hv
theorem minmax_ok {ts : Array TypeId} {ty : TypeId} {mx : Bool} {l : List Value} {args : Array Value} (ha : L2 (S3 m) l args.toList) {v : Value} (hv : aMinMax mx l = some v) : ∃ v', (if mx then Builtin.max_ ts ty args else Builtin.min_ ts ty args).run P w = .ok v' w ∧ S3 m v v' := by
 unfold aMinMax at hv
 split at hv
 ·rename_i k x k' y
  obtain ⟨x', r, e, hx, hr⟩ := ha.cons_left
  obtain ⟨y', r', e', hy, hr'⟩ := hr.cons_left
  rw [hr'.nil_left] at e'
  subst e'
  rw [hx.int, hy.int] at e
  simp only [ilt_eq, Option.some.injEq] at hv
  subst hv
  cases mx with
  | true => exact ⟨_, by simp [Builtin.max_, Builtin.max2, e]; rfl, by by_cases c : x < y <;> simp [c] <;> exact (s0_int _ _).s3⟩
  | false => exact ⟨_, by simp [Builtin.min_, Builtin.min2, e]; rfl, by by_cases c : y < x <;> simp [c] <;> exact (s0_int _ _).s3⟩
 ·cases hv
end
section
variable {P : Program} {G : Nat} {m : Mp} {h : AH} {w : World}
def OV (m : Mp) : Option Value → Option Value → Prop
 | none, none => True
 | some v, some v' => S3 m v v'
 | _, _ => False
theorem idx_ok {y : Nat} {v v' : Value} {i : Nat} (hv : idx y v = some i) (hs : S3 m v v') {y' : Nat} (hy : y ≤ y') (c : BoundsCode) : (Instr.sliceBound v' y' c).run P w = .ok i w ∧ i ≤ y := by
 unfold idx at hv
 split at hv
 ·rename_i k j
  cases hb : Nat.ble j y with
  | false => simp [hb] at hv
  | true =>
   simp only [hb, cond_true, Option.some.injEq] at hv
   subst hv
   have hle := Nat.le_of_ble_eq_true hb
   rw [hs.int]
   refine ⟨?_, hle⟩
   have : j ≤ y' := by omega
   simp [Instr.sliceBound, asIntOf, this]
 ·cases hv
theorem sliceS_ok {t : TypeId} {s : ByteArray} {lo lo' hi hi' : Option Value} {v : Value} (hu : P.underlying t = some .string) (hl : OV m lo lo') (hh : OV m hi hi') (hv : sliceS s lo hi = some v) : ∃ v', (Instr.sliceAt t (.string s) lo' hi' none).run P w = .ok v' w ∧ S3 m v v' := by
 unfold sliceS at hv
 cases h1 : idxO s.size s.size hi with
 | none => simp [h1] at hv
 | some e =>
  simp only [h1, Option.bind_some] at hv
  cases h2 : idxO e 0 lo with
  | none => simp [h2] at hv
  | some b =>
   simp only [h2, Option.map_some, Option.some.injEq] at hv
   rw [← Lib.extract_eq] at hv
   subst hv
   refine ⟨.string (s.extract b e), ?_, (s0_str _).s3⟩
   have hb : (Instr.sliceBounds false s.size s.size lo' hi' none).run P w = .ok (b, e, s.size) w := by
    unfold Instr.sliceBounds
    cases hi with
    | none =>
     cases hi' with
     | some _ => exact hh.elim
     | none =>
      simp only [idxO, Option.some.injEq] at h1
      subst h1
      cases lo with
      | none =>
       cases lo' with
       | some _ => exact hl.elim
       | none => simp only [idxO, Option.some.injEq] at h2; subst h2; simp
      | some q =>
       cases lo' with
       | none => exact hl.elim
       | some q' => simp only [idxO] at h2; simp [(idx_ok (P := P) (w := w) h2 hl (Nat.le_refl _) _).1]
    | some p =>
     cases hi' with
     | none => exact hh.elim
     | some p' =>
      simp only [idxO] at h1
      have := fun c => (idx_ok (P := P) (w := w) h1 hh (Nat.le_refl _) c).1
      cases lo with
      | none =>
       cases lo' with
       | some _ => exact hl.elim
       | none => simp only [idxO, Option.some.injEq] at h2; subst h2; simp [this]
      | some q =>
       cases lo' with
       | none => exact hl.elim
       | some q' => simp only [idxO] at h2; simp [this, (idx_ok (P := P) (w := w) h2 hl (Nat.le_refl _) _).1]
   simp [Instr.sliceAt, run_underlying hu, Instr.slice, hb]
theorem boundsV_ok {cap cap' n m0 h0 l0 : Nat} {lo lo' hi hi' mx mx' : Option Value} (hc : cap ≤ cap') (hl : OV m lo lo') (hh : OV m hi hi') (hm : OV m mx mx') (h1 : idxO cap cap mx = some m0) (h2 : idxO m0 n hi = some h0) (h3 : idxO h0 0 lo = some l0) (hmh : mx.isNone = true ∨ hi.isSome = true) :
  ∃ m', (Instr.sliceBounds true n cap' lo' hi' mx').run P w = .ok (l0, h0, m') w ∧ m0 ≤ m' ∧ m' ≤ cap' ∧ (mx.isSome = true → m' = m0) ∧ (mx.isNone = true → m' = cap' ∧ m0 = cap) ∧ l0 ≤ h0 := by
 have hlo : l0 ≤ h0 := by
  cases lo with
  | none => simp only [idxO, Option.some.injEq] at h3; omega
  | some q =>
   cases lo' with
   | none => exact hl.elim
   | some q' => exact (idx_ok (P := P) (w := w) h3 hl (Nat.le_refl _) .index).2
 have lorun : ∀ c, (match lo' with | some v => Instr.sliceBound v h0 c | none => pure 0 : Sem Nat).run P w = .ok l0 w := by
  intro c
  cases lo with
  | none =>
   cases lo' with
   | some _ => exact hl.elim
   | none => simp only [idxO, Option.some.injEq] at h3; subst h3; simp
  | some q =>
   cases lo' with
   | none => exact hl.elim
   | some q' => simp only [idxO] at h3; simp [(idx_ok (P := P) (w := w) h3 hl (Nat.le_refl _) _).1]
 unfold Instr.sliceBounds
 cases mx with
 | none =>
  cases mx' with
  | some _ => exact hm.elim
  | none =>
   simp only [idxO, Option.some.injEq] at h1
   subst h1
   refine ⟨cap', ?_, hc, Nat.le_refl _, by simp, by simp, hlo⟩
   cases hi with
   | none =>
    cases hi' with
    | some _ => exact hh.elim
    | none =>
     simp only [idxO, Option.some.injEq] at h2
     subst h2
     have := lorun .sliceB
     cases lo' <;> simp_all
   | some p =>
    cases hi' with
    | none => exact hh.elim
    | some p' =>
     simp only [idxO] at h2
     have q := fun c => (idx_ok (P := P) (w := w) h2 hh hc c).1
     have := lorun .sliceB
     cases lo' <;> simp_all
 | some p =>
  cases mx' with
  | none => exact hm.elim
  | some p' =>
   simp only [idxO] at h1
   have q1 := fun c => (idx_ok (P := P) (w := w) h1 hm hc c).1
   have q2 := (idx_ok (P := P) (w := w) h1 hm hc .index).2
   refine ⟨m0, ?_, Nat.le_refl _, by omega, by simp, by simp, hlo⟩
   cases hi with
   | none => simp at hmh
   | some r =>
    cases hi' with
    | none => exact hh.elim
    | some r' =>
     simp only [idxO] at h2
     have q := fun c => (idx_ok (P := P) (w := w) h2 hh (Nat.le_refl _) c).1
     have := lorun .slice3C
     cases lo' <;> simp_all
theorem slicePl_eq (a : Option Addr) (z l h' m0 : Nat) : slicePl a z l h' m0 = .slice (if m0 = l then a else a.map (·.add (l * z))) (h' - l) (m0 - l) := by
 unfold slicePl
 by_cases e : m0 = l
 ·subst e; simp
 ·have : Nat.beq m0 l = false := by
   cases hb : Nat.beq m0 l with
   | false => rfl
   | true => exact absurd (Nat.eq_of_beq_eq_true hb) e
  simp [this, e]
theorem sliceV_ok (R : Rel P G m h w) {t e : TypeId} {z : Nat} {a : Option Addr} {n cap : Nat} {x' : Value} {lo lo' hi hi' mx mx' : Option Value} {v : Value} (hu : P.underlying t = some (.slice e)) (hz : sizeT P e = some z) (hx : S3 m (.slice a n cap) x') (hl : OV m lo lo') (hh : OV m hi hi') (hm : OV m mx mx') (hv : sliceV h e z a n cap lo hi mx = some v) :
    ∃ v', (Instr.sliceAt t x' lo' hi' mx').run P w = .ok v' w ∧ S3 m v v' := by
  unfold sliceV at hv
  cases h1 : idxO cap cap mx with
  | none => simp [h1] at hv
  | some m0 =>
    simp only [h1, Option.bind_some] at hv
    cases h2 : idxO m0 n hi with
    | none => simp [h2] at hv
    | some h0 =>
      simp only [h2, Option.bind_some] at hv
      cases h3 : idxO h0 0 lo with
      | none => simp [h3] at hv
      | some l0 =>
        simp only [h3, Option.bind_some] at hv
        cases hb : ((mx.isNone || hi.isSome) && rowE h e a && Nat.ble h0 m0 && (!(Nat.beq m0 l0) || mx.isSome || Nat.beq cap 0)) with
        | false => simp [hb] at hv
        | true =>
          simp only [hb, cond_true, Option.some.injEq, slicePl_eq] at hv
          subst hv
          simp only [Bool.and_eq_true, Bool.or_eq_true] at hb
          obtain ⟨⟨⟨b1, b2⟩, b3⟩, b4⟩ := hb
          have b3 := Nat.le_of_ble_eq_true b3
          have b4 : m0 = l0 → mx.isSome = true ∨ cap = 0 := by
            intro e
            rcases b4 with (b4 | b4) | b4
            · subst e; simp at b4
            · exact .inl b4
            · exact .inr (Nat.eq_of_beq_eq_true b4)
          cases a with
          | none =>
            rw [hx.slN]
            obtain ⟨m', r1, r2, r3, r4, r5, r6⟩ := boundsV_ok (P := P) (w := w) (Nat.le_refl cap) hl hh hm h1 h2 h3 b1
            have em : m' = m0 := by
              cases hq : mx.isSome with
              | true => exact r4 hq
              | false =>
                have := r5 (by cases mx <;> simp_all)
                omega
            subst em
            refine ⟨.slice none (h0 - l0) (m' - l0), by simp [Instr.sliceAt, run_underlying hu, Instr.slice, r1, size_ok hz], ?_⟩
            simp only [Option.map_none, ite_self]
            exact S0.s3 (v := .slice none _ _) ⟨rfl, rfl⟩
          | some a =>
            obtain ⟨a', cap', rfl, c1, c2, c3⟩ := hx.sl
            obtain ⟨m', r1, r2, r3, r4, r5, r6⟩ := boundsV_ok (P := P) (w := w) c1 hl hh hm h1 h2 h3 b1
            refine ⟨.slice (if m' = l0 then some a' else some (a'.add (l0 * z))) (h0 - l0) (m' - l0), by simp [Instr.sliceAt, run_underlying hu, Instr.slice, r1, size_ok hz], ?_⟩
            obtain ⟨b, off, sp⟩ := a
            cases sp with
            | some _ => simp [rowE] at b2
            | none =>
              simp only [rowE] at b2
              unfold rowE1 at b2
              split at b2
              · rename_i xs e' hr
                have ee : e' = e := Nat.eq_of_beq_eq_true b2
                subst ee
                obtain ⟨x, es, hm0, rfl, hN, hg, hO, -⟩ := R.sl hr c3
                have ez : x.z = z := by
                  have := hO.1
                  rw [hz] at this
                  exact (Option.some.inj this).symm
                subst ez
                by_cases e0 : m0 = l0
                · have em : m' = l0 := by
                    rcases b4 e0 with q | q
                    · rw [r4 q]; exact e0
                    · have : cap' = 0 := c2 q
                      omega
                  rw [if_pos e0, if_pos em, e0, em]
                  refine S0.s3 (v := .slice (some _) _ _) (v' := .slice (some _) _ _) ⟨rfl, by omega, fun _ => by omega, rfl, rfl, .inr ⟨x, hm0, rfl, rfl, ?_⟩⟩
                  simp
                  have : 0 ≤ cap' * x.z := Nat.zero_le _
                  omega
                · have em : m' ≠ l0 := by omega
                  rw [if_neg e0, if_neg em]
                  simp only [Option.map_some, add_off]
                  refine S0.s3 (v := .slice (some _) _ _) (v' := .slice (some _) _ _) ⟨rfl, by omega, fun q => by omega, rfl, rfl, .inr ⟨x, hm0, rfl, by simp only; omega, ?_⟩⟩
                  simp only
                  have h5 : l0 * x.z + (m' - l0) * x.z = m' * x.z := by rw [← Nat.add_mul]; congr 1; omega
                  have h6 : m' * x.z ≤ cap' * x.z := Nat.mul_le_mul_right _ r3
                  omega
              · cases b2
theorem slice_ok (R : Rel P G m h w) {t : TypeId} {x x' : Value} {lo lo' hi hi' mx mx' : Option Value} {v : Value} (hx : S3 m x x') (hl : OV m lo lo') (hh : OV m hi hi') (hm : OV m mx mx') (hv : aSlice P h t x lo hi mx = some v) :
  ∃ v', (Instr.sliceAt t x' lo' hi' mx').run P w = .ok v' w ∧ S3 m v v' := by
 unfold aSlice at hv
 split at hv
 ·rename_i s
  cases hu : isStr P t with
  | false => simp [hu] at hv
  | true =>
   cases mx with
   | some _ => simp [hu] at hv
   | none =>
    cases mx' with
    | some _ => exact hm.elim
    | none =>
     simp [hu] at hv
     rw [hx.string]
     exact sliceS_ok (isStr_ok hu) hl hh hv
 ·rename_i a n cap
  cases he : elemT P t with
  | none => simp [he] at hv
  | some e =>
   simp only [he, Option.bind_some] at hv
   cases hz : sizeT P e with
   | none => simp [hz] at hv
   | some z =>
    simp only [hz, Option.bind_some] at hv
    exact sliceV_ok R (elemT_ok he) hz hx hl hh hm hv
 ·cases hv
theorem flat_eq {v v' : Value} (hf : flat v = true) (hs : S0 m v v') : v' = v := by
  unfold flat at hf
  split at hf <;> first
    | exact absurd hf (by decide)
    | exact hs.s3.bool
    | exact hs.s3.int
    | exact hs.s3.string
    | exact hs.s3.slN
    | exact hs.s3.mapN
    | (cases v' <;> simp [S0] at hs; done)
    | (cases v' with
       | pointer p => cases p <;> simp [S0] at hs; rfl
       | _ => simp [S0] at hs)
    | (cases v' <;> simp [S0] at hs <;> rfl)
theorem flat_one {v : Value} (hf : flat v = true) : one0 v = true := by
 unfold flat at hf
 split at hf <;> first | exact absurd hf (by decide) | rfl
theorem flat2_eq {v v' : Value} (hf : flat2 v = true) (hs : S3 m v v') : v' = v := by
 unfold flat2 at hf
 split at hf
 ·rename_i c
  obtain ⟨c', rfl, hc⟩ := hs.agg
  congr 1
  apply Array.ext'
  apply List.ext_getElem?
  intro i
  cases hi : c.toList[i]? with
  | none =>
   rw [List.getElem?_eq_none_iff] at hi ⊢
   have := hc.1
   omega
  | some x =>
   obtain ⟨y, hy, s⟩ := hc.at hi
   have hx := List.all_eq_true.1 hf x (List.mem_of_getElem? hi)
   rw [hy, flat_eq hx (s.s0 (flat_one hx))]
 ·exact flat_eq hf (hs.s0 (flat_one hf))
theorem veq0_eq {x y : Value} (hv : veq0 x y = true) : x = y := by
 unfold veq0 at hv
 split at hv <;> simp_all [ieq_eq, sbeq_eq, Nat.beq_eq]
theorem veqL_eq : ∀ {l r : List Value}, veqL l r = true → l = r
  | [], [], _ => rfl
  | [], _ :: _, h => by simp [veqL] at h
  | _ :: _, [], h => by simp [veqL] at h
  | x :: l, y :: r, h => by
    simp only [veqL] at h
    cases hb : veq0 x y with
    | false => simp [hb] at h
    | true =>
      simp only [hb, cond_true] at h
      rw [veq0_eq hb, veqL_eq h]
theorem veq_eq {x y : Value} (hv : veq x y = true) : x = y := by
 unfold veq at hv
 split at hv
 ·rw [Array.ext' (veqL_eq hv)]
 ·rw [Array.ext' (veqL_eq hv)]
 ·simp only [Bool.and_eq_true] at hv
  obtain ⟨⟨h1, h2⟩, h3⟩ := hv
  rw [Nat.eq_of_beq_eq_true h1, Array.ext' (veqL_eq h2), Array.ext' (veqL_eq h3)]
 ·exact veq0_eq hv
theorem veq0_refl {x : Value} (hf : flat x = true) : veq0 x x = true := by
 unfold flat at hf
 split at hf <;> first | exact absurd hf (by decide) | simp [veq0, ieq_eq, sbeq_eq]
theorem veqL_refl : ∀ {l : List Value}, l.all flat = true → veqL l l = true
  | [], _ => rfl
  | x :: l, h => by
    simp only [List.all_cons, Bool.and_eq_true] at h
    simp [veqL, veq0_refl h.1, veqL_refl h.2]
theorem veq_refl {x : Value} (hf : flat2 x = true) : veq x x = true := by
 unfold flat2 at hf
 split at hf
 ·simp [veq, veqL_refl hf]
 ·have := veq0_refl hf
  cases x <;> simp_all [veq, flat]
theorem findK_some {x v : Value} : ∀ {es : List (Value × Value)}, findK x es = some v → ∃ j : Nat, es[j]? = some (x, v)
  | [], h => by simp [findK] at h
  | (k, u) :: l, h => by
    simp only [findK] at h
    cases hb : veq k x with
    | true =>
      simp only [hb, cond_true, Option.some.injEq] at h
      exact ⟨0, by simp [veq_eq hb, h]⟩
    | false =>
      simp only [hb, cond_false] at h
      obtain ⟨j, hj⟩ := findK_some h
      exact ⟨j + 1, by simpa using hj⟩
theorem findK_none {x : Value} (hf : flat2 x = true) : ∀ {es : List (Value × Value)}, findK x es = none → ∀ p ∈ es, p.1 ≠ x
  | [], _, p, hp => by simp at hp
  | (k, u) :: l, h, p, hp => by
    simp only [findK] at h
    cases hb : veq k x with
    | true => simp [hb] at h
    | false =>
      simp only [hb, cond_false] at h
      rcases List.mem_cons.1 hp with rfl | hp
      · rintro rfl
        simp [veq_refl hf] at hb
      · exact findK_none hf h p hp
theorem keyT_ok {k : TypeId} (hk : keyT P k = true) : WideMaps.KeyLaw P k := by
 unfold keyT at hk
 simp only [Bool.or_eq_true, Bool.and_eq_true] at hk
 rcases hk with hk | ⟨⟨h1, h2⟩, h3⟩
 ·exact WideMaps.string_law (isStr_ok hk)
 ·exact Go.deep_law (m := 2) (by decide) h1 h2 h3
theorem nodup_at {α β : Type} {l : List (α × β)} (hn : (l.map (·.1)).Nodup) {i j : Nat} {x : α} {u v : β} (hi : l[i]? = some (x, u)) (hj : l[j]? = some (x, v)) : u = v := by
 induction l generalizing i j with
 | nil => simp at hi
 | cons p l ih =>
  simp only [List.map_cons, List.nodup_cons] at hn
  obtain ⟨h1, h2⟩ := hn
  cases i with
  | zero =>
   cases j with
   | zero => simp at hi hj; rw [hi] at hj; simpa using hj
   | succ j =>
    simp at hi hj
    subst hi
    exact absurd (List.mem_map.2 ⟨_, List.mem_of_getElem? hj, rfl⟩) h1
  | succ i =>
   cases j with
   | zero =>
    simp at hi hj
    subst hj
    exact absurd (List.mem_map.2 ⟨_, List.mem_of_getElem? hi, rfl⟩) h1
   | succ j => exact ih h2 (by simpa using hi) (by simpa using hj)
theorem find_ok {k : TypeId} (hk : keyT P k = true) {i : Value} (hi : isKeyV P k i = true) {es : List (Value × Value)} {es' : List MapEntry} (hl : L2 (fun (p : Value × Value) (e : MapEntry) => p.1 = e.key ∧ (keyOf P k p.1).isSome = true ∧ S1 m p.2 e.val) es es') (hn : (es.map (·.1)).Nodup) :
    (findK i es = none ∧ (Instr.findKey k i es').run P w = .ok none w ∧ ∀ e ∈ es', e.key ≠ i) ∨ ∃ v j e, findK i es = some v ∧ es[j]? = some (i, v) ∧ (Instr.findKey k i es').run P w = .ok (some (j, e.val)) w ∧ es'[j]? = some e ∧ e.key = i ∧ S1 m v e.val := by
  have K := keyT_ok hk
  unfold isKeyV at hi
  simp only [Bool.and_eq_true] at hi
  obtain ⟨hf, hs⟩ := hi
  obtain ⟨lx, hlx⟩ := Option.isSome_iff_exists.1 hs
  have hall : ∀ e ∈ es', ∃ l, keyOf P k e.key = some l := by
    intro e he
    obtain ⟨j, hj⟩ := List.getElem?_of_mem he
    have hlt : j < es.length := by rw [hl.1]; exact (List.getElem?_eq_some_iff.1 hj).1
    obtain ⟨h1, h2, -⟩ := hl.2 j _ e (List.getElem?_eq_getElem hlt) hj
    rw [← h1]
    exact Option.isSome_iff_exists.1 h2
  rcases K.find w hlx es' hall with ⟨h1, h2⟩ | ⟨j, e, h1, h2, h3⟩
  · refine .inl ⟨?_, h1, h2⟩
    cases hq : findK i es with
    | none => rfl
    | some v =>
      obtain ⟨j, hj⟩ := findK_some hq
      obtain ⟨e, he, q, -⟩ := hl.at hj
      exact absurd q.symm (h2 e (List.mem_of_getElem? he))
  · have hlt : j < es.length := by rw [hl.1]; exact (List.getElem?_eq_some_iff.1 h2).1
    have hje : es[j]? = some es[j] := List.getElem?_eq_getElem hlt
    obtain ⟨q1, q2, q3⟩ := hl.2 j _ e hje h2
    have hkey : es[j].1 = i := q1.trans h3
    cases hq : findK i es with
    | none => exact absurd hkey (findK_none hf hq _ (List.getElem_mem hlt))
    | some v =>
      obtain ⟨j', hj'⟩ := findK_some hq
      have hv : es[j].2 = v := nodup_at hn (x := i) (i := j) (j := j') (by rw [hje, ← hkey]) hj'
      exact .inr ⟨v, j, e, rfl, by rw [hje, ← hkey, ← hv], h1, h2, h3, by rw [← hv]; exact q3⟩
theorem lookup_run {t k e : TypeId} {x' i z : Value} {es' : Array MapEntry} (hx : (x' = .map none ∧ es' = #[]) ∨ ∃ q cl, x' = .map (some q) ∧ w.heap[q]? = some (.map es' cl)) (hu : P.underlying t = some (.map k e)) (hchk : ∀ em, (Instr.checkKey em 10000 k i).run P w = .ok () w) {res : Option (Nat × Value)} (hf : (Instr.findKey k i es'.toList).run P w = .ok res w) (hz : (zeroValue e).run P w = .ok z w) (ok : Bool) :
    (Instr.lookup t x' i ok).run P w = .ok (match res with | some (_, v) => (if ok then .tuple #[v, .bool true] else v) | none => (if ok then .tuple #[z, .bool false] else z)) w := by
  unfold Instr.lookup
  rcases hx with ⟨rfl, rfl⟩ | ⟨q, cl, rfl, hq⟩
  · simp only [Array.toList_empty] at hf
    cases res with
    | none => simp [run_underlying hu, hchk, hf, hz]
    | some p => simp [run_underlying hu, hchk, hf, hz]
  · have hget : (getObj q).run P w = .ok (.map es' cl) w := by simp [getObj, Sem.run, hq]
    cases res with
    | none => simp [run_underlying hu, hchk, hf, hz, hget]
    | some p => simp [run_underlying hu, hchk, hf, hz, hget]
theorem lookup_ok (R : Rel P G m h w) {t : TypeId} {ok : Bool} {x x' i i' v : Value} (hx : S3 m x x') (hi : S3 m i i') (hv : aLookup P h (mapT P t) ok x i = some v) : ∃ v', (Instr.lookup t x' i' ok).run P w = .ok v' w ∧ S3 m v v' := by
 unfold aLookup at hv
 split at hv
 ·rename_i r k e hm
  have hu := mapT_ok hm
  simp only at hu
  unfold lookK at hv
  cases hk : keyT P k with
  | false => simp [hk] at hv
  | true =>
   cases hkv : isKeyV P k i with
   | false => simp [hk, hkv] at hv
   | true =>
    simp only [hk, hkv, Bool.and_self, cond_true] at hv
    cases hz : zeroT P e with
    | none => simp [hz] at hv
    | some z =>
     simp only [hz, Option.bind_some] at hv
     cases he : esAt k h r with
     | none => simp [he] at hv
     | some es =>
      simp only [he, Option.bind_some] at hv
      have hf : flat2 i = true := by unfold isKeyV at hkv; simp only [Bool.and_eq_true] at hkv; exact hkv.1
      rw [flat2_eq hf hi]
      obtain ⟨lx, hlx⟩ := Option.isSome_iff_exists.1 (by unfold isKeyV at hkv; simp only [Bool.and_eq_true] at hkv; exact hkv.2)
      have hchk := fun em => (keyT_ok hk).check w em hlx
      have main : ∃ es' : Array MapEntry, ((x' = .map none ∧ es' = #[]) ∨ ∃ q cl, x' = .map (some q) ∧ w.heap[q]? = some (.map es' cl)) ∧ L2 (fun (p : Value × Value) (e : MapEntry) => p.1 = e.key ∧ (keyOf P k p.1).isSome = true ∧ S1 m p.2 e.val) es es'.toList ∧ (es.map (·.1)).Nodup := by
       cases r with
       | none =>
        simp only [esAt, Option.some.injEq] at he
        subst he
        exact ⟨#[], .inl ⟨hx.mapN, rfl⟩, .nil, by simp⟩
       | some r =>
        obtain ⟨r', e1, hr'⟩ := hx.mapS
        simp only [esAt] at he
        rcases hr' with hr' | ⟨y, hr', e2⟩
        ·obtain ⟨y, xs, e0, -⟩ := R.liveMap he hr'
         cases e0
        ·obtain ⟨y', xs, e0, hg, ⟨es', cl, h1, h2, h3⟩, -⟩ := R.liveMap he hr'
         cases e0
         exact ⟨es', .inr ⟨r', cl, e1, by rw [e2]; exact h1⟩, h2, h3⟩
      obtain ⟨es', r1, r2, r3⟩ := main
      rcases find_ok (w := w) hk hkv r2 r3 with ⟨f1, f2, -⟩ | ⟨u, j, en, f1, -, f2, f3, f4, f5⟩
      ·rw [f1] at hv
       simp only [found] at hv
       cases hz0 : flat z with
       | false => simp [hz0] at hv
       | true =>
        simp only [hz0, cond_true, Option.some.injEq] at hv
        subst hv
        refine ⟨if ok then .tuple #[z, .bool false] else z, ?_, ?_⟩
        ·exact lookup_run r1 hu hchk f2 (zero_ok hz) ok
        ·cases ok with
         | true => exact .inr ⟨_, _, rfl, rfl, .cons (.inl (.inl (flat_s0 hz0))) (.cons (.inl (.inl (s0_bool false))) .nil)⟩
         | false => exact (flat_s0 hz0).s3
      ·rw [f1] at hv
       simp only [found, Option.some.injEq] at hv
       subst hv
       refine ⟨if ok then .tuple #[en.val, .bool true] else en.val, ?_, ?_⟩
       ·exact lookup_run r1 hu hchk f2 (zero_ok hz) ok
       ·cases ok with
        | true => exact .inr ⟨_, _, rfl, rfl, .cons (.inl f5) (.cons (.inl (.inl (s0_bool true))) .nil)⟩
        | false => exact f5.s3
 ·cases hv
end
end Go.Proofs.YtmolfmgchbjnbaaGreatDoor.Ev
