import Derived.Test.YtmolfmgchbjnbaaGreatDoorM39
set_option linter.unusedSimpArgs false
set_option linter.unusedVariables false
namespace Go.Proofs.YtmolfmgchbjnbaaGreatDoor
open Go.RowKit
open Wire Flow
structure NwX where
 tv : Value
 pv : Value
 fv : Value
 rv : Value
 dv : Value
 gv : Value
 av : Value
def nwC (x : NwX) : List Value := [x.tv, x.pv, x.fv, x.rv, x.dv, .int .i64 0, .string ⟨#[]⟩, .slice none 0 0, x.gv, x.av, .int .i64 0, .slice none 0 0, .int .i64 0, .int .i64 0, .string ⟨#[]⟩, .int .i64 0]
def lvN (i : Nat) : Bool := decide (i = 10 ∨ (12 ≤ i ∧ i ≤ 17))
def avN (ka : Nat) (A : Nat → Nat) (i : Nat) : List Value := [if i < ka then .map (some (A i)) else .map none, .slice none 0 0]
def fvN (E : Mach.Env) (code : Nat → Value × List Stp) (f : Nat) : List Value := [.int .i64 (Mach.parOf E.mo f : Nat), (code f).1]
def RN (E : Mach.Env) (X : Nat) (x : NwX) (recs : List ByteArray) (draws : List Int) (kr kp kf ka : Nat) (pb A : Nat → Nat) (code : Nat → Value × List Stp) (i : Nat) : Rw :=
 if i = 10 then ⟨.slice (some ⟨X, 0, none⟩) 1 1, 135, 16, 1, nwC x⟩
 else if i = 12 then ⟨x.gv, 221, 3, E.mo.globs.toNat, rng E.mo.globs.toNat fun _ => vC Mach.nothing⟩
 else if i = 13 then ⟨x.av, 146, 2, E.mo.arrs.toNat, rng E.mo.arrs.toNat (avN ka A)⟩
 else if i = 14 then ⟨x.rv, 9, 1, kr, (recs.take kr).map .string⟩
 else if i = 15 then ⟨x.pv, 136, 1, kp, rng kp fun i => [ptr (pb i)]⟩
 else if i = 16 then ⟨x.fv, 143, 2, kf, rng kf (fvN E code)⟩
 else ⟨x.dv, 3, 1, draws.length, draws.map (.int .i64)⟩
def mpN (ka : Nat) (A : Nat → Nat) (i : Nat) : Option (Nat × List (Value × Value)) := if 20 ≤ i ∧ i < 20 + 2 * ka ∧ i % 2 = 0 then some (A ((i - 20) / 2), []) else none
structure Nw (E : Mach.Env) (W0 : World) (t0 : Nat → Nat) (X : Nat) (recs : List ByteArray) (draws : List Int) (x : NwX) (kr kp kf ka : Nat) (pb A : Nat → Nat) (code : Nat → Value × List Stp) (w : World) (tag : Nat → Nat) : Prop where
 S : Sto w tag lvN (RN E X x recs draws kr kp kf ka pb A code) (mpN ka A)
 K : Kp t0 tag W0 w
 pat : ∀ i, i < kp → ∃ t, E.mo.pats[i]? = some t ∧ pb i < w.heap.size ∧ tag (pb i) = 9 ∧ PatG E w (pb i) t
 cod : ∀ f, f < kf → CodeM E.mo w tag f (code f).1 (code f).2
section
variable {E : Mach.Env} {W0 w w' W2 : World} {t0 tag tag' : Nat → Nat} {X : Nat} {recs : List ByteArray} {draws : List Int} {x x' : NwX} {kr kr' kp kf ka ka' : Nat} {pb A A' : Nat → Nat} {code : Nat → Value × List Stp}
theorem Nw.turn (h : Nw E W0 t0 X recs draws x kr kp kf ka pb A code w tag) (S : Sto w' tag' lvN (RN E X x' recs draws kr' kp kf ka' pb A' code) (mpN ka' A')) (K : Kp tag tag' w w') : Nw E W0 t0 X recs draws x' kr' kp kf ka' pb A' code w' tag' where
 S := S
 K := h.K.trans K
 pat := fun i hi => by
  obtain ⟨t, h1, h2, h3, h4⟩ := h.pat i hi
  exact ⟨t, h1, Nat.lt_of_lt_of_le h2 K.size, (K.ret _ h2).trans h3, h4.of_block (K.blk _ h2 (by omega))⟩
 cod := fun f hf => (h.cod f hf).kp K
theorem info80 : (Tryz.prog.info? 136).map (fun i => (i.zero, i.size, i.bytes)) = some (some (.pointer none), 1, 8) := by kernel_rfl
theorem info87 : (Tryz.prog.info? 143).map (fun i => (i.zero, i.size, i.bytes)) = some (some (.agg #[.int .i64 0, .slice none 0 0]), 2, 32) := by kernel_rfl
def AppP (X j T e n : Nat) (news : List Value) (sv : Value) (W2 : World) (N : Value → World → Prop) : Prop :=
 ∃ so sc vo vc W4, sv = .slice so n sc ∧ (Builtin.append_ #[T, T] T #[.slice so n sc, .slice (some ⟨W2.heap.size, 0, none⟩) 1 1]).run Tryz.prog (W2.alloc (.cells news.toArray e)) = .ok (.slice vo (n + 1 : Nat) vc) W4 ∧ W2.cell? ⟨X, j, none⟩ = some (.slice so n sc) ∧ W4.cell? ⟨X, j, none⟩ = some (.slice so n sc) ∧ W4.frozen? ⟨X, j, none⟩ = false ∧ N (.slice vo (n + 1 : Nat) vc) (W4.setCell ⟨X, j, none⟩ (.slice vo (n + 1 : Nat) vc))
theorem Nw.rec_ (h : Nw E W0 t0 X recs draws x kr kp kf ka pb A code w tag) (F : Fr [] w W2) {s : ByteArray} (hs : recs[kr]? = some s) (hk : kr ≤ 1000) :
  AppP X 3 22 9 kr [.string s] x.rv W2 (fun v W5 => ∃ t5, Nw E W0 t0 X recs draws { x with rv := v } (kr + 1) kp kf ka pb A code W5 t5) := by
 obtain ⟨so, sc, vo, vc, W4, t4, h1, h2, h3, h4, h5, h6, h7, h8⟩ := h.S.app (X := X) (m := 14) (j := 3) (T := 22) infoA9 Tryz.underlying22 rfl (by decide) rfl rfl (by decide) rfl rfl rfl (by decide) hk (by decide) (news := [.string s]) rfl (by intro u hu; simp at hu; subst hu; rfl) F
 refine ⟨so, sc, vo, vc, W4, h1, h2, h3, h4, h5, t4, h.turn (h6.same fun i hi => ?_) h7⟩
 have hi' : i = 10 ∨ (12 ≤ i ∧ i ≤ 17) := by simpa [lvN] using hi
 by_cases e1 : i = 10
 ·subst e1; rw [up_same]; rfl
 rw [up_off _ _ e1]
 by_cases e2 : i = 14
 ·subst e2
  rw [up_same]
  show Rw.mk _ 9 1 (kr + 1) ((recs.take (kr + 1)).map .string) = _
  rw [List.take_add_one, hs]
  simp
 ·rw [up_off _ _ e2]
  unfold RN
  rw [if_neg e1, if_neg e1, if_neg e2, if_neg e2]
theorem Nw.cod_ (h : Nw E W0 t0 X recs draws x kr kp kf ka pb A code w tag) (F : Fr [] w W2) {c : Value × List Stp} {cg cn cc : Nat} (hc : c.1 = .slice (some ⟨cg, 0, none⟩) cn cc) (hC : CodeM E.mo W2 (newTag tag w.heap.size 9) kf c.1 c.2) (hk : kf ≤ 1000) :
    AppP X 2 130 143 kf [.int .i64 (Mach.parOf E.mo kf : Nat), c.1] x.fv W2 (fun v W5 => ∃ t5 code', Nw E W0 t0 X recs draws { x with fv := v } kr kp (kf + 1) ka pb A code' W5 t5) := by
  obtain ⟨so, sc, vo, vc, W4, t4, h1, h2, h3, h4, h5, h6, h7, h8⟩ := h.S.app (X := X) (m := 16) (j := 2) (T := 130) info87 Tryz.underlying130 rfl (by decide) rfl rfl (by decide) rfl rfl rfl (by decide) hk (by decide) (news := [.int .i64 (Mach.parOf E.mo kf : Nat), c.1]) rfl (by intro u hu; simp at hu; rcases hu with rfl | rfl; rfl; rw [hc]; rfl) F
  refine ⟨so, sc, vo, vc, W4, h1, h2, h3, h4, h5, t4, up code kf c, h6.same fun i hi => ?_, h.K.trans h7, fun i hi => ?_, fun f hf => ?_⟩
  · have hi' : i = 10 ∨ (12 ≤ i ∧ i ≤ 17) := by simpa [lvN] using hi
    by_cases e1 : i = 10
    · subst e1; rw [up_same]; rfl
    rw [up_off _ _ e1]
    by_cases e2 : i = 16
    · subst e2
      rw [up_same]
      show Rw.mk _ 143 2 (kf + 1) (rng (kf + 1) (fvN E (up code kf c))) = _
      rw [rng_succ, rng_congr (g := fvN E code) fun j hj => by unfold fvN; rw [up_off _ _ (by omega)]]
      unfold fvN
      rw [up_same]
    · rw [up_off _ _ e2]
      unfold RN
      rw [if_neg e1, if_neg e1, if_neg e2, if_neg e2]
  · obtain ⟨t, g1, g2, g3, g4⟩ := h.pat i hi
    exact ⟨t, g1, Nat.lt_of_lt_of_le g2 h7.size, (h7.ret _ g2).trans g3, g4.of_block (h7.blk _ g2 (by omega))⟩
  · by_cases e : f = kf
    · subst e
      rw [up_same]
      exact hC.kp h8
    · rw [up_off _ _ e]
      exact (h.cod f (by omega)).kp h7
theorem Nw.arr_ (h : Nw E W0 t0 X recs draws x kr kp kf ka pb A code w tag) (F : Fr [] w W2) {b : Nat} (hb : w.heap.size ≤ b) (hM : MapAt W2 b []) {ga cap : Nat} (hav : x.av = .slice (some ⟨ga, 0, none⟩) E.mo.arrs.toNat cap) (hk : ka < E.mo.arrs.toNat) :
  ∃ t5 A', Nw E W0 t0 X recs draws x kr kp kf (ka + 1) pb A' code ((W2.setCell ⟨ga, ka * 2, none⟩ (.map (some b))).setCell ⟨ga, ka * 2 + 1, none⟩ (.slice none 0 0)) t5 := by
 have h1 : Sto W2 (newTag tag w.heap.size (20 + 2 * ka)) lvN (RN E X x recs draws kr kp kf ka pb A code) (up (mpN ka A) (20 + 2 * ka) (some (b, []))) :=
  h.S.map (i := 20 + 2 * ka) (by simp [lvN]; omega) (by omega) (Chg.of_fr F) (fun k hk => newTag_old hk) hM (newTag_new hb)
 have K1 : Kp tag (newTag tag w.heap.size (20 + 2 * ka)) w W2 := Kp.of_fr F fun k hk => newTag_old hk
 obtain ⟨h2, K2⟩ := h1.put (i := 13) (g := ga) (n := E.mo.arrs.toNat) (cap := cap) (z := 2) (e := 146) (xs := rng E.mo.arrs.toNat (avN ka A)) rfl (by rw [← hav]; rfl) (j := ka * 2) (by omega) (.map (some b))
 obtain ⟨h3, K3⟩ := h2.put (i := 13) rfl (up_same _ _ _) (j := ka * 2 + 1) (by omega) (.slice none 0 0)
 rw [up_up] at h3
 have em : up (mpN ka A) (20 + 2 * ka) (some (b, [])) = mpN (ka + 1) (up A ka b) := by
  funext i
  unfold mpN
  by_cases e : i = 20 + 2 * ka
  ·subst e
   rw [up_same, if_pos (by omega), show (20 + 2 * ka - 20) / 2 = ka by omega, up_same]
  ·rw [up_off _ _ e]
   by_cases c : 20 ≤ i ∧ i < 20 + 2 * ka ∧ i % 2 = 0
   ·rw [if_pos c, if_pos (by omega), up_off _ _ (by omega)]
   ·rw [if_neg c, if_neg (by omega)]
 refine ⟨_, up A ka b, h.turn ?_ ((K1.trans K2).trans K3)⟩
 rw [em] at h3
 refine h3.same fun i hi => ?_
 have hi' : i = 10 ∨ (12 ≤ i ∧ i ≤ 17) := by simpa [lvN] using hi
 by_cases e1 : i = 13
 ·subst e1
  rw [up_same]
  show Rw.mk x.av 146 2 E.mo.arrs.toNat (rng E.mo.arrs.toNat (avN (ka + 1) (up A ka b))) = _
  rw [hav]
  congr 1
  have e0 : (rng E.mo.arrs.toNat (avN ka A)).set (ka * 2) (.map (some b)) = rng E.mo.arrs.toNat (up (avN ka A) ka ((avN ka A ka).set 0 (.map (some b)))) := rng_set (z := 2) (t := 0) (fun _ _ => rfl) hk (by decide) _
  rw [e0, rng_set (z := 2) (t := 1) (fun j _ => by by_cases c : j = ka; subst c; rw [up_same]; rfl; rw [up_off _ _ c]; rfl) hk (by decide), up_same, up_up]
  refine rng_congr fun j hj => ?_
  by_cases e : j = ka
  ·subst e
   rw [up_same]
   unfold avN
   rw [if_pos (by omega), up_same]
   rfl
  ·rw [up_off _ _ e]
   unfold avN
   by_cases c : j < ka
   ·rw [if_pos c, if_pos (by omega), up_off _ _ e]
   ·rw [if_neg c, if_neg (by omega)]
 ·rw [up_off _ _ e1]
  unfold RN
  split
  ·rfl
  ·split
   ·rfl
   ·rfl
end
end Go.Proofs.YtmolfmgchbjnbaaGreatDoor
namespace Go.Proofs.YtmolfmgchbjnbaaGreatDoor
open Go.RowKit
open Wire Flow
theorem made_rng (z : Array Value) (hz : 0 < z.size) (n : Nat) : (madeCells z (n * z.size)).toList = rng n (fun _ => z.toList) := by
 have hl : (rng n (fun _ => z.toList)).length = n * z.size := rng_len (fun _ _ => by simp)
 apply List.ext_getElem?
 intro k
 rcases Nat.lt_or_ge k (n * z.size) with hk | hk
 ·have h1 : k / z.size < n := Nat.div_lt_of_lt_mul (by rw [Nat.mul_comm]; exact hk)
  have h2 : k % z.size < z.size := Nat.mod_lt _ hz
  have h3 : (rng n (fun _ => z.toList))[k / z.size * z.size + k % z.size]? = z.toList[k % z.size]? := rng_get (fun _ _ => by simp) h1 h2
  rw [Nat.div_add_mod'] at h3
  rw [h3, Array.getElem?_toList, Array.getElem?_toList]
  unfold madeCells
  rw [Array.getElem?_map, Array.getElem?_range, if_pos hk, Array.getElem?_eq_getElem h2]
  simp only [Option.map_some]
  rw [getElem!_pos z _ h2]
 ·rw [List.getElem?_eq_none (by rw [Array.length_toList, size_madeCells]; exact hk), List.getElem?_eq_none (by rw [hl]; exact hk)]
theorem own_madeZ {w : World} {g : Nat} {e : TypeId} {z : Array Value} (hz : 0 < z.size) {n : Nat} (hn : n ≤ 100000) (h : w.heap[g]? = some (.cells (madeCells z (n * z.size)) e)) : w.ownsRow 0 e z.size (.slice (some ⟨g, 0, none⟩) n n) n (rng n fun _ => z.toList) := by
 refine ⟨rng_len (fun _ _ => by simp), .inr ⟨g, n, _, rfl, Nat.zero_le _, h, Nat.le_refl _, by unfold maxLen; omega, size_madeCells _ _, ?_⟩⟩
 rw [made_rng z hz]
 exact List.take_of_length_le (by rw [rng_len (z := z.size) (fun _ _ => by simp)]; exact Nat.le_refl _)
theorem infoV135 : (Tryz.prog.info? 221).map (fun i => (i.zero, i.size, i.bytes)) = some (some (.agg #[.int .u8 0, .int .i64 0, .string ⟨#[]⟩]), 3, 32) := by kernel_rfl
theorem infoA90 : (Tryz.prog.info? 146).map (fun i => (i.zero, i.size, i.bytes)) = some (some (.agg #[.map none, .slice none 0 0]), 2, 32) := by kernel_rfl
theorem mkGlobs (n : Nat) (hn : n ≤ 100000) (W : World) : (Instr.makeSlice 127 (.int .i64 (n : Int)) (.int .i64 (n : Int))).run Tryz.prog W = .ok (.slice (some ⟨W.heap.size, 0, none⟩) n n) (W.alloc (.cells (madeCells #[.int .u8 0, .int .i64 0, .string ⟨#[]⟩] (n * 3)) 221)) := by
 obtain ⟨i0, hi, hz0, hz1, hz2⟩ := info_parts infoV135
 have := run_make (P := Tryz.prog) W 127 221 i0 _ Tryz.underlying127 hi hz0 .i64 .i64 n n (by omega) (by omega) (by rw [hz2]; omega) (by omega)
 simp only [Int.toNat_natCast, hz1] at this
 exact this
theorem mkArrs (n : Nat) (hn : n ≤ 100000) (W : World) : (Instr.makeSlice 128 (.int .i64 (n : Int)) (.int .i64 (n : Int))).run Tryz.prog W = .ok (.slice (some ⟨W.heap.size, 0, none⟩) n n) (W.alloc (.cells (madeCells #[.map none, .slice none 0 0] (n * 2)) 146)) := by
 obtain ⟨i0, hi, hz0, hz1, hz2⟩ := info_parts infoA90
 have := run_make (P := Tryz.prog) W 128 146 i0 _ Tryz.underlying128 hi hz0 .i64 .i64 n n (by omega) (by omega) (by rw [hz2]; omega) (by omega)
 simp only [Int.toNat_natCast, hz1] at this
 exact this
def tagN (t0 : Nat → Nat) (B X gg ga : Nat) (dv : Value) (k : Nat) : Nat :=
 if k < B then t0 k else if k = X then 10 else if k = gg then 12 else if k = ga then 13 else if dv.ownBlock = some k then 17 else 9
section
variable {E : Mach.Env} {W0 w : World} {t0 : Nat → Nat} {X gg ga : Nat} {recs : List ByteArray} {draws : List Int}
theorem nw_start {tv dv : Value} {G A : Nat} (eG : E.mo.globs.toNat = G) (eA : E.mo.arrs.toNat = A) (F : Fr [] W0 w) (hG : G ≤ 1000) (hA : A ≤ 1000)
    (kX : w.heap[X]? = some (.cells (nwC ⟨tv, .slice none 0 0, .slice none 0 0, .slice none 0 0, dv, .slice (some ⟨gg, 0, none⟩) G G, .slice (some ⟨ga, 0, none⟩) A A⟩).toArray 135))
    (kg : w.heap[gg]? = some (.cells (madeCells #[.int .u8 0, .int .i64 0, .string ⟨#[]⟩] (G * 3)) 221)) (ka : w.heap[ga]? = some (.cells (madeCells #[.map none, .slice none 0 0] (A * 2)) 146))
    (od : w.ownsRow W0.heap.size 3 1 dv draws.length (draws.map (.int .i64))) (bX : W0.heap.size ≤ X) (bg : W0.heap.size ≤ gg) (ba : W0.heap.size ≤ ga) (n1 : X ≠ gg) (n2 : X ≠ ga) (n3 : gg ≠ ga) (nd : ∀ g, dv.ownBlock = some g → g ≠ X ∧ g ≠ gg ∧ g ≠ ga) :
    Nw E W0 t0 X recs draws ⟨tv, .slice none 0 0, .slice none 0 0, .slice none 0 0, dv, .slice (some ⟨gg, 0, none⟩) G G, .slice (some ⟨ga, 0, none⟩) A A⟩ 0 0 0 0 (fun _ => 0) (fun _ => 0) (fun _ => (.slice none 0 0, [])) w (tagN t0 W0.heap.size X gg ga dv) := by
  subst eG eA
  exact {
  S := {
    rows := fun i hi => by
      have hi' : i = 10 ∨ i = 12 ∨ i = 13 ∨ i = 14 ∨ i = 15 ∨ i = 16 ∨ i = 17 := by
        have : i = 10 ∨ (12 ≤ i ∧ i ≤ 17) := by simpa [lvN] using hi
        omega
      have hnil : ∀ (e : TypeId) (z : Nat), w.ownsRow 0 e z (.slice none 0 0) 0 [] := fun e z => ⟨by simp, .inl ⟨rfl, rfl⟩⟩
      rcases hi' with rfl | rfl | rfl | rfl | rfl | rfl | rfl
      · exact ⟨own_one kX rfl, fun q hq => by
          have : X = q := by simpa [RN, Value.ownBlock] using hq
          subst this
          unfold tagN
          rw [if_neg (by omega), if_pos rfl]⟩
      · exact ⟨own_madeZ (z := #[.int .u8 0, .int .i64 0, .string ⟨#[]⟩]) (by decide) (by omega) kg, fun q hq => by
          have : gg = q := by simpa [RN, Value.ownBlock] using hq
          subst this
          unfold tagN
          rw [if_neg (by omega), if_neg (by omega), if_pos rfl]⟩
      · refine ⟨?_, fun q hq => by
          have : ga = q := by simpa [RN, Value.ownBlock] using hq
          subst this
          unfold tagN
          rw [if_neg (by omega), if_neg (by omega), if_neg (by omega), if_pos rfl]⟩
        exact own_madeZ (z := #[.map none, .slice none 0 0]) (by decide) (by omega) ka
      · exact ⟨hnil _ _, Tg.nil _ _⟩
      · exact ⟨hnil _ _, Tg.nil _ _⟩
      · exact ⟨hnil _ _, Tg.nil _ _⟩
      · refine ⟨⟨od.1, od.2.imp id ?_⟩, fun q hq => ?_⟩
        · rintro ⟨g, cap, cur, e1, e2, e3⟩
          exact ⟨g, cap, cur, e1, Nat.zero_le _, e3⟩
        · have hq : dv.ownBlock = some q := hq
          obtain ⟨a1, a2, a3⟩ := nd q hq
          have := (od.lt q hq).1
          unfold tagN
          rw [if_neg (by omega), if_neg a1, if_neg a2, if_neg a3, if_pos hq]
    maps := fun i b l h => by
      unfold mpN at h
      rw [if_neg (by omega)] at h
      cases h
    far := fun i hi => by
      unfold mpN
      rw [if_neg (by omega)]
    num := fun i h => by
      rcases h with h | h
      · have : i = 10 ∨ (12 ≤ i ∧ i ≤ 17) := by simpa [lvN] using h
        omega
      · unfold mpN at h
        rw [if_neg (by omega)] at h
        exact absurd rfl h }
  K := Kp.of_fr F fun k hk => by unfold tagN; rw [if_pos hk]
  pat := fun i hi => absurd hi (by omega)
  cod := fun i hi => absurd hi (by omega) }
end
end Go.Proofs.YtmolfmgchbjnbaaGreatDoor
namespace Go.Proofs.YtmolfmgchbjnbaaGreatDoor
open Go.RowKit
open Wire Flow
def rt (tag : Nat → Nat) (k : Nat) : Nat := if 14 ≤ tag k ∧ tag k ≤ 17 then 9 else tag k
theorem rt_nine {tag : Nat → Nat} {k : Nat} (h : tag k = 9) : rt tag k = 9 := by unfold rt; rw [if_neg (by omega)]; exact h
theorem rt_mid {tag : Nat → Nat} {k : Nat} (h : 14 ≤ tag k) (h2 : tag k ≤ 17) : rt tag k = 9 := by unfold rt; rw [if_pos ⟨h, h2⟩]
theorem rt_off {tag : Nat → Nat} {k i : Nat} (h : tag k = i) (h2 : i < 14 ∨ 17 < i) : rt tag k = i := by unfold rt; rw [if_neg (by omega)]; exact h
section
variable {E : Mach.Env} {W W0 w : World} {t0 tag : Nat → Nat} {X : Nat} {recs : List ByteArray} {draws : List Int} {x : NwX} {pb A : Nat → Nat} {code : Nat → Value × List Stp}
theorem rol_own {e : TypeId} {v : Value} {n i : Nat} {xs : List Value} (h : W.ownsRow 0 e 1 v n xs) (t : Tg tag v i) (h1 : 14 ≤ i) (h2 : i ≤ 17) : RoL W (rt tag) v xs := by
 have hl := h.1
 rw [Nat.mul_one] at hl
 subst hl
 have h' := h
 rcases h.2 with ⟨rfl, h0⟩ | ⟨g, cap, cur, rfl, hb, hg, hnc, hcm, r⟩
 ·exact ⟨none, 0, by rw [h0], by omega, by omega, fun h => absurd h (by omega)⟩
 ·refine ⟨_, cap, rfl, hnc, by unfold maxLen at hcm; omega, fun h0 => ⟨g, 0, rfl, (Array.getElem?_eq_some_iff.1 hg).1, ?_, fun j u hu => ?_⟩⟩
  ·have := t g rfl
   exact rt_mid (by omega) (by omega)
  ·rw [Nat.zero_add]
   exact own_cell h' hu
theorem CodeM.rt {m : Mo} {f : Nat} {cv : Value} {L : List Stp} (h : CodeM m W tag f cv L) : CodeM m W (rt tag) f cv L := by
 obtain ⟨g, cap, T, h1, h2, h3, h4, h5⟩ := h.at_
 exact ⟨⟨g, cap, T, h1, h2, h3, rt_nine h4, h5⟩, h.reads, h.jump, h.len⟩
theorem Tg.rt {v : Value} {i : Nat} (h : Tg tag v i) (h2 : i < 14 ∨ 17 < i) : Tg (rt tag) v i := fun g hg => rt_off (h g hg) h2
structure Base (W : World) : Prop where
 six : 6 ≤ W.heap.size
 pow : PowTab W
 mxl : ∃ m : Int, W.cell? ⟨4, 0, none⟩ = some (.int .i64 m)
 tab : Tab W
theorem Base.fr {W W' : World} (h : Base W) (F : Fr [] W W') : Base W' := by
 obtain ⟨m, hm⟩ := h.mxl
 have := h.six
 exact ⟨Nat.le_trans h.six F.size, h.pow.fr F, ⟨m, (F.cell (p := ⟨4, 0, none⟩) (by show 4 < _; omega) (by simp)).trans hm⟩, h.tab.fr F (by simp)⟩
theorem Nw.begin_ (h : Nw E W0 t0 X recs draws x recs.length E.mo.pats.length E.mo.fns.length E.mo.arrs.toNat pb A code w tag) (hb : Base W0) (ht0 : ∀ k, k < W0.heap.size → t0 k < 10) (htv : RoL W0 t0 x.tv (E.mo.texts.map .string)) (h3 : 3 ≤ E.mo.fns.length) (hf : E.mo.fns.length ≤ 1000) (hp : E.mo.pats.length ≤ 1000) (hA : E.mo.arrs.toNat ≤ 1000) :
  Calls Tryz.prog 62 #[ptr X, .int .i64 (0 : Nat)] w fun e w' => e = .returned unit ∧ ∃ g tag', MM E X g (ms0 E.mo recs draws) w' tag' ∧ g.en = 0 ∧ Kp t0 tag' W0 w' := by
 have S := h.S
 obtain ⟨o16, t16⟩ := S.rows 16 rfl
 have o16 : w.ownsRow 0 143 2 x.fv E.mo.fns.length (rng E.mo.fns.length (fvN E code)) := o16
 have t16 : Tg tag x.fv 16 := t16
 obtain ⟨gf, fc, hfv, hfc, hgf⟩ := own_some o16 (by omega)
 obtain ⟨o10, t10⟩ := S.rows 10 rfl
 have o10 : w.ownsRow 0 135 16 (.slice (some ⟨X, 0, none⟩) 1 1) 1 (nwC x) := o10
 have t10 : tag X = 10 := t10 X rfl
 have hgft : tag gf = 16 := t16 gf (by rw [hfv]; rfl)
 have hXgf : X ≠ gf := by rintro rfl; omega
 have C := h.cod 0 (by omega)
 obtain ⟨gc, cc, T, v1, v2, v3, v4, v5, v6⟩ := C.at_
 have hcell : ∀ f, f < E.mo.fns.length → w.cell? ⟨gf, f * 2, none⟩ = some (.int .i64 (Mach.parOf E.mo f : Nat)) ∧ w.cell? ⟨gf, f * 2 + 1, none⟩ = some (code f).1 := fun f hf => by
  rw [hfv] at o16
  have g0 := rng_get (n := E.mo.fns.length) (z := 2) (f := fvN E code) (fun _ _ => rfl) hf (t := 0) (by decide)
  have g1 := rng_get (n := E.mo.fns.length) (z := 2) (f := fvN E code) (fun _ _ => rfl) hf (t := 1) (by decide)
  exact ⟨own_cell o16 (g0.trans rfl), own_cell o16 (g1.trans rfl)⟩
 refine (begin_any X gf E.mo.fns.length fc 0 (code 0).2.length cc (some ⟨gc, 0, none⟩) w hXgf (by rw [← hfv]; exact own_cell o10 rfl) (by omega) hf (by rw [← v1]; exact (hcell 0 (by omega)).2) (u10 := .int .i64 0) (u11 := .slice none 0 0) (own_cell o10 rfl) (own_cell o10 rfl) (own_thaw o10 _) (own_thaw o10 _)).mono ?_
 rintro e w' ⟨he, hw'⟩
 refine ⟨he, ?_⟩
 rw [← v1] at hw'
 obtain ⟨S1, K1⟩ := S.put (i := 10) rfl rfl (j := 10) (by omega) (.int .i64 ((0 : Nat) : Int))
 have hsz : (w.setCell ⟨X, 10, none⟩ (.int .i64 ((0 : Nat) : Int))).heap.size = w.heap.size := by simp [World.setCell]
 generalize w.setCell ⟨X, 10, none⟩ (.int .i64 ((0 : Nat) : Int)) = W1 at hw' S1 K1 hsz
 have hnew := World.alloc_heap_new W1 (.cells (frZ (code 0).1).toArray 225)
 have F2 : Fr [] W1 (W1.alloc (.cells (frZ (code 0).1).toArray 225)) := (Fr.refl [] W1).alloc _
 generalize W1.alloc (.cells (frZ (code 0).1).toArray 225) = W2 at hw' hnew F2
 rw [hsz] at hnew
 obtain ⟨S2, K2⟩ := S1.new (i := 11) (r := ⟨.slice (some ⟨w.heap.size, 0, none⟩) 1 1, 225, 51, 1, frZ (code 0).1⟩) (by unfold mpN; rw [if_neg (by omega)]) (by omega) F2 (own_one hnew (frZ_len _)) (fun q hq => by
  have : w.heap.size = q := by simpa [Value.ownBlock] using hq
  omega)
 obtain ⟨S4, K4⟩ := S2.put (i := 10) (by rw [up_off _ _ (by decide)]; rfl) (by rw [up_off _ _ (by decide), up_same]) (j := 11) (by omega) (.slice (some ⟨w.heap.size, 0, none⟩) 1 1)
 rw [← hw'] at S4 K4
 have K := (K1.trans K2).trans K4
 generalize newTag tag W1.heap.size 11 = tg at S4 K K4
 have K0 := h.K.trans K
 have KR : Kp t0 (rt tg) W0 w' := ⟨K0.os, K0.tape, K0.output, K0.size, fun k hk => by
  have e := K0.ret k hk
  have := ht0 k hk
  unfold rt
  rw [if_neg (by omega)]
  exact e, K0.blk⟩
 have F0 : Fr [] W0 w' := ⟨K0.os, K0.tape, K0.output, K0.size, fun k hk _ => K0.blk k hk (ht0 k hk)⟩
 have B := hb.fr F0
 obtain ⟨q10, r10⟩ := S4.rows 10 (by rw [up_off _ _ (by decide)]; rfl)
 obtain ⟨q11, r11⟩ := S4.rows 11 (by rw [up_same])
 obtain ⟨q12, r12⟩ := S4.rows 12 (by rw [up_off _ _ (by decide)]; rfl)
 obtain ⟨q13, r13⟩ := S4.rows 13 (by rw [up_off _ _ (by decide)]; rfl)
 obtain ⟨q14, r14⟩ := S4.rows 14 (by rw [up_off _ _ (by decide)]; rfl)
 obtain ⟨q15, r15⟩ := S4.rows 15 (by rw [up_off _ _ (by decide)]; rfl)
 obtain ⟨q16, r16⟩ := S4.rows 16 (by rw [up_off _ _ (by decide)]; rfl)
 obtain ⟨q17, r17⟩ := S4.rows 17 (by rw [up_off _ _ (by decide)]; rfl)
 rw [up_same] at q10 r10
 rw [up_off _ _ (by decide), up_same] at q11 r11
 rw [up_off _ _ (by decide), up_off _ _ (by decide), up_off _ _ (by decide)] at q12 r12 q13 r13 q14 r14 q15 r15 q16 r16 q17 r17
 have q16 : w'.ownsRow 0 143 2 x.fv E.mo.fns.length (rng E.mo.fns.length (fvN E code)) := q16
 have r16 : Tg tg x.fv 16 := r16
 have q15 : w'.ownsRow 0 136 1 x.pv E.mo.pats.length (rng E.mo.pats.length fun i => [ptr (pb i)]) := q15
 have r15 : Tg tg x.pv 15 := r15
 have hmaps : ∀ i, i < E.mo.arrs.toNat → MapAt w' (A i) [] ∧ rt tg (A i) = 20 + 2 * i := fun i hi => by
  obtain ⟨m1, m2⟩ := S4.maps (20 + 2 * i) (A i) [] (by unfold mpN; rw [if_pos (by omega), show (20 + 2 * i - 20) / 2 = i by omega])
  exact ⟨m1, rt_off m2 (by omega)⟩
 have hgf' : gf < w'.heap.size := Nat.lt_of_lt_of_le hgf K.size
 have htgf : tg gf = 16 := r16 gf (by rw [hfv]; rfl)
 let mx : Mx := { tv := x.tv, pv := x.pv, fv := x.fv, rv := x.rv, dv := x.dv, flv := .slice none 0 0, gv := x.gv, av := x.av, frv := .slice (some ⟨w.heap.size, 0, none⟩) 1 1, entry := 0, F := fun _ => ⟨(code 0).1, 0, .slice none 0 0, fun _ => 0⟩, A := fun i => (A i, .slice none 0 0), code := code }
 have sta : Sta E w' (rt tg) x.tv x.pv x.fv code := {
  pow := B.pow
  low := fun k hk => by
   have h6 := hb.six
   have hk' : k < W0.heap.size := by omega
   rw [KR.ret k hk']
   exact ht0 k hk'
  mxl := B.mxl
  tab := B.tab
  txt := htv.kp KR
  fns := ⟨gf, fc, hfv, hgf', rt_mid (by omega) (by omega), hf, fun f hf => by
   rw [hfv] at q16
   have g0 := rng_get (n := E.mo.fns.length) (z := 2) (f := fvN E code) (fun _ _ => rfl) hf (t := 0) (by decide)
   have g1 := rng_get (n := E.mo.fns.length) (z := 2) (f := fvN E code) (fun _ _ => rfl) hf (t := 1) (by decide)
   exact ⟨own_cell q16 (g0.trans rfl), own_cell q16 (g1.trans rfl)⟩⟩
  code := fun f hf => ((h.cod f hf).kp K).rt
  pat := by
   obtain ⟨o, c, hpv⟩ := own_form q15
   refine ⟨o, c, hpv, hp, fun i t hi => ?_⟩
   have hin := (List.getElem?_eq_some_iff.1 hi).1
   obtain ⟨t', p1, p2, p3, p4⟩ := h.pat i hin
   rw [hi] at p1
   cases p1
   obtain ⟨gp, cap, e1, -, e3⟩ := own_some q15 (by omega)
   rw [e1] at hpv q15
   cases hpv
   have g0 := rng_get (n := E.mo.pats.length) (z := 1) (f := fun i => [ptr (pb i)]) (fun _ _ => rfl) hin (t := 0) (by decide)
   rw [Nat.mul_one, Nat.add_zero] at g0
   have := r15 gp (by rw [e1]; rfl)
   exact ⟨gp, pb i, rfl, e3, rt_mid (by omega) (by omega), own_cell q15 (g0.trans rfl), Nat.lt_of_lt_of_le p2 K.size, rt_nine ((K.ret _ p2).trans p3), p4.of_block (K.blk _ p2 (by omega))⟩ }
 refine ⟨⟨w.heap.size, x.gv, x.av, 0, x.pv, code⟩, rt tg, ?_, rfl, KR⟩
 refine mm_begin (x := mx) (gF := w.heap.size) B.six h3 hA (plc_zero C.reads) sta rfl q10 rfl ?_ ⟨rfl, rfl, rfl⟩ q12 ?_ (fun _ _ => rfl) (rt_off (r10 X rfl) (by omega)) (r11.rt (by omega)) (r12.rt (by omega)) (r13.rt (by omega)) hmaps ?_ (rol_own q17 r17 (by omega) (by omega)) rfl
 ·have e : frC (mx.F 0) (Mach.enter E.mo 0 []) = frZ (code 0).1 := by
   unfold frZ frC Mach.enter
   simp only [List.nil_append, List.length_nil, Nat.sub_zero, locC_nothing]
   rfl
  rw [e]
  exact q11
 ·refine Eq.mp (congrArg _ (rng_congr fun j hj => ?_)) q13
  show avN _ A j = _
  unfold avN
  rw [if_pos hj]
 ·have : RoL w' (rt tg) x.rv ((recs.take recs.length).map .string) := rol_own q14 r14 (by omega) (by omega)
  rw [List.take_length] at this
  exact this
end
end Go.Proofs.YtmolfmgchbjnbaaGreatDoor
namespace Go.Proofs.YtmolfmgchbjnbaaGreatDoor
open Go.RowKit
open Wire Flow
def NwP (E : Mach.Env) (W0 : World) (t0 : Nat → Nat) (X : Nat) (recs : List ByteArray) (draws : List Int) (tv av : Value) (kr kp kf ka : Nat) (w : World) : Prop :=
 ∃ x pb A code tag, x.tv = tv ∧ x.av = av ∧ Nw E W0 t0 X recs draws x kr kp kf ka pb A code w tag
def AppQ (X j T e n : Nat) (news : List Value) (so : Option Addr) (sc : Nat) (W2 : World) (N : World → Prop) : Prop :=
 ∃ vo vc W4, (Builtin.append_ #[T, T] T #[.slice so n sc, .slice (some ⟨W2.heap.size, 0, none⟩) 1 1]).run Tryz.prog (W2.alloc (.cells news.toArray e)) = .ok (.slice vo (n + 1 : Nat) vc) W4 ∧ W4.cell? ⟨X, j, none⟩ = some (.slice so n sc) ∧ W4.frozen? ⟨X, j, none⟩ = false ∧ N (W4.setCell ⟨X, j, none⟩ (.slice vo (n + 1 : Nat) vc))
section
variable {E : Mach.Env} {W0 w w' W2 : World} {t0 tag tag' : Nat → Nat} {X : Nat} {recs : List ByteArray} {draws : List Int} {x : NwX} {tv av : Value} {kr kp kf ka : Nat} {pb A : Nat → Nat} {code : Nat → Value × List Stp}
theorem AppP.q {j T e n : Nat} {news : List Value} {so : Option Addr} {sc : Nat} {N : Value → World → Prop} {M : World → Prop} (h : AppP X j T e n news (.slice so n sc) W2 N) (hN : ∀ v W5, N v W5 → M W5) : AppQ X j T e n news so sc W2 M := by
 obtain ⟨so', sc', vo, vc, W4, h1, h2, h3, h4, h5, h6⟩ := h
 cases h1
 exact ⟨vo, vc, W4, h2, h4, h5, hN _ _ h6⟩
theorem Nw.row (h : Nw E W0 t0 X recs draws x kr kp kf ka pb A code w tag) : w.ownsRow 0 135 16 (.slice (some ⟨X, 0, none⟩) 1 1) 1 (nwC x) := (h.S.rows 10 rfl).1
theorem NwP.old (h : NwP E W0 t0 X recs draws tv av kr kp kf ka w) (ht : ∀ k, k < W0.heap.size → t0 k < 10) : Fr [] W0 w := by
 obtain ⟨x, pb, A, code, tag, -, -, h⟩ := h
 exact ⟨h.K.os, h.K.tape, h.K.output, h.K.size, fun k hk _ => h.K.blk k hk (ht k hk)⟩
theorem NwP.rec_ (h : NwP E W0 t0 X recs draws tv av kr kp kf ka w) {s : ByteArray} (hs : recs[kr]? = some s) (hk : kr ≤ 1000) :
  ∃ so sc, w.cell? ⟨X, 3, none⟩ = some (.slice so kr sc) ∧ X < w.heap.size ∧ ∀ W2, Fr [] w W2 → AppQ X 3 22 9 kr [.string s] so sc W2 (NwP E W0 t0 X recs draws tv av (kr + 1) kp kf ka) := by
 obtain ⟨x, pb, A, code, tag, e1, e2, h⟩ := h
 have o := h.row
 obtain ⟨so, sc, hv⟩ := own_form (show w.ownsRow 0 9 1 x.rv kr _ from (h.S.rows 14 rfl).1)
 refine ⟨so, sc, by rw [← hv]; exact own_cell o rfl, (o.lt X rfl).2, fun W2 F => ?_⟩
 have := h.rec_ F hs hk
 rw [hv] at this
 exact this.q fun v W5 ⟨t5, h5⟩ => ⟨{ x with rv := v }, _, _, _, t5, e1, e2, h5⟩
theorem NwP.cod_ (h : NwP E W0 t0 X recs draws tv av kr kp kf ka w) (hk : kf ≤ 1000) :
  ∃ so sc, w.cell? ⟨X, 2, none⟩ = some (.slice so kf sc) ∧ X < w.heap.size ∧ ∀ W2 (l : List Stp) (g cap : Nat), Fr [] w W2 → w.heap.size ≤ g → (∀ tag : Nat → Nat, tag g = 9 → CodeM E.mo W2 tag kf (.slice (some ⟨g, 0, none⟩) l.length cap) l) → AppQ X 2 130 143 kf [.int .i64 (Mach.parOf E.mo kf : Nat), .slice (some ⟨g, 0, none⟩) l.length cap] so sc W2 (NwP E W0 t0 X recs draws tv av kr kp (kf + 1) ka) := by
 obtain ⟨x, pb, A, code, tag, e1, e2, h⟩ := h
 have o := h.row
 obtain ⟨so, sc, hv⟩ := own_form (show w.ownsRow 0 143 2 x.fv kf _ from (h.S.rows 16 rfl).1)
 refine ⟨so, sc, by rw [← hv]; exact own_cell o rfl, (o.lt X rfl).2, fun W2 l g cap F h1 h2 => ?_⟩
 have := h.cod_ F (c := (.slice (some ⟨g, 0, none⟩) l.length cap, l)) rfl (h2 _ (newTag_new h1)) hk
 rw [hv] at this
 exact this.q fun v W5 ⟨t5, c', h5⟩ => ⟨{ x with fv := v }, _, _, _, t5, e1, e2, h5⟩
theorem NwP.av9 (h : NwP E W0 t0 X recs draws tv av kr kp kf ka w) : ∃ o cap, av = .slice o E.mo.arrs.toNat cap ∧ w.cell? ⟨X, 9, none⟩ = some av ∧ X < w.heap.size ∧ (0 < E.mo.arrs.toNat → ∃ ga, o = some ⟨ga, 0, none⟩ ∧ X ≠ ga ∧ ga < w.heap.size ∧ ∀ i, i < E.mo.arrs.toNat * 2 → (∃ u, w.cell? ⟨ga, i, none⟩ = some u) ∧ w.frozen? ⟨ga, i, none⟩ = false) := by
 obtain ⟨x, pb, A, code, tag, e1, rfl, h⟩ := h
 have o := h.row
 obtain ⟨o13, t13⟩ := h.S.rows 13 rfl
 have o13 : w.ownsRow 0 146 2 x.av E.mo.arrs.toNat (rng E.mo.arrs.toNat (avN ka A)) := o13
 have t13 : Tg tag x.av 13 := t13
 obtain ⟨so, sc, hv⟩ := own_form o13
 refine ⟨so, sc, hv, own_cell o rfl, (o.lt X rfl).2, fun h0 => ?_⟩
 obtain ⟨ga, cap, e, -, hg⟩ := own_some o13 h0
 rw [e] at hv o13
 cases hv
 refine ⟨ga, rfl, ?_, hg, fun i hi => ⟨?_, own_thaw o13 i⟩⟩
 ·rintro rfl
  have h1 := t13 X (by rw [e]; rfl)
  have h2 : tag X = 10 := (h.S.rows 10 rfl).2 X rfl
  omega
 ·have hl := o13.1
  exact ⟨_, own_cell o13 (List.getElem?_eq_getElem (show i < _ by rw [hl]; exact hi))⟩
theorem NwP.arr_ (h : NwP E W0 t0 X recs draws tv av kr kp kf ka w) {ga cap b : Nat} (F : Fr [] w W2) (hb : w.heap.size ≤ b) (hM : MapAt W2 b []) (hav : av = .slice (some ⟨ga, 0, none⟩) E.mo.arrs.toNat cap) (hk : ka < E.mo.arrs.toNat) :
  NwP E W0 t0 X recs draws tv av kr kp kf (ka + 1) ((W2.setCell ⟨ga, ka * 2, none⟩ (.map (some b))).setCell ⟨ga, ka * 2 + 1, none⟩ (.slice none 0 0)) := by
 obtain ⟨x, pb, A, code, tag, e1, rfl, h⟩ := h
 obtain ⟨t5, A', h5⟩ := h.arr_ F hb hM hav hk
 exact ⟨_, _, _, _, t5, e1, rfl, h5⟩
end
end Go.Proofs.YtmolfmgchbjnbaaGreatDoor
