import Derived.Test.YtmolfmgchbjnbaaGreatDoorM41
import Derived.Test.YtmolfmgchbjnbaaGreatDoorM18
set_option linter.unusedSimpArgs false
set_option linter.unusedVariables false
namespace Go.Proofs.YtmolfmgchbjnbaaGreatDoor
open Go.RowKit
open Wire Flow
theorem build53 (b : Nat) (w : World) : (Instr.build 77 #[(0, ptr b)]).run Tryz.prog w = .ok (.agg #[ptr b]) w := by
 kernel_rfl
section
variable {m : Mo} {W : World} {recs : List ByteArray} {draws : List Int}
theorem rst_begin {X Y : Nat} {g : Pl} {w : World} {tag : Nat → Nat} (hK : Mach.ModOk m) (hs : Scr recs draws) (h : MM (envP m) X g (ms0 m recs draws) w tag) (he : g.en = 0) (hY : GM Y X w) (tY : tag Y < 10) : Rst (envP m) X Y (Mach.begin_ m recs draws) w tag := by
 obtain ⟨h1, h2, h3, h4⟩ := hs
 refine ⟨g, [], Mach.enter m 0 [], h, hY, tY, Mach.good_begin (E := envP m) hK h1 (fun s hs => ?_) h2 (fun n hn => ?_), ⟨by show 0 ≤ 9; omega, fun _ => rfl⟩, fun _ => ⟨fun g hg c hc => ?_, rfl, by rw [he]; rfl⟩⟩
 ·by_cases c : s.size ≤ 100
  ·exact c
  ·exact absurd ⟨s, hs, show 100 < s.size by omega⟩ h3
 ·by_cases c : -1000000000 ≤ n ∧ n ≤ 1000000000
  ·exact c
  ·exact absurd ⟨n, hn, show n < -1000000000 ∨ 1000000000 < n by omega⟩ h4
 ·have hg : g ∈ [Mach.enter m 0 []] := hg
  rw [List.mem_singleton] at hg
  subst hg
  exact pr_enter m 0 [] c hc
def OpnR (m : Mo) (recs : List ByteArray) (draws : List Int) (W : World) (Y : Nat) (w : World) : Prop := ∃ X tag, Rst (envP m) X Y (Mach.begin_ m recs draws) w tag ∧ (∀ k, k < W.heap.size → tag k = 6) ∧ W.heap.size ≤ Y
def OpnP (m : Mo) (recs : List ByteArray) (draws : List Int) (W : World) (e : Ending) (w : World) : Prop :=
 Fr [] W w ∧ ((¬ Scr recs draws ∧ e = .returned (.tuple #[.pointer none, .int .i64 13])) ∨ (Scr recs draws ∧ ∃ Y, e = .returned (.tuple #[ptr Y, .int .i64 0]) ∧ OpnR m recs draws W Y w))
def RdOk (m : Mo) (gn an : Nat) (b : ByteArray) : Prop := ∀ W : World, Ev.TabS Ev.signs W → Calls Tryz.prog 31 #[.string b] W fun e w' => ∃ v', e = .returned v' ∧ Ev.Kept W w' ∧ Ev.ModLeft 0 [] 0 [] gn an m.fns.length (fnsV m) W v' w'
set_option maxRecDepth 100000 in
set_option maxHeartbeats 2000000 in
theorem open_any {gn an : Nat} (b : ByteArray) (hb : Base W) (ht : Ev.TabS Ev.signs W) (hC : Closed m gn an) (hB : RdOk m gn an b) {ro do_ : Option Addr} {rc dc nr nd : Nat} (hr : ArgL W (.slice ro nr rc) (recs.map .string)) (hd : ArgL W (.slice do_ nd dc) (draws.map (.int .i64))) :
    Calls Tryz.prog 20 #[.string b, .slice ro nr rc, .slice do_ nd dc] W (OpnP m recs draws W) := by
  have HU : Hid _ := hB W ht
  have HS : Hid (∀ V, Fr [] W V → Calls Tryz.prog 32 #[.slice ro nr rc, .slice do_ nd dc] V (IsB (Scr recs draws) V)) := fun V F => isScript_any (hr.fr F) (hd.fr F)
  have HN : Hid (∀ V (g o c : Nat), Fr [] W V → W.heap.size ≤ g → g < V.heap.size → m.fns.length ≤ c → (∀ i u, (fnsV m)[i]? = some u → V.cell? ⟨g, i + o, none⟩ = some u) → Scr recs draws → Calls Tryz.prog 33 #[.agg #[.slice none 0 0, .slice none 0 0, .int .i64 (gn : Nat), .int .i64 (an : Nat), .slice (some ⟨g, o, none⟩) m.fns.length c], .slice ro nr rc, .slice do_ nd dc] V fun e w => ∃ X g tag, e = .returned (ptr X) ∧ MM (envP m) X g (ms0 m recs draws) w tag ∧ g.en = 0 ∧ Kp (fun k => if k < W.heap.size then 6 else 9) tag V w) := by
    intro V g o c F h1 h2 h3 h4 hs
    have hp0 : m.pats.length = 0 := by rw [hC.pt]; rfl
    have key := fun (U : World) (G : Fr [] V U) (i : Nat) (u : Value) (hi : (fnsV m)[i]? = some u) => (G.cell (p := ⟨g, i + o, none⟩) h2 (by simp)).trans (h4 i u hi)
    have := new_any (m := m) (W := V) (t0 := fun k => if k < W.heap.size then 6 else 9) (recs := recs) (draws := draws) (hb.fr F) (fun k _ => by show (if _ then _ else _) < 10; split <;> decide) (a0 := none) (a1 := none) (a4 := some ⟨g, o, none⟩) (n0 := 0) (c0 := 0) (c1 := 0) (c4 := c) hC.gl hC.ar hC.g1 hC.a1 hp0 hC.many hC.three
      (fun U k x G hk => ⟨g, o, rfl, hC.fns (key U G) hk⟩)
      (fun U k G hk => hC.reads Ev.mixed (Nat.lt_of_lt_of_le h2 G.size) (key U G) h3 hk)
      (by rw [hC.tx]; exact ⟨none, 0, rfl, Nat.le_refl _, by decide, fun h => absurd h (by simp)⟩) (hr.fr F) (hd.fr F) hs
    rw [hp0] at this
    exact this
  have HK : Hid (Mach.ModOk m) := hC.ok
  have h3 : 0 < m.fns.length := by have := hC.three; omega
  have hbd := build53
  clear hb hr hd hB ht hC
  go_enter Tryz.func20, Tryz.ntmps20
  go_wp2_with fail
  refine Calls.mono HU.out ?_
  rintro e V ⟨v', rfl, KV, tv, pv, fv, rfl, hT, hP, hF⟩
  obtain ⟨rfl⟩ : tv = .slice none 0 0 := by
    rcases hT with ⟨h, -⟩ | ⟨_, _, _, -, h, -⟩
    · exact h
    · omega
  obtain ⟨rfl⟩ : pv = .slice none 0 0 := by
    rcases hP with ⟨h, -⟩ | ⟨_, _, _, -, h, -⟩
    · exact h
    · omega
  obtain ⟨g, o, c, rfl, -, hc, hg1, hg2, hcell⟩ : ∃ b o c, fv = .slice (some ⟨b, o, none⟩) m.fns.length c ∧ 0 < m.fns.length ∧ m.fns.length ≤ c ∧ W.heap.size ≤ b ∧ b < V.heap.size ∧ ∀ i u, (fnsV m)[i]? = some u → V.cell? ⟨b, i + o, none⟩ = some u := by
    rcases hF with ⟨-, h, -⟩ | h
    · omega
    · exact h
  have FV : Fr [] W V := KV.fr
  clear hT hP KV
  obtain ⟨W3, hW3⟩ : ∃ W3, V.alloc (.cells #[.slice none 0 0, .slice none 0 0, .int .i64 (gn : Nat), .int .i64 (an : Nat), .slice (some ⟨g, o, none⟩) m.fns.length c] 70) = W3 := ⟨_, rfl⟩
  have F3 : Fr [] V W3 := by rw [← hW3]; exact (Fr.refl [] V).alloc _
  have k3 : W3.heap[V.heap.size]? = some (.cells #[.slice none 0 0, .slice none 0 0, .int .i64 (gn : Nat), .int .i64 (an : Nat), .slice (some ⟨g, o, none⟩) m.fns.length c] 70) := by rw [← hW3]; exact World.alloc_heap_new V _
  obtain ⟨⟨q0, q1, q2, q3, q4⟩, -⟩ := cells5F k3
  have H3 : Hid _ := And.intro (FV.trans F3) (And.intro (Nat.lt_of_lt_of_le hg2 F3.size) (And.intro hc (And.intro hg1 (fun (i : Nat) (u : Value) (hi : (fnsV m)[i]? = some u) => (F3.cell (p := ⟨g, i + o, none⟩) hg2 (by simp)).trans (hcell i u hi)))))
  clear FV F3 k3 HU hc hg1 hg2 hcell h3
  generalize m.fns.length = nf at *
  go_wp2_with fail
  refine Calls.mono (HS.out W3 H3.out.1) ?_
  rintro e V' ⟨bb, rfl, hbb, hV'⟩
  replace hV' := hV'.symm
  subst hV'
  cases bb with
  | false =>
    go_wp2_with fail
    go_ret2
    exact ⟨H3.out.1, .inl ⟨(fun h => (by have := hbb.2 h; cases this)), rfl⟩⟩
  | true =>
    have hs := hbb.1 rfl
    have H4 : Hid _ := hs
    clear hbb hs
    go_wp2_with fail
    refine Calls.mono (HN.out W3 g o c H3.out.1 H3.out.2.2.2.1 H3.out.2.1 H3.out.2.2.1 H3.out.2.2.2.2 H4.out) ?_
    rintro e V2 ⟨X, g', tag, rfl, hM, hg, K⟩
    have HM : Hid _ := And.intro hM (And.intro hg K)
    clear hM hg K q0 q1 q2 q3 q4 HN HS
    go_wp2_with fail
    go_ret2
    obtain ⟨hM, hg, K⟩ := HM.out
    have F5 : Fr [] V2 (V2.alloc (.cells #[ptr X] 77)) := (Fr.refl [] V2).alloc _
    obtain ⟨t, M5, K5, h6⟩ := MM.box hM F5
    have F4 : Fr [] W3 V2 := ⟨K.os, K.tape, K.output, K.size, fun k hk _ => K.blk k hk (by show (if _ then _ else _) < 10; split <;> decide)⟩
    refine ⟨(H3.out.1.trans F4).trans F5, .inr ⟨H4.out, V2.heap.size, rfl, X, t, rst_begin HK.out H4.out M5 hg ?_ (by rw [h6 _ (Nat.le_refl _)]; decide), fun k hk => ?_, Nat.le_trans H3.out.1.size K.size⟩⟩
    · show World.cell? _ _ = _
      unfold World.cell?
      rw [World.alloc_heap_new]
      rfl
    · have l3 : k < W3.heap.size := Nat.lt_of_lt_of_le hk H3.out.1.size
      rw [K5.ret k (Nat.lt_of_lt_of_le l3 K.size), K.ret k l3]
      exact if_pos hk
end
end Go.Proofs.YtmolfmgchbjnbaaGreatDoor
