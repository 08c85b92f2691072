/-
  One step, whichever it is; the steps of the opening. The whole script: each step answers as the document does, and no list that came out is ever turned by another.
-/
import Derived.Test.YtakbfoegkjaphaaGreatDoorM37
set_option linter.unusedSimpArgs false
set_option linter.unusedVariables false
namespace Go.Proofs.YtakbfoegkjaphaaGreatDoor
open Go.RowKit

/-- The steps of the opening: of those that are played here one is a Find, the others set the caller's bytes. -/
def HeadAt (W : World) (g : Nat) : Prop := ∀ i, i < 11 → ∃ o : OpR, OpAt W g (i * 6) o ∧ OpOk o ∧ (o.k < 8 → o.k = 1) ∧ (8 ≤ o.k → o.k ≤ 11 → o.k = 9)
theorem HeadAt.blk {W W' : World} {g : Nat} (h : HeadAt W g) (hb : W'.heap[g]? = W.heap[g]?) : HeadAt W' g := fun i hi => by
  obtain ⟨o, h1, h2⟩ := h i hi
  have hc : ∀ j, W'.cell? ⟨g, j, none⟩ = W.cell? ⟨g, j, none⟩ := fun j => World.cell?_of_block (w := W) (a := ⟨g, j, none⟩) hb
  exact ⟨o, ⟨(hc _).trans h1.k, (hc _).trans h1.a, (hc _).trans h1.b, (hc _).trans h1.s, (hc _).trans h1.t, (hc _).trans h1.u⟩, h2⟩

set_option maxRecDepth 100000 in
set_option maxHeartbeats 2000000 in
theorem opening_kinds (w : World) : Calls Tryz.prog 5 #[] w fun e w' => ∃ g : Nat, e = .returned (.slice (some ⟨g, 0, none⟩) 11 11) ∧ w.heap.size ≤ g ∧ g < w'.heap.size ∧ HeadAt w' g ∧ Fr [] w w' := by
  have H := five_any w
  go_enter Tryz.func5, Tryz.ntmps5
  go_wp2_with fail
  refine H.mono ?_
  rintro e w1 ⟨s, hs, rfl, f1⟩
  have fa := fun o => f1.alloc o
  have Hf : Hid _ := fa
  have hsz := f1.size
  clear H fa
  go_wp2
  go_ret
  refine ⟨w1.heap.size, rfl, hsz, by simp, ?_, Hf.out _⟩
  intro i hi
  obtain rfl | rfl | rfl | rfl | rfl | rfl | rfl | rfl | rfl | rfl | rfl : i = 0 ∨ i = 1 ∨ i = 2 ∨ i = 3 ∨ i = 4 ∨ i = 5 ∨ i = 6 ∨ i = 7 ∨ i = 8 ∨ i = 9 ∨ i = 10 := by omega
  · exact ⟨⟨9, 0, 0, ⟨#[98, 43]⟩, ⟨#[97, 98, 98]⟩, ⟨#[]⟩⟩, by constructor <;> simp, opOk_of _ _ _ _ (by omega) (by omega) (by omega) (by omega) (by decide) (by decide), by simp, by simp⟩
  · exact ⟨⟨1, 0, 0, ⟨#[71, 76]⟩, ⟨#[]⟩, ⟨#[]⟩⟩, by constructor <;> simp, opOk_of _ _ _ _ (by omega) (by omega) (by omega) (by omega) (by decide) (by decide), by simp, by simp⟩
  · exact ⟨⟨13, 0, 0, ⟨#[]⟩, ⟨#[]⟩, ⟨#[]⟩⟩, by constructor <;> simp, opOk_of _ _ _ _ (by omega) (by omega) (by omega) (by omega) (by decide) (by decide), by simp, by simp⟩
  · exact ⟨⟨14, 0, 0, ⟨#[]⟩, ⟨#[]⟩, ⟨#[]⟩⟩, by constructor <;> simp, opOk_of _ _ _ _ (by omega) (by omega) (by omega) (by omega) (by decide) (by decide), by simp, by simp⟩
  · exact ⟨⟨1, 0, 0, s, ⟨#[]⟩, ⟨#[]⟩⟩, by constructor <;> simp, opOk_of _ _ _ _ (by omega) (by omega) (by omega) (by omega) hs (by decide), by simp, by simp⟩
  · exact ⟨⟨13, 0, 0, ⟨#[]⟩, ⟨#[]⟩, ⟨#[]⟩⟩, by constructor <;> simp, opOk_of _ _ _ _ (by omega) (by omega) (by omega) (by omega) (by decide) (by decide), by simp, by simp⟩
  · exact ⟨⟨14, 0, 0, ⟨#[]⟩, ⟨#[]⟩, ⟨#[]⟩⟩, by constructor <;> simp, opOk_of _ _ _ _ (by omega) (by omega) (by omega) (by omega) (by decide) (by decide), by simp, by simp⟩
  · exact ⟨⟨15, 0, 0, ⟨#[]⟩, ⟨#[]⟩, ⟨#[]⟩⟩, by constructor <;> simp, opOk_of _ _ _ _ (by omega) (by omega) (by omega) (by omega) (by decide) (by decide), by simp, by simp⟩
  · exact ⟨⟨16, 0, 3, ⟨#[]⟩, ⟨#[]⟩, ⟨#[]⟩⟩, by constructor <;> simp, opOk_of _ _ _ _ (by omega) (by omega) (by omega) (by omega) (by decide) (by decide), by simp, by simp⟩
  · exact ⟨⟨17, 0, 0, ⟨#[]⟩, ⟨#[]⟩, ⟨#[]⟩⟩, by constructor <;> simp, opOk_of _ _ _ _ (by omega) (by omega) (by omega) (by omega) (by decide) (by decide), by simp, by simp⟩
  · exact ⟨⟨19, 0, 0, ⟨#[66, 69, 71, 73, 78, 32, 123, 32, 112, 114, 105, 110, 116, 32, 49, 59, 32, 125]⟩, ⟨#[]⟩, ⟨#[]⟩⟩, by constructor <;> simp, opOk_of _ _ _ _ (by omega) (by omega) (by omega) (by omega) (by decide) (by decide), by simp, by simp⟩


set_option maxRecDepth 100000 in
set_option maxHeartbeats 2000000 in
theorem step_low (W : World) (b : Nat) (k a b' : Int) (s t u : ByteArray) (Q : World → Prop) (hk : k < 8)
    (h : ∀ o, Calls Tryz.prog 10 #[.pointer (some ⟨b, 0, none⟩), .agg #[.int .i64 k, .int .i64 a, .int .i64 b', .string s, .string t, .string u]] (W.alloc o) fun e W' => e = .returned (.tuple #[]) ∧ Q W') :
    Calls Tryz.prog 6 #[.pointer (some ⟨b, 0, none⟩), .agg #[.int .i64 k, .int .i64 a, .int .i64 b', .string s, .string t, .string u]] W fun e W' => e = .returned (.bool true) ∧ Q W' := by
  have H : Hid _ := h
  clear h
  go_enter Tryz.func6, Tryz.ntmps6
  go_wp2_with fail
  refine (H.out _).mono ?_
  rintro e W1 ⟨rfl, q⟩
  go_wp2
  go_ret
  exact ⟨rfl, q⟩

set_option maxRecDepth 100000 in
set_option maxHeartbeats 2000000 in
theorem step_mid (W : World) (b : Nat) (k a b' : Int) (s t u : ByteArray) (Q : World → Prop) (hk : ¬ (k < 8)) (hk2 : k ≤ 11)
    (h : ∀ o, Calls Tryz.prog 11 #[.pointer (some ⟨b, 0, none⟩), .agg #[.int .i64 k, .int .i64 a, .int .i64 b', .string s, .string t, .string u]] (W.alloc o) fun e W' => e = .returned (.bool true) ∧ Q W') :
    Calls Tryz.prog 6 #[.pointer (some ⟨b, 0, none⟩), .agg #[.int .i64 k, .int .i64 a, .int .i64 b', .string s, .string t, .string u]] W fun e W' => e = .returned (.bool true) ∧ Q W' := by
  have H : Hid _ := h
  clear h
  go_enter Tryz.func6, Tryz.ntmps6
  go_wp2_with fail
  refine (H.out _).mono ?_
  rintro e W1 ⟨rfl, q⟩
  go_wp2
  go_ret
  exact ⟨rfl, q⟩

set_option maxRecDepth 100000 in
set_option maxHeartbeats 2000000 in
/-- Setting the caller's bytes turns one cell of the world's own block. -/
theorem owner_bytes_frame (w0 W : World) (b : Nat) (tag : Nat → Nat) (c : Nat → Value) (T : Nat) (bk : List Book) (wl el : List Value) (a b' : Int) (s t u : ByteArray) (I : ScrI w0 W b tag c T bk wl el) (hs : s.size ≤ 2000000) :
    Calls Tryz.prog 10 #[.pointer (some ⟨b, 0, none⟩), .agg #[.int .i64 1, .int .i64 a, .int .i64 b', .string s, .string t, .string u]] W fun e W' => e = .returned (.tuple #[]) ∧ ∃ c', ScrI w0 W' b tag c' T bk wl el ∧ Chg tag [0] W W' := by
  have Ha : ∀ o, ScrI w0 (W.alloc o) b tag c T bk wl el := fun o => I.frm ((Fr.refl [] W).alloc o)
  have d1 := fun o => (Ha o).core.cell 1 (by decide)
  have z1 := fun o => (Ha o).core.fz 1 (by decide)
  have Hf : Hid (∀ o, ScrI w0 ((W.alloc o).setCell ⟨b, 1, none⟩ (.string s)) b tag (upd c 1 (.string s)) T bk wl el ∧ Chg tag [0] W ((W.alloc o).setCell ⟨b, 1, none⟩ (.string s))) := fun o => And.intro ((Ha o).bytes s hs)
    ((Chg.of_fr (tag := tag) (S := [0]) ((Fr.refl [] W).alloc o)).trans (Chg.setCell (W.alloc o) (by rw [I.core.tb]; simp) _) (fun _ _ h => h))
  have D1 : Hid _ := d1
  clear I Ha d1
  have d1 := D1.out (Obj.cells #[.int .i64 1, .int .i64 a, .int .i64 b', .string s, .string t, .string u] 38)
  have z1' := z1 (Obj.cells #[.int .i64 1, .int .i64 a, .int .i64 b', .string s, .string t, .string u] 38)
  clear z1 D1
  go_enter Tryz.func10, Tryz.ntmps10
  go_wp2
  go_end0
  exact ⟨rfl, _, (Hf.out _).1, (Hf.out _).2⟩

/-- All that a script has made, its marks unsaid: at most N lists came out. -/
def Pl (w0 W : World) (b T N : Nat) : Prop := ∃ tag c bk wl el, ScrI w0 W b tag c T bk wl el ∧ Waits w0.heap.size W tag wl el 0 ∧ bk.length + wl.length ≤ N
theorem Pl.fr {w0 W : World} {b T N : Nat} (h : Pl w0 W b T N) : Fr [] w0 W := by
  obtain ⟨tag, c, bk, wl, el, I, _⟩ := h
  exact I.core.fr
theorem Pl.lt {w0 W : World} {b T N : Nat} (h : Pl w0 W b T N) : w0.heap.size ≤ b ∧ b < W.heap.size := by
  obtain ⟨tag, c, bk, wl, el, I, _⟩ := h
  exact ⟨I.core.hb, I.core.lt⟩
theorem Pl.frm {w0 W W' : World} {b T N : Nat} (h : Pl w0 W b T N) (hf : Fr [] W W') : Pl w0 W' b T N := by
  obtain ⟨tag, c, bk, wl, el, I, Wt, hn⟩ := h
  exact ⟨tag, c, bk, wl, el, I.frm hf, Wt.chg (S := []) (Chg.of_fr hf) (by simp), hn⟩
theorem Pl.more {w0 W : World} {b T N T' N' : Nat} (h : Pl w0 W b T N) (hT : T ≤ T') (hN : N ≤ N') : Pl w0 W b T' N' := by
  obtain ⟨tag, c, bk, wl, el, I, Wt, hn⟩ := h
  exact ⟨tag, c, bk, wl, el, I.more hT, Wt, by omega⟩

theorem settle_pl (w0 W : World) (b T N : Nat) (P : Pl w0 W b T N) (hp : PowTab w0) (hN : N ≤ 900000000) :
    Calls Tryz.prog 7 #[.pointer (some ⟨b, 0, none⟩)] W fun e W' => e = .returned (.bool true) ∧ Pl w0 W' b T N := by
  obtain ⟨tag, c, bk, wl, el, I, Wt, hn⟩ := P
  refine (settle_any w0 W b tag c T bk wl el I Wt hp (by omega)).mono ?_
  rintro e W' ⟨he, tag', c', bk', I', hl⟩
  exact ⟨he, tag', c', bk', [], [], I', ⟨rfl, fun i v u _ h1 _ => by simp at h1⟩, by simp; omega⟩
theorem looks_pl (w0 W : World) (b T N : Nat) (P : Pl w0 W b T N) (hN : N ≤ 900000000) :
    Calls Tryz.prog 8 #[.pointer (some ⟨b, 0, none⟩)] W fun e W' => e = .returned (.bool true) ∧ Pl w0 W' b T N := by
  have P' := P
  obtain ⟨tag, c, bk, wl, el, I, Wt, hn⟩ := P
  refine (looks_any w0 W b tag c T bk wl el I (by omega)).mono ?_
  rintro e W' ⟨he, hf⟩
  exact ⟨he, P'.frm hf⟩
theorem step_pl (w0 W : World) (b T N : Nat) (k a b' : Int) (s t u : ByteArray) (P : Pl w0 W b T N) (hTab : Tab w0) (hT : T ≤ 900000000) (hN : N ≤ 900000000) (ok : OpOk ⟨k, a, b', s, t, u⟩) (hk : k ≤ 11) :
    Calls Tryz.prog 6 #[.pointer (some ⟨b, 0, none⟩), .agg #[.int .i64 k, .int .i64 a, .int .i64 b', .string s, .string t, .string u]] W fun e W' => e = .returned (.bool true) ∧ Pl w0 W' b (T + 1) (N + 2) := by
  by_cases h8 : k < 8
  · refine step_low W b k a b' s t u (fun W' => Pl w0 W' b (T + 1) (N + 2)) h8 fun o => ?_
    obtain ⟨tag, c, bk, wl, el, I, Wt, hn⟩ := P.frm ((Fr.refl [] W).alloc o)
    refine (owner_any w0 _ b tag c T bk wl el k a b' s t u I Wt (by omega) ok h8).mono ?_
    rintro e W' ⟨he, tag', c', I', Wt'⟩
    exact ⟨he, tag', c', bk, wl, el, I', Wt', by omega⟩
  · refine step_mid W b k a b' s t u (fun W' => Pl w0 W' b (T + 1) (N + 2)) h8 hk fun o => ?_
    have P1 := P.frm ((Fr.refl [] W).alloc o)
    have hT1 : Tab (W.alloc o) := hTab.fr P1.fr (by simp)
    have hk' : k = 8 ∨ k = 9 ∨ k = 10 ∨ k = 11 := by omega
    rcases hk' with rfl | rfl | rfl | rfl
    · exact (patterns_look _ b a b' s t u hT1 ok).mono fun e W' ⟨he, hf⟩ => ⟨he, (P1.frm hf).more (by omega) (by omega)⟩
    · exact (patterns_find _ b a b' s t u hT1 ok).mono fun e W' ⟨he, hf⟩ => ⟨he, (P1.frm hf).more (by omega) (by omega)⟩
    · exact (patterns_swap _ b a b' s t u hT1 ok).mono fun e W' ⟨he, hf⟩ => ⟨he, (P1.frm hf).more (by omega) (by omega)⟩
    · obtain ⟨tag, c, bk, wl, el, I, Wt, hn⟩ := P1
      have fin : ∀ e W', (e = Ending.returned (.bool true) ∧ ∃ tag' c' wl' el', ScrI w0 W' b tag' c' T bk wl' el' ∧ Waits w0.heap.size W' tag' wl' el' 0 ∧ wl'.length = wl.length + 2) → e = .returned (.bool true) ∧ Pl w0 W' b (T + 1) (N + 2) := by
        rintro e W' ⟨he, tag', c', wl', el', I', Wt', hl⟩
        exact ⟨he, tag', c', bk, wl', el', I'.more (by omega), Wt', by omega⟩
      rcases split_pair s t ok.s ok.t with ⟨e0, he, h1, h2⟩ | ⟨L, hL, h1, h2⟩
      · exact (patterns_split1 w0 _ b tag c T bk wl el a b' s t u e0 he h1 h2 I Wt hTab (by omega)).mono fin
      · exact (patterns_split0 w0 _ b tag c T bk wl el a b' s t u L hL h1 h2 I Wt hTab (by omega)).mono fin

end Go.Proofs.YtakbfoegkjaphaaGreatDoor

namespace Go.Proofs.YtakbfoegkjaphaaGreatDoor
open Go.RowKit

/-- The cells of a new world. -/
def cells0 (i : Nat) : Value := if i = 1 ∨ i = 2 then .string ⟨#[]⟩ else if i = 6 then .int .i64 0 else .slice none 0 0
/-- Its marks. -/
def tag0 (n : Nat) (k : Nat) : Nat := if k < n then 7 else if k = n then 0 else 6

theorem scr_start (w0 : World) : ScrI w0 (w0.alloc (Obj.cells #[.slice none 0 0, .string ⟨#[]⟩, .string ⟨#[]⟩, .slice none 0 0, .slice none 0 0, .slice none 0 0, .int .i64 0, .slice none 0 0, .slice none 0 0, .slice none 0 0, .slice none 0 0, .slice none 0 0, .slice none 0 0, .slice none 0 0, .slice none 0 0] 35))
    w0.heap.size (tag0 w0.heap.size) cells0 0 [] [] [] := by
  have core : CorI w0 (w0.alloc (Obj.cells #[.slice none 0 0, .string ⟨#[]⟩, .string ⟨#[]⟩, .slice none 0 0, .slice none 0 0, .slice none 0 0, .int .i64 0, .slice none 0 0, .slice none 0 0, .slice none 0 0, .slice none 0 0, .slice none 0 0, .slice none 0 0, .slice none 0 0, .slice none 0 0] 35)) w0.heap.size (tag0 w0.heap.size) cells0 := by
    refine ⟨(Fr.refl [] w0).alloc _, fun k hk => by simp [tag0, hk], Nat.le_refl _, by simp [tag0], fun i hi => ?_, fun i hi => ?_⟩
    · obtain rfl | rfl | rfl | rfl | rfl | rfl | rfl | rfl | rfl | rfl | rfl | rfl | rfl | rfl | rfl : i = 0 ∨ i = 1 ∨ i = 2 ∨ i = 3 ∨ i = 4 ∨ i = 5 ∨ i = 6 ∨ i = 7 ∨ i = 8 ∨ i = 9 ∨ i = 10 ∨ i = 11 ∨ i = 12 ∨ i = 13 ∨ i = 14 := by omega
      all_goals simp [cells0]
    · obtain rfl | rfl | rfl | rfl | rfl | rfl | rfl | rfl | rfl | rfl | rfl | rfl | rfl | rfl | rfl : i = 0 ∨ i = 1 ∨ i = 2 ∨ i = 3 ∨ i = 4 ∨ i = 5 ∨ i = 6 ∨ i = 7 ∨ i = 8 ∨ i = 9 ∨ i = 10 ∨ i = 11 ∨ i = 12 ∨ i = 13 ∨ i = 14 := by omega
      all_goals simp
  exact ⟨core, rfl, ⟨_, rfl, by decide⟩, rfl, ⟨0, [], RowT.nil _ _ _ _ _ _, Nat.le_refl _⟩, ⟨0, [], RowT.nil _ _ _ _ _ _, Nat.le_refl _⟩, rfl, RowT.nil _ _ _ _ _ _, rfl, RowT.nil _ _ _ _ _ _, RowT.nil _ _ _ _ _ _, rfl, rfl, by simp⟩

set_option maxRecDepth 100000 in
set_option maxHeartbeats 8000000 in
theorem plays_any (a0 : Option Addr) (n cap g off : Nat) (w0 : World) (hTab : Tab w0) (hp : PowTab w0) (hn : n ≤ 200000) (ha : 0 < n → a0 = some ⟨g, off, none⟩ ∧ g < w0.heap.size) (hops : OpsAt w0 g off n) (hc : n ≤ cap) :
    Calls Tryz.prog 4 #[.slice none 0 0, .slice a0 n cap, .int .i64 8, .int .i64 11] w0 fun e W' => e = .returned (.bool true) ∧ Fr [] w0 W' := by
  have HS : Hid _ := scr_start w0
  have Ha : Hid _ := ha
  have Hops : Hid (OpsAt w0 g off n) := hops
  have HT : Hid (Tab w0) := hTab
  have HP : Hid (PowTab w0) := hp
  have hsz : w0.heap.size < (w0.alloc (Obj.cells #[.slice none 0 0, .string ⟨#[]⟩, .string ⟨#[]⟩, .slice none 0 0, .slice none 0 0, .slice none 0 0, .int .i64 0, .slice none 0 0, .slice none 0 0, .slice none 0 0, .slice none 0 0, .slice none 0 0, .slice none 0 0, .slice none 0 0, .slice none 0 0] 35)).heap.size := by simp
  clear ha hops hTab hp
  go_enter Tryz.func4, Tryz.ntmps4
  go_wp2_with fail
  refine (opening_kinds _).mono ?_
  rintro e W2 ⟨g1, rfl, hg1, hg2, hh, f2⟩
  have S2 : Hid _ := HS.out.frm f2
  have Hh : Hid _ := hh
  have tg1 : Hid (tag0 w0.heap.size g1 = 6) := by
    have r : tag0 w0.heap.size g1 = 6 := by unfold tag0; rw [if_neg (by omega), if_neg (by omega)]
    exact r
  clear HS f2 hh hg1 hsz
  go_wp2
  go_loopw [11] (fun i wr => ∃ (k : Nat) (c : Nat → Value), k ≤ 11 ∧ i = .int .i64 k ∧ Hid (ScrI w0 wr w0.heap.size (tag0 w0.heap.size) c 0 [] [] []) ∧ Hid (HeadAt wr g1) ∧ g1 < wr.heap.size) (fun i _ => 11 - (intOf i).toNat)
  case atStart => exact ⟨0, _, by omega, rfl, S2, Hh, hg2⟩
  case round =>
    clear S2 Hh hg2
    obtain ⟨k, c, hk, rfl, I, H, hgl⟩ := hrel
    by_cases hlt : k < 11
    · have q1 : (k : Int) < 11 := by omega
      obtain ⟨⟨ok, oa, ob, os, ot, ou⟩, h1, h2, h3, h4⟩ := H.out k hlt
      have e0 : wr.cell? ⟨g1, k * 6, none⟩ = some (.int .i64 ok) := h1.k
      have e1 : wr.cell? ⟨g1, k * 6 + 1, none⟩ = some (.int .i64 oa) := h1.a
      have e2 : wr.cell? ⟨g1, k * 6 + 2, none⟩ = some (.int .i64 ob) := h1.b
      have e3 : wr.cell? ⟨g1, k * 6 + 3, none⟩ = some (.string os) := h1.s
      have e4 : wr.cell? ⟨g1, k * 6 + 4, none⟩ = some (.string ot) := h1.t
      have e5 : wr.cell? ⟨g1, k * 6 + 5, none⟩ = some (.string ou) := h1.u
      have Hok : Hid _ := h2
      clear h1 h2
      by_cases h8 : ok < 8
      · obtain rfl : ok = 1 := h3 h8
        have hs := step_low wr w0.heap.size 1 oa ob os ot ou (fun W' => ∃ c', ScrI w0 W' w0.heap.size (tag0 w0.heap.size) c' 0 [] [] [] ∧ Chg (tag0 w0.heap.size) [0] wr W') (by decide)
          (fun o => (owner_bytes_frame w0 _ w0.heap.size _ c 0 [] [] [] oa ob os ot ou (I.out.frm ((Fr.refl [] wr).alloc o)) Hok.out.s).mono
            fun e W' ⟨he, c', hi, hg⟩ => ⟨he, c', hi, (Chg.of_fr (S := [0]) ((Fr.refl [] wr).alloc o)).trans hg (fun _ _ h => h)⟩)
        clear h3 h4 h8
        go_wp2_with fail
        refine hs.mono ?_
        rintro e W3 ⟨rfl, c', I', hg⟩
        have hb := hg.block g1 hgl (by rw [tg1.out]; simp)
        have H3 : Hid (HeadAt W3 g1) := H.out.blk hb
        have hg3 : g1 < W3.heap.size := Nat.lt_of_lt_of_le hgl hg.size
        have I3 : Hid _ := I'
        clear hb hg I' hs e0 e1 e2 e3 e4 e5 Hok I H
        go_wp2
        exact ⟨⟨k + 1, c', by omega, by go_num, I3, H3, hg3⟩, by simp [intOf]; omega⟩
      · have q8 : ¬ (ok < 8) := h8
        have q9 : (8 : Int) ≤ ok := by omega
        by_cases h11 : ok ≤ 11
        · obtain rfl : ok = 9 := h4 q9 h11
          have hs := step_mid wr w0.heap.size 9 oa ob os ot ou (fun W' => Fr [] wr W') (by decide) (by decide)
            (fun o => (patterns_find _ w0.heap.size oa ob os ot ou (HT.out.fr (I.out.core.fr.trans ((Fr.refl [] wr).alloc o)) (by simp)) Hok.out).mono fun e W' ⟨he, hf⟩ => ⟨he, ((Fr.refl [] wr).alloc o).trans hf⟩)
          clear h3 h4 h8 q8 q9 h11
          go_wp2_with fail
          refine hs.mono ?_
          rintro e W3 ⟨rfl, hf⟩
          have H3 : Hid (HeadAt W3 g1) := H.out.blk (hf.block g1 hgl (by simp))
          have hg3 : g1 < W3.heap.size := Nat.lt_of_lt_of_le hgl hf.size
          have I3 : Hid _ := I.out.frm hf
          clear hf hs e0 e1 e2 e3 e4 e5 Hok I H
          go_wp2
          exact ⟨⟨k + 1, c, by omega, by go_num, I3, H3, hg3⟩, by simp [intOf]; omega⟩
        · have q11 : ¬ (ok ≤ 11) := h11
          clear h3 h4 h8 h11 Hok
          go_wp2
          exact ⟨⟨k + 1, c, by omega, by go_num, I, H, hgl⟩, by simp [intOf]; omega⟩
    · have q1 : ¬ ((k : Int) < 11) := by omega
      have P : Hid (Pl w0 wr w0.heap.size 0 0) := ⟨_, c, [], [], [], I.out, ⟨rfl, fun i v u _ h1 _ => by simp at h1⟩, by simp⟩
      clear I H hgl tg1 hk hlt
      go_wp2
      go_loopw [13] (fun i wr => ∃ k : Nat, k ≤ n ∧ i = .int .i64 k ∧ Hid (Pl w0 wr w0.heap.size k (2 * k))) (fun i _ => n - (intOf i).toNat)
      case atStart => exact ⟨0, by omega, rfl, P⟩
      case round =>
        clear P q1
        obtain ⟨k, hk, rfl, P⟩ := hrel
        by_cases hlt : k < n
        · have q1 : (k : Int) < n := by omega
          have q2 : (k : Int) < 1152921504606846976 := by omega
          obtain ⟨rfl, hgl⟩ := Ha.out (by omega)
          obtain ⟨⟨ok, oa, ob, os, ot, ou⟩, h1, h2⟩ := (Hops.out.fr P.out.fr (by simp)) k hlt
          have e0 : wr.cell? ⟨g, off + k * 6, none⟩ = some (.int .i64 ok) := h1.k
          have e1 : wr.cell? ⟨g, off + k * 6 + 1, none⟩ = some (.int .i64 oa) := h1.a
          have e2 : wr.cell? ⟨g, off + k * 6 + 2, none⟩ = some (.int .i64 ob) := h1.b
          have e3 : wr.cell? ⟨g, off + k * 6 + 3, none⟩ = some (.string os) := h1.s
          have e4 : wr.cell? ⟨g, off + k * 6 + 4, none⟩ = some (.string ot) := h1.t
          have e5 : wr.cell? ⟨g, off + k * 6 + 5, none⟩ = some (.string ou) := h1.u
          have Hok : Hid _ := h2
          clear h1 h2 hgl
          by_cases h11 : ok ≤ 11
          · by_cases h8 : ok < 8
            · have q8 : ¬ ((8 : Int) ≤ ok) := by omega
              have hs := step_pl w0 _ w0.heap.size k (2 * k) ok oa ob os ot ou (P.out.frm ((Fr.refl [] wr).alloc (Obj.cells #[.int .i64 ok, .int .i64 oa, .int .i64 ob, .string os, .string ot, .string ou] 38))) HT.out (by omega) (by omega) Hok.out h11
              clear P
              go_wp2_with fail
              refine hs.mono ?_
              rintro e W3 ⟨rfl, P3⟩
              have HP3 : Hid (Pl w0 W3 w0.heap.size (k + 1) (2 * (k + 1))) := P3
              clear hs P3 e0 e1 e2 e3 e4 e5 Hok
              by_cases h3 : k % 3 = 2
              · have q3 : (k : Int).tmod 3 = 2 := by rw [Int.tmod_eq_emod_of_nonneg (by omega)]; omega
                have hs2 := settle_pl w0 W3 w0.heap.size (k + 1) (2 * (k + 1)) HP3.out HP.out (by omega)
                clear h3
                go_wp2_with fail
                refine hs2.mono ?_
                rintro e W4 ⟨rfl, P4⟩
                have hs3 := looks_pl w0 W4 w0.heap.size (k + 1) (2 * (k + 1)) P4 (by omega)
                clear hs2 P4 HP3
                go_wp2_with fail
                refine hs3.mono ?_
                rintro e W5 ⟨rfl, P5⟩
                have HP5 : Hid (Pl w0 W5 w0.heap.size (k + 1) (2 * (k + 1))) := P5
                clear hs3 P5
                go_wp2
                exact ⟨⟨k + 1, by omega, by go_num, HP5⟩, by simp [intOf]; omega⟩
              · obtain ⟨r, hr⟩ : ∃ r : Nat, r = k % 3 := ⟨_, rfl⟩
                have q3 : (k : Int).tmod 3 = r := by rw [Int.tmod_eq_emod_of_nonneg (by omega)]; omega
                have q4 : ((r : Int) == 2) = false := by simp; omega
                have q5 : r < 3 := by omega
                clear hr
                have hs3 := looks_pl w0 W3 w0.heap.size (k + 1) (2 * (k + 1)) HP3.out (by omega)
                clear h3 HP3
                go_wp2_with fail
                refine hs3.mono ?_
                rintro e W5 ⟨rfl, P5⟩
                have HP5 : Hid (Pl w0 W5 w0.heap.size (k + 1) (2 * (k + 1))) := P5
                clear hs3 P5
                go_wp2
                exact ⟨⟨k + 1, by omega, by go_num, HP5⟩, by simp [intOf]; omega⟩

            · have q8 : (8 : Int) ≤ ok := by omega
              have q9 : ¬ (ok < 8) := by omega
              have q11 : ¬ ((11 : Int) < ok) := by omega
              have hs := step_pl w0 _ w0.heap.size k (2 * k) ok oa ob os ot ou (P.out.frm ((Fr.refl [] wr).alloc (Obj.cells #[.int .i64 ok, .int .i64 oa, .int .i64 ob, .string os, .string ot, .string ou] 38))) HT.out (by omega) (by omega) Hok.out h11
              clear P
              go_wp2_with fail
              refine hs.mono ?_
              rintro e W3 ⟨rfl, P3⟩
              have HP3 : Hid (Pl w0 W3 w0.heap.size (k + 1) (2 * (k + 1))) := P3
              clear hs P3 e0 e1 e2 e3 e4 e5 Hok
              by_cases h3 : k % 3 = 2
              · have q3 : (k : Int).tmod 3 = 2 := by rw [Int.tmod_eq_emod_of_nonneg (by omega)]; omega
                have hs2 := settle_pl w0 W3 w0.heap.size (k + 1) (2 * (k + 1)) HP3.out HP.out (by omega)
                clear h3
                go_wp2_with fail
                refine hs2.mono ?_
                rintro e W4 ⟨rfl, P4⟩
                have hs3 := looks_pl w0 W4 w0.heap.size (k + 1) (2 * (k + 1)) P4 (by omega)
                clear hs2 P4 HP3
                go_wp2_with fail
                refine hs3.mono ?_
                rintro e W5 ⟨rfl, P5⟩
                have HP5 : Hid (Pl w0 W5 w0.heap.size (k + 1) (2 * (k + 1))) := P5
                clear hs3 P5
                go_wp2
                exact ⟨⟨k + 1, by omega, by go_num, HP5⟩, by simp [intOf]; omega⟩
              · obtain ⟨r, hr⟩ : ∃ r : Nat, r = k % 3 := ⟨_, rfl⟩
                have q3 : (k : Int).tmod 3 = r := by rw [Int.tmod_eq_emod_of_nonneg (by omega)]; omega
                have q4 : ((r : Int) == 2) = false := by simp; omega
                have q5 : r < 3 := by omega
                clear hr
                have hs3 := looks_pl w0 W3 w0.heap.size (k + 1) (2 * (k + 1)) HP3.out (by omega)
                clear h3 HP3
                go_wp2_with fail
                refine hs3.mono ?_
                rintro e W5 ⟨rfl, P5⟩
                have HP5 : Hid (Pl w0 W5 w0.heap.size (k + 1) (2 * (k + 1))) := P5
                clear hs3 P5
                go_wp2
                exact ⟨⟨k + 1, by omega, by go_num, HP5⟩, by simp [intOf]; omega⟩

          · have q8 : (8 : Int) ≤ ok := by omega
            have q9 : ¬ (ok < 8) := by omega
            have q11 : (11 : Int) < ok := by omega
            have HP1 : Hid _ := fun o => (P.out.frm ((Fr.refl [] wr).alloc o)).more (T' := k + 1) (N' := 2 * (k + 1)) (by omega) (by omega)
            clear Hok h11 P
            go_wp2
            exact ⟨⟨k + 1, by omega, by go_num, HP1.out _⟩, by simp [intOf]; omega⟩
        · have q1 : ¬ ((k : Int) < n) := by omega
          have hs := settle_pl w0 wr w0.heap.size k (2 * k) P.out HP.out (by omega)
          clear hlt
          go_wp2_with fail
          refine hs.mono ?_
          rintro e W4 ⟨rfl, P4⟩
          have hs2 := looks_pl w0 W4 w0.heap.size k (2 * k) P4 (by omega)
          clear hs P4
          go_wp2_with fail
          refine hs2.mono ?_
          rintro e W5 ⟨rfl, P5⟩
          have f5 : Hid _ := P5.fr
          clear hs2 P5
          go_wp2
          go_ret
          exact ⟨rfl, f5.out⟩

set_option maxRecDepth 100000 in
set_option maxHeartbeats 2000000 in
theorem patterns_any (a0 : Option Addr) (n cap g off : Nat) (w0 : World) (hTab : Tab w0) (hp : PowTab w0) (hn : n ≤ 200000) (ha : 0 < n → a0 = some ⟨g, off, none⟩ ∧ g < w0.heap.size) (hops : OpsAt w0 g off n) (hc : n ≤ cap) :
    Calls Tryz.prog 3 #[.slice a0 n cap] w0 fun e W' => e = .returned (.bool true) ∧ Fr [] w0 W' := by
  have H := plays_any a0 n cap g off w0 hTab hp hn ha hops hc
  clear hTab hp ha hops
  go_enter Tryz.func3, Tryz.ntmps3
  go_wp2_with fail
  refine H.mono ?_
  rintro e W1 ⟨rfl, f⟩
  go_wp2
  go_ret
  exact ⟨rfl, f⟩

end Go.Proofs.YtakbfoegkjaphaaGreatDoor

