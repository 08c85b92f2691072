/-
  What each part of the reader leaves, by induction on its fuel. A class. An atom.
-/
import Derived.Test.YtakbfoegkjaphaaGreatDoorM06
import Derived.Deep.LoopGhost
import Derived.Test.YtakbfoegkjaphaaGreatDoorM05
set_option linter.unusedSimpArgs false
set_option linter.unusedVariables false
namespace Go.Proofs.YtakbfoegkjaphaaGreatDoor

variable {t : ByteArray}

theorem Gives.trans {s s1 : St} {x : Piece × St} (h : Gives t s1 x) (hp : s.pos ≤ s1.pos) (ha : s.atoms ≤ s1.atoms) : Gives t s x := ⟨h.inv, h.pb, Nat.le_trans hp h.le, Nat.le_trans ha h.al⟩

theorem peek_tie (s : St) (f : Nat → Nat → Nat) : peekF t { s with fo := f } = peekF t s := rfl

structure GivesAll (t : ByteArray) (n : Nat) : Prop where
  alt : ∀ s, Inv t s → Gives t s (altF t n s)
  altL : ∀ q s, Inv t s → PB s.atoms q → Gives t s (altLF t n q s)
  seq : ∀ s, Inv t s → Gives t s (seqF t n s)
  seqL : ∀ q s, Inv t s → PB s.atoms q → Gives t s (seqLF t n q s)
  part : ∀ s, Inv t s → peekF t s ≠ -1 → Gives t s (partF t n s)
  partL : ∀ q s, Inv t s → PB s.atoms q → Gives t s (partLF t n q s)
  atom : ∀ s, Inv t s → peekF t s ≠ -1 → Gives t s (atomF t n s)

theorem givesAll (t : ByteArray) : ∀ n, GivesAll t n
  | 0 => ⟨fun s h => ⟨h, PB.nothing _, Nat.le_refl _, Nat.le_refl _⟩, fun _ s h hq => ⟨h, hq, Nat.le_refl _, Nat.le_refl _⟩, fun s h => ⟨h, PB.nothing _, Nat.le_refl _, Nat.le_refl _⟩, fun _ s h hq => ⟨h, hq, Nat.le_refl _, Nat.le_refl _⟩,
      fun s h _ => ⟨h, PB.nothing _, Nat.le_refl _, Nat.le_refl _⟩, fun _ s h hq => ⟨h, hq, Nat.le_refl _, Nat.le_refl _⟩, fun s h _ => ⟨h, PB.nothing _, Nat.le_refl _, Nat.le_refl _⟩⟩
  | n + 1 => by
    have ih := givesAll t n
    refine ⟨fun s h => ?_, fun q s h hq => ?_, fun s h => ?_, fun q s h hq => ?_, fun s h hp => ?_, fun q s h hq => ?_, fun s h hp => ?_⟩
    · rw [altF_s]
      have g := ih.seq s h
      exact (ih.altL _ _ g.inv g.pb).trans g.le g.al
    · rw [altLF_s]
      split
      · rename_i hc
        have ha := h.adv (by rw [hc]; decide)
        have g := ih.seq _ ha
        have g2 := ih.altL _ _ g.inv ((hq.mono g.al).either g.pb)
        exact g2.trans (Nat.le_trans (by simp [advF]) g.le) g.al
      · exact ⟨h, hq, Nat.le_refl _, Nat.le_refl _⟩
    · rw [seqF_s]
      exact ih.seqL _ _ h (PB.nothing _)
    · rw [seqLF_s]
      split
      · exact ⟨h, hq, Nat.le_refl _, Nat.le_refl _⟩
      · rename_i hc
        have g := ih.part s h (fun e => hc (.inl e))
        have g2 := ih.seqL (joinF q (partF t n s).1) { (partF t n s).2 with fo := tieP (partF t n s).2.fo q (partF t n s).1 } (g.inv.tie g.pb) ((hq.mono g.al).join g.pb)
        exact g2.trans g.le g.al
    · rw [partF_s]
      have g := ih.atom s h hp
      exact (ih.partL _ _ g.inv g.pb).trans g.le g.al
    · rw [partLF_s]
      split
      · rename_i hc
        have hi := h.tie (q := q) hq
        have ha := hi.adv (s := { s with fo := tieP s.fo q q }) (by rw [peek_tie, hc]; decide)
        exact (ih.partL _ _ ha (hq.either (PB.nothing _))).trans (by simp [advF]) (Nat.le_refl _)
      · split
        · rename_i _ hc
          have hi := h.tie (q := q) hq
          have ha := hi.adv (s := { s with fo := tieP s.fo q q }) (by rw [peek_tie, hc]; decide)
          exact (ih.partL _ _ ha hq).trans (by simp [advF]) (Nat.le_refl _)
        · split
          · rename_i _ _ hc
            have ha := h.adv (by rw [hc]; decide)
            exact (ih.partL _ _ ha (hq.either (PB.nothing _))).trans (by simp [advF]) (Nat.le_refl _)
          · exact ⟨h, hq, Nat.le_refl _, Nat.le_refl _⟩
    · rw [atomF_s]
      have ha := h.adv hp
      have hlt : (advF s).atoms < (advF s).pos := by have := h.at_; simp [advF]; omega
      split
      · have g := ih.alt _ ha
        have nn := need_near (t := t) (altF t n (advF s)).2 41 (by decide)
        refine ⟨nn.inv g.inv, ?_, Nat.le_trans (Nat.le_trans (by simp [advF]) g.le) nn.le, ?_⟩
        · rw [nn.atoms]; exact g.pb
        · rw [nn.atoms]; exact g.al
      · split
        · exact (class_gives n _ ha hlt).trans (by simp [advF]) (Nat.le_refl _)
        · split
          · exact take_gives s 0 255 ha hlt (by simp [advF]) (Nat.le_refl _)
          · split
            · exact ⟨ha, PB.anchor _ _, by simp [advF], Nat.le_refl _⟩
            · split
              · exact ⟨ha, PB.anchor _ _, by simp [advF], Nat.le_refl _⟩
              · obtain ⟨hn, hl⟩ := plain_near s hp
                exact take_gives s _ _ (hn.inv h) (by rw [hn.atoms]; have := h.at_; omega) hn.le (by rw [hn.atoms]; exact Nat.le_refl _)

theorem atom_prog {n : Nat} {s : St} (h : Inv t s) (hp : peekF t s ≠ -1) : s.pos < (atomF t (n + 1) s).2.pos := by
  have ha := h.adv hp
  have hlt : (advF s).atoms < (advF s).pos := by have := h.at_; simp [advF]; omega
  have e1 : s.pos < (advF s).pos := by simp [advF]
  rw [atomF_s]
  split
  · have g := (givesAll t n).alt _ ha
    have nn := need_near (t := t) (altF t n (advF s)).2 41 (by decide)
    exact Nat.lt_of_lt_of_le (Nat.lt_of_lt_of_le e1 g.le) nn.le
  · split
    · exact Nat.lt_of_lt_of_le e1 (class_gives n _ ha hlt).le
    · split
      · exact e1
      · split
        · exact e1
        · split
          · exact e1
          · exact (plain_near s hp).2

theorem part_prog {n : Nat} {s : St} (h : Inv t s) (hp : peekF t s ≠ -1) : s.pos < (partF t (n + 2) s).2.pos := by
  rw [partF_s]
  have g := (givesAll t (n + 1)).atom s h hp
  exact Nat.lt_of_lt_of_le (atom_prog h hp) ((givesAll t (n + 1)).partL _ _ g.inv g.pb).le

end Go.Proofs.YtakbfoegkjaphaaGreatDoor

namespace Go.Proofs.YtakbfoegkjaphaaGreatDoor
open Go.RowKit

/-- The place of the result: twelve cells as they were laid. -/
structure Res (b : Nat) (W : World) : Prop where
  rr : RowIs W b [.bool false, .int .u64 0, .int .u64 0, .bool false, .int .u64 0, .int .u64 0, .bool false, .int .u64 0, .int .u64 0, .bool false, .int .u64 0, .int .u64 0]
  zr : ∀ i, W.frozen? ⟨b, i, none⟩ = false
theorem Res.lt {b : Nat} {W : World} (h : Res b W) : b < W.heap.size := lt_of_cell (a := ⟨b, 0, none⟩) (h.rr 0)
theorem Res.fr {S : List Nat} {b : Nat} {W W' : World} (h : Res b W) (hf : Fr S W W') (hb : b ∉ S) : Res b W' := ⟨h.rr.fr hf hb h.lt, fun i => (hf.frozen (p := ⟨b, i, none⟩) h.lt hb).trans (h.zr i)⟩
theorem Res.new (W : World) : Res W.heap.size (W.alloc (Obj.cells #[.bool false, .int .u64 0, .int .u64 0, .bool false, .int .u64 0, .int .u64 0, .bool false, .int .u64 0, .int .u64 0, .bool false, .int .u64 0, .int .u64 0] 174)) := ⟨rowIs_new W _ 174, frozen_all_new W _ 174⟩

/-- What the rounds of a class keep. -/
structure ClI (w : World) (r pb : Nat) (t : ByteArray) (wh : Nat → Value) (s : St) (C : (Nat → Bool) × St) (m : Nat) (P : Nat → Bool) (s1 : St) (W : World) : Prop where
  mm : M W r pb t wh s1
  by_ : ByteL W (w.heap.size + 1) P
  res : Res w.heap.size W
  fr : Fr [r, pb] w W
  eq : Hid (classLF t m P s1 = C)
  near : Near t s s1
  fuel : s1.fault = true ∨ t.size - s1.pos < m

set_option maxRecDepth 100000 in
set_option maxHeartbeats 2000000 in
theorem class_any {w : World} {r pb : Nat} {t : ByteArray} {wh : Nat → Value} {s : St} (n : Nat) (h : M w r pb t wh s) (hi : Inv t s) (hs : t.size ≤ 50) (hn : t.size - s.pos < n) (ha : s.atoms < 50) :
    Calls Tryz.prog 240 #[.pointer (some ⟨r, 0, none⟩)] w fun e w' => e = .returned (pv (classF t n s).1) ∧ M w' r pb t wh (classF t n s).2 ∧ Fr [r, pb] w w' := by
  have hrl := h.rlt
  have hpl := h.pat.lt
  have t6 := h.tab.lt
  have hps := hi.pos
  unfold classF
  simp only
  have n1 := skip_near (t := t) s 94 (by decide)
  have hsk := fun (W : World) (hW : M W r pb t wh s) => skip_any 94 hW hs (by omega)
  obtain ⟨a1, hq1⟩ : ∃ q, (skipF t s 94).1 = q := ⟨_, rfl⟩
  obtain ⟨s1, hq2⟩ : ∃ q, (skipF t s 94).2 = q := ⟨_, rfl⟩
  simp only [hq1, hq2] at hsk n1 ⊢
  clear hq1 hq2
  have hp1 : s1.pos ≤ t.size := n1.pos hps
  have n2 := item_near (t := t) s1 (fun _ => false)
  have g2 := item_prog (t := t) s1 (fun _ => false)
  have hit := fun (W : World) (hW : M W r pb t wh s1) (hB : ByteL W (w.heap.size + 1) (fun _ => false)) => item_any (w.heap.size + 1) (fun _ => false) hW hB (by omega) (by omega) (by omega) hs (by omega)
  obtain ⟨P2, hq3⟩ : ∃ q, (itemF t s1 (fun _ => false)).1 = q := ⟨_, rfl⟩
  obtain ⟨s2, hq4⟩ : ∃ q, (itemF t s1 (fun _ => false)).2 = q := ⟨_, rfl⟩
  simp only [hq3, hq4] at hit n2 g2 ⊢
  clear hq3 hq4
  obtain ⟨C, hC⟩ : ∃ C, classLF t n P2 s2 = C := ⟨_, rfl⟩
  have n3 : Near t s2 C.2 := by rw [← hC]; exact classL_near n P2 s2
  rw [hC]
  have HC : Hid (classLF t n P2 s2 = C) := hC
  clear hC
  have Hsk := (show Hid _ from hsk)
  have Hit := (show Hid _ from hit)
  clear hsk hit
  have f0 : Fr [] w ((w.alloc (Obj.cells #[.bool false, .int .u64 0, .int .u64 0, .bool false, .int .u64 0, .int .u64 0, .bool false, .int .u64 0, .int .u64 0, .bool false, .int .u64 0, .int .u64 0] 174)).alloc (Obj.cells Tryz.zeroCells318 318)) := ((Fr.refl [] _).alloc _).alloc _
  have b0 := ByteL.new (w.alloc (Obj.cells #[.bool false, .int .u64 0, .int .u64 0, .bool false, .int .u64 0, .int .u64 0, .bool false, .int .u64 0, .int .u64 0, .bool false, .int .u64 0, .int .u64 0] 174))
  rw [World.size_alloc] at b0
  have R0 := (Res.new w).fr ((Fr.refl [] _).alloc (Obj.cells Tryz.zeroCells318 318)) (by simp)
  have m0 := h.fr f0 (by simp) (by simp) (by simp)
  go_enter Tryz.func240, Tryz.ntmps240
  go_wp2_with fail
  refine (Hsk.out _ m0).mono ?_
  rintro e w1 ⟨rfl, m1, f1⟩
  have b1 := b0.fr f1 (by simp; omega)
  have R1 := R0.fr f1 (by simp; omega)
  have F1 : Fr [r, pb] w w1 := (f0.mono (by simp)).trans (f1.mono (by simp))
  clear b0 R0 m0 f1 f0
  go_wp2_with fail
  refine (Hit.out _ m1 b1).mono ?_
  rintro e w2 ⟨rfl, m2, b2, f2⟩
  have R2 := R1.fr f2 (by simp; omega)
  have F2 : Fr [r, pb] w w2 := F1.trans' f2 (by simp)
  clear b1 R1 f2
  go_wp2
  go_loopg [10] n (fun m _ wr => ∃ P s1, ClI w r pb t wh s C m P s1 wr)
  case atStart => exact ⟨P2, s2, m2, b2, R2, F2, HC, n1.trans n2, g2.imp id (fun g => by have := n1.le; omega)⟩
  case round =>
    obtain ⟨P, s3, J⟩ := hrel
    cases hf : s3.fault
    · have c2 : wr.cell? ⟨r, 2, none⟩ = some (.bool false) := by rw [← hf]; exact J.mm.rd.c2
      have hfu : t.size - s3.pos < gk := J.fuel.elim (fun e => by rw [hf] at e; cases e) id
      obtain ⟨m', rfl⟩ : ∃ m', gk = m' + 1 := ⟨gk - 1, by omega⟩
      have heq := J.eq.out
      unfold classLF at heq
      by_cases h93 : peekF t s3 = 93
      · rw [if_pos (.inr h93)] at heq
        obtain ⟨rfl, rfl⟩ : P = C.1 ∧ s3 = C.2 := by rw [← heq]; exact ⟨rfl, rfl⟩
        clear heq
        have nC := J.near
        have hnd := fun (W : World) (hW : M W r pb t wh C.2) => need_any 93 hW hs (by have := nC.pos hps; omega)
        have nN := nC.trans (need_near (t := t) C.2 93 (by decide))
        have hat : (needF t C.2 93).atoms < 50 := by rw [nN.atoms]; exact ha
        have htk : ∀ b, (needF t C.2 93).tk b < 18446744073709551616 := fun b => by
          rw [nN.tk]; exact Nat.lt_trans (hi.tk b) (Nat.lt_trans (Nat.pow_lt_pow_right (a := 2) (by decide) ha) (by decide))
        have htf := fun (W : World) (hW : M W r pb t wh (needF t C.2 93)) (hB : ByteL W (w.heap.size + 1) C.1) => takeOf_any (w.heap.size + 1) C.1 (!a1) hW hB (by omega) (by omega) hat htk
        obtain ⟨q, hq⟩ : ∃ q, (takeOfF (needF t C.2 93) (fun b => C.1 b == !a1)).1 = q := ⟨_, rfl⟩
        obtain ⟨sq, hsq⟩ : ∃ q, (takeOfF (needF t C.2 93) (fun b => C.1 b == !a1)).2 = q := ⟨_, rfl⟩
        simp only [hq, hsq] at htf
        have Hq : Hid (_ = q) := hq
        have Hs : Hid (_ = sq) := hsq
        have Hnd := (show Hid _ from hnd)
        have Htf := (show Hid _ from htf)
        clear hq hsq hnd htf
        have hne : (peekF t C.2 != 93) = false := by simp [h93]
        go_wp2_with fail
        refine (peek_any J.mm hs).mono ?_
        rintro e w5 ⟨rfl, n5, rfl⟩
        go_wp2_with fail
        refine (Hnd.out _ (J.mm.heap (w' := wr.drewN n5) rfl)).mono ?_
        rintro e w3 ⟨rfl, m3, f3⟩
        have b3 := (ByteL.mk (w := wr.drewN n5) J.by_.c J.by_.z).fr f3 (by simp; omega)
        have R3 := (Res.mk (W := wr.drewN n5) J.res.rr J.res.zr).fr f3 (by simp; omega)
        have F3 := (J.fr.drewN n5).trans (f3.mono (S' := [r, pb]) (by simp))
        go_wp2_with fail
        refine (Htf.out _ m3 b3).mono ?_
        rintro e w4 ⟨rfl, m4, f4⟩
        have R4 := R3.fr f4 (by simp; omega)
        have F4 := F3.trans f4
        have y0 : w4.cell? ⟨w.heap.size, 0, none⟩ = some (.bool false) := R4.rr 0
        have z0 := R4.zr 0
        have y1 : w4.cell? ⟨w.heap.size, 1, none⟩ = some (.int .u64 0) := R4.rr 1
        have z1 := R4.zr 1
        have y2 : w4.cell? ⟨w.heap.size, 2, none⟩ = some (.int .u64 0) := R4.rr 2
        have z2 := R4.zr 2
        have y3 : w4.cell? ⟨w.heap.size, 3, none⟩ = some (.bool false) := R4.rr 3
        have z3 := R4.zr 3
        have y4 : w4.cell? ⟨w.heap.size, 4, none⟩ = some (.int .u64 0) := R4.rr 4
        have z4 := R4.zr 4
        have y5 : w4.cell? ⟨w.heap.size, 5, none⟩ = some (.int .u64 0) := R4.rr 5
        have z5 := R4.zr 5
        have y6 : w4.cell? ⟨w.heap.size, 6, none⟩ = some (.bool false) := R4.rr 6
        have z6 := R4.zr 6
        have y7 : w4.cell? ⟨w.heap.size, 7, none⟩ = some (.int .u64 0) := R4.rr 7
        have z7 := R4.zr 7
        have y8 : w4.cell? ⟨w.heap.size, 8, none⟩ = some (.int .u64 0) := R4.rr 8
        have z8 := R4.zr 8
        have y9 : w4.cell? ⟨w.heap.size, 9, none⟩ = some (.bool false) := R4.rr 9
        have z9 := R4.zr 9
        have y10 : w4.cell? ⟨w.heap.size, 10, none⟩ = some (.int .u64 0) := R4.rr 10
        have z10 := R4.zr 10
        have y11 : w4.cell? ⟨w.heap.size, 11, none⟩ = some (.int .u64 0) := R4.rr 11
        have z11 := R4.zr 11
        unfold pv
        go_wp2
        have hfr := far_sets w4 w.heap.size (.bool (q 0).e) (.int .u64 (q 0).f) (.int .u64 (q 0).l) (.bool (q 1).e) (.int .u64 (q 1).f) (.int .u64 (q 1).l) (.bool (q 2).e) (.int .u64 (q 2).f) (.int .u64 (q 2).l) (.bool (q 3).e) (.int .u64 (q 3).f) (.int .u64 (q 3).l)
        refine bodyPost_ret (v := pv q) (by simp [results, Tryz.results240, go_sem, pv, y0, y1, y2, y3, y4, y5, y6, y7, y8, y9, y10, y11]) rfl ⟨by rw [Hq.out], ?_, ?_⟩
        · rw [Hs.out]; exact m4.fr hfr (by simp; omega) (by simp; omega) (by simp; omega)
        · exact F4.trans' hfr (by simp)
      · have hne : (peekF t s3 != 93) = true := by simp [h93]
        rw [if_neg (fun e => e.elim (fun e => by rw [hf] at e; cases e) h93)] at heq
        have nn := item_near (t := t) s3 P
        have gg := item_prog (t := t) s3 P
        have hit := fun (W : World) (hW : M W r pb t wh s3) (hB : ByteL W (w.heap.size + 1) P) => item_any (w.heap.size + 1) P hW hB (by omega) (by omega) (by omega) hs (by have := J.near.pos hps; omega)
        obtain ⟨P4, hq3⟩ : ∃ q, (itemF t s3 P).1 = q := ⟨_, rfl⟩
        obtain ⟨s4, hq4⟩ : ∃ q, (itemF t s3 P).2 = q := ⟨_, rfl⟩
        simp only [hq3, hq4] at hit nn gg heq
        have Hit := (show Hid _ from hit)
        have Heq := (show Hid _ from heq)
        clear hq3 hq4 hit heq
        go_wp2_with fail
        refine (peek_any J.mm hs).mono ?_
        rintro e w5 ⟨rfl, n5, rfl⟩
        go_wp2_with fail
        refine (Hit.out _ (J.mm.heap (w' := wr.drewN n5) rfl) (ByteL.mk (w := wr.drewN n5) J.by_.c J.by_.z)).mono ?_
        rintro e w6 ⟨rfl, m6, b6, f6⟩
        go_wp2
        go_roundg m'
        case measure => omega
        case rel => exact ⟨P4, s4, m6, b6, (Res.mk (W := wr.drewN n5) J.res.rr J.res.zr).fr f6 (by simp; omega), (J.fr.drewN n5).trans' f6 (by simp), Heq.out, J.near.trans nn, gg.imp id (fun g => by have := nn.pos (J.near.pos hps); omega)⟩
    · have heq := J.eq.out
      have heq2 : (P, s3) = C := by
        cases gk with
        | zero => exact heq
        | succ k => unfold classLF at heq; rw [if_pos (.inl hf)] at heq; exact heq
      clear heq
      obtain ⟨rfl, rfl⟩ : P = C.1 ∧ s3 = C.2 := by rw [← heq2]; exact ⟨rfl, rfl⟩
      clear heq2
      have nC := J.near
      have hnd := fun (W : World) (hW : M W r pb t wh C.2) => need_any 93 hW hs (by have := nC.pos hps; omega)
      have nN := nC.trans (need_near (t := t) C.2 93 (by decide))
      have hat : (needF t C.2 93).atoms < 50 := by rw [nN.atoms]; exact ha
      have htk : ∀ b, (needF t C.2 93).tk b < 18446744073709551616 := fun b => by
        rw [nN.tk]; exact Nat.lt_trans (hi.tk b) (Nat.lt_trans (Nat.pow_lt_pow_right (a := 2) (by decide) ha) (by decide))
      have htf := fun (W : World) (hW : M W r pb t wh (needF t C.2 93)) (hB : ByteL W (w.heap.size + 1) C.1) => takeOf_any (w.heap.size + 1) C.1 (!a1) hW hB (by omega) (by omega) hat htk
      obtain ⟨q, hq⟩ : ∃ q, (takeOfF (needF t C.2 93) (fun b => C.1 b == !a1)).1 = q := ⟨_, rfl⟩
      obtain ⟨sq, hsq⟩ : ∃ q, (takeOfF (needF t C.2 93) (fun b => C.1 b == !a1)).2 = q := ⟨_, rfl⟩
      simp only [hq, hsq] at htf
      have Hq : Hid (_ = q) := hq
      have Hs : Hid (_ = sq) := hsq
      have Hnd := (show Hid _ from hnd)
      have Htf := (show Hid _ from htf)
      clear hq hsq hnd htf
      have c2 : wr.cell? ⟨r, 2, none⟩ = some (.bool true) := by rw [← hf]; exact J.mm.rd.c2
      go_wp2_with fail
      refine (Hnd.out _ J.mm).mono ?_
      rintro e w3 ⟨rfl, m3, f3⟩
      have b3 := J.by_.fr f3 (by simp; omega)
      have R3 := J.res.fr f3 (by simp; omega)
      have F3 := J.fr.trans (f3.mono (S' := [r, pb]) (by simp))
      go_wp2_with fail
      refine (Htf.out _ m3 b3).mono ?_
      rintro e w4 ⟨rfl, m4, f4⟩
      have R4 := R3.fr f4 (by simp; omega)
      have F4 := F3.trans f4
      have y0 : w4.cell? ⟨w.heap.size, 0, none⟩ = some (.bool false) := R4.rr 0
      have z0 := R4.zr 0
      have y1 : w4.cell? ⟨w.heap.size, 1, none⟩ = some (.int .u64 0) := R4.rr 1
      have z1 := R4.zr 1
      have y2 : w4.cell? ⟨w.heap.size, 2, none⟩ = some (.int .u64 0) := R4.rr 2
      have z2 := R4.zr 2
      have y3 : w4.cell? ⟨w.heap.size, 3, none⟩ = some (.bool false) := R4.rr 3
      have z3 := R4.zr 3
      have y4 : w4.cell? ⟨w.heap.size, 4, none⟩ = some (.int .u64 0) := R4.rr 4
      have z4 := R4.zr 4
      have y5 : w4.cell? ⟨w.heap.size, 5, none⟩ = some (.int .u64 0) := R4.rr 5
      have z5 := R4.zr 5
      have y6 : w4.cell? ⟨w.heap.size, 6, none⟩ = some (.bool false) := R4.rr 6
      have z6 := R4.zr 6
      have y7 : w4.cell? ⟨w.heap.size, 7, none⟩ = some (.int .u64 0) := R4.rr 7
      have z7 := R4.zr 7
      have y8 : w4.cell? ⟨w.heap.size, 8, none⟩ = some (.int .u64 0) := R4.rr 8
      have z8 := R4.zr 8
      have y9 : w4.cell? ⟨w.heap.size, 9, none⟩ = some (.bool false) := R4.rr 9
      have z9 := R4.zr 9
      have y10 : w4.cell? ⟨w.heap.size, 10, none⟩ = some (.int .u64 0) := R4.rr 10
      have z10 := R4.zr 10
      have y11 : w4.cell? ⟨w.heap.size, 11, none⟩ = some (.int .u64 0) := R4.rr 11
      have z11 := R4.zr 11
      unfold pv
      go_wp2
      have hfr := far_sets w4 w.heap.size (.bool (q 0).e) (.int .u64 (q 0).f) (.int .u64 (q 0).l) (.bool (q 1).e) (.int .u64 (q 1).f) (.int .u64 (q 1).l) (.bool (q 2).e) (.int .u64 (q 2).f) (.int .u64 (q 2).l) (.bool (q 3).e) (.int .u64 (q 3).f) (.int .u64 (q 3).l)
      refine bodyPost_ret (v := pv q) (by simp [results, Tryz.results240, go_sem, pv, y0, y1, y2, y3, y4, y5, y6, y7, y8, y9, y10, y11]) rfl ⟨by rw [Hq.out], ?_, ?_⟩
      · rw [Hs.out]; exact m4.fr hfr (by simp; omega) (by simp; omega) (by simp; omega)
      · exact F4.trans' hfr (by simp)

end Go.Proofs.YtakbfoegkjaphaaGreatDoor

namespace Go.Proofs.YtakbfoegkjaphaaGreatDoor
open Go.RowKit

/-- What a part of the reader leaves. -/
def Post (w : World) (r pb : Nat) (t : ByteArray) (wh : Nat → Value) (x : Piece × St) : Ending → World → Prop := fun e w' => e = .returned (pv x.1) ∧ M w' r pb t wh x.2 ∧ Fr [r, pb] w w'

def SaidAlt (n : Nat) : Prop := ∀ (w : World) (r pb : Nat) (t : ByteArray) (wh : Nat → Value) (s : St), M w r pb t wh s → Inv t s → t.size ≤ 50 → 6 * (t.size - s.pos) + 6 ≤ n → Calls Tryz.prog 93 #[.pointer (some ⟨r, 0, none⟩)] w (Post w r pb t wh (altF t n s))
def SaidSeq (n : Nat) : Prop := ∀ (w : World) (r pb : Nat) (t : ByteArray) (wh : Nat → Value) (s : St), M w r pb t wh s → Inv t s → t.size ≤ 50 → 6 * (t.size - s.pos) + 4 ≤ n → Calls Tryz.prog 123 #[.pointer (some ⟨r, 0, none⟩)] w (Post w r pb t wh (seqF t n s))
def SaidPart (n : Nat) : Prop := ∀ (w : World) (r pb : Nat) (t : ByteArray) (wh : Nat → Value) (s : St), M w r pb t wh s → Inv t s → t.size ≤ 50 → peekF t s ≠ -1 → 6 * (t.size - s.pos) + 2 ≤ n → Calls Tryz.prog 186 #[.pointer (some ⟨r, 0, none⟩)] w (Post w r pb t wh (partF t n s))
def SaidAtom (n : Nat) : Prop := ∀ (w : World) (r pb : Nat) (t : ByteArray) (wh : Nat → Value) (s : St), M w r pb t wh s → Inv t s → t.size ≤ 50 → peekF t s ≠ -1 → 6 * (t.size - s.pos) + 1 ≤ n → Calls Tryz.prog 220 #[.pointer (some ⟨r, 0, none⟩)] w (Post w r pb t wh (atomF t n s))

theorem Inv.tk64 {t : ByteArray} {s : St} (h : Inv t s) (hs : t.size ≤ 50) (b : Nat) : s.tk b < 18446744073709551616 :=
  Nat.lt_of_lt_of_le (h.tk b) (Nat.le_trans (Nat.pow_le_pow_right (n := 2) (by decide) (show s.atoms ≤ 50 by have := h.at_; have := h.pos; omega)) (by decide))
theorem Inv.fo64 {t : ByteArray} {s : St} (h : Inv t s) (hs : t.size ≤ 50) (x a : Nat) : s.fo x a < 18446744073709551616 :=
  Nat.lt_of_lt_of_le (h.fo x a) (Nat.le_trans (Nat.pow_le_pow_right (n := 2) (by decide) (show s.atoms ≤ 50 by have := h.at_; have := h.pos; omega)) (by decide))
theorem PB.ok {n : Nat} {q : Piece} (h : PB n q) (hn : n ≤ 50) : q.ok := fun x =>
  ⟨Nat.lt_of_lt_of_le (h x).1 (Nat.le_trans (Nat.pow_le_pow_right (n := 2) (by decide) hn) (by decide)), Nat.lt_of_lt_of_le (h x).2 (Nat.le_trans (Nat.pow_le_pow_right (n := 2) (by decide) hn) (by decide))⟩
theorem PB.l50 {n : Nat} {q : Piece} (h : PB n q) (hn : n ≤ 50) (x : Nat) : (q x).l < 1125899906842624 :=
  Nat.lt_of_lt_of_le (h x).2 (Nat.le_trans (Nat.pow_le_pow_right (n := 2) (by decide) hn) (by decide))

theorem Res.drewN {b : Nat} {W : World} (h : Res b W) (n : Nat) : Res b (W.drewN n) := ⟨h.rr, h.zr⟩

section
variable {w : World} {r pb : Nat} {t : ByteArray} {wh : Nat → Value} {s : St}

set_option maxRecDepth 100000 in
set_option maxHeartbeats 2000000 in
theorem atom_group (n : Nat) (hA : SaidAlt n) (h : M w r pb t wh s) (hi : Inv t s) (hs : t.size ≤ 50) (hc : peekF t s = 40) (hn : 6 * (t.size - s.pos) + 1 ≤ n + 1) :
    Calls Tryz.prog 220 #[.pointer (some ⟨r, 0, none⟩)] w (Post w r pb t wh ((altF t n (advF s)).1, needF t (altF t n (advF s)).2 41)) := by
  have t6 := h.tab.lt
  have hp : peekF t s ≠ -1 := by rw [hc]; decide
  have hrl := h.rlt
  have hpl := h.pat.lt
  have hps := hi.pos
  have hat := hi.at_
  have hlt := (peek_ne hp).2
  have hadv := hi.adv hp
  have e40 : (peekF t s == 40) = true := by simp [hc]
  have gv := (givesAll t n).alt _ hadv
  have hpo := gv.inv.pos
  have hal := fun (W : World) (hW : M W r pb t wh (advF s)) => hA W r pb t wh (advF s) hW hadv hs (by simp [advF]; omega)
  unfold Post at hal ⊢
  obtain ⟨q, hq⟩ : ∃ q, (altF t n (advF s)).1 = q := ⟨_, rfl⟩
  obtain ⟨s1, hs1⟩ : ∃ q, (altF t n (advF s)).2 = q := ⟨_, rfl⟩
  simp only [hq, hs1] at hal hpo ⊢
  clear hq hs1 gv
  have hnd := fun (W : World) (hW : M W r pb t wh s1) => need_any 41 hW hs (by omega)
  obtain ⟨q', hq⟩ : ∃ q', q = q' := ⟨_, rfl⟩
  obtain ⟨sq, hsq⟩ : ∃ q, needF t s1 41 = q := ⟨_, rfl⟩
  simp only [hsq] at hnd
  have Hq : Hid (q = q) := rfl
  have Hs : Hid (_ = sq) := hsq
  have Hal := (show Hid _ from hal)
  have Hnd := (show Hid _ from hnd)
  clear hsq hal hnd hc hq q'
  go_enter Tryz.func220, Tryz.ntmps220
  go_wp2_with fail
  refine (peek_any (h.fr (((Fr.refl [] w).alloc (Obj.cells #[.bool false, .int .u64 0, .int .u64 0, .bool false, .int .u64 0, .int .u64 0, .bool false, .int .u64 0, .int .u64 0, .bool false, .int .u64 0, .int .u64 0] 174))) (by simp) (by simp) (by simp)) hs).mono ?_
  rintro e w1 ⟨rfl, n1, rfl⟩
  have m1 : M ((w.alloc (Obj.cells #[.bool false, .int .u64 0, .int .u64 0, .bool false, .int .u64 0, .int .u64 0, .bool false, .int .u64 0, .int .u64 0, .bool false, .int .u64 0, .int .u64 0] 174)).drewN n1) r pb t wh s := (h.fr (((Fr.refl [] w).alloc (Obj.cells #[.bool false, .int .u64 0, .int .u64 0, .bool false, .int .u64 0, .int .u64 0, .bool false, .int .u64 0, .int .u64 0, .bool false, .int .u64 0, .int .u64 0] 174))) (by simp) (by simp) (by simp)).heap rfl
  have R1 := (Res.new w).drewN n1
  have F1 : Fr [r, pb] w ((w.alloc (Obj.cells #[.bool false, .int .u64 0, .int .u64 0, .bool false, .int .u64 0, .int .u64 0, .bool false, .int .u64 0, .int .u64 0, .bool false, .int .u64 0, .int .u64 0] 174)).drewN n1) := ((Fr.refl _ w).alloc _).drewN n1
  generalize (w.alloc (Obj.cells #[.bool false, .int .u64 0, .int .u64 0, .bool false, .int .u64 0, .int .u64 0, .bool false, .int .u64 0, .int .u64 0, .bool false, .int .u64 0, .int .u64 0] 174)).drewN n1 = W1 at *
  have c1 := m1.rd.c1
  have z1 := m1.rd.f1
  have p1 : (s.pos : Int) ≤ 50 := by omega
  go_wp2_with fail
  have m2 := m1.adv
  have f2 : Fr [r] W1 (W1.setCell ⟨r, 1, none⟩ (.int .i64 ((s.pos : Int) + 1))) := (Fr.refl [r] W1).setCell (p := ⟨r, 1, none⟩) (.inl (by simp)) _
  have R2 := R1.fr f2 (by simp; omega)
  have F2 := F1.trans (f2.mono (S' := [r, pb]) (by simp))
  clear c1 z1 m1 R1 F1 f2
  refine (Hal.out _ m2).mono ?_
  clear m2
  rintro e w3 ⟨rfl, m3, f3⟩
  have R3 := R2.fr f3 (by simp; omega)
  have F3 := F2.trans f3
  clear R2 F2 f3
  have f4 : Fr [] w3 (w3.alloc (Obj.cells #[.bool (q 0).e, .int .u64 (q 0).f, .int .u64 (q 0).l, .bool (q 1).e, .int .u64 (q 1).f, .int .u64 (q 1).l, .bool (q 2).e, .int .u64 (q 2).f, .int .u64 (q 2).l, .bool (q 3).e, .int .u64 (q 3).f, .int .u64 (q 3).l] 174)) := (Fr.refl _ _).alloc _
  have m4 := m3.fr f4 (by simp) (by simp) (by simp)
  have R4 := R3.fr f4 (by simp)
  have F4 := F3.trans (f4.mono (S' := [r, pb]) (by simp))
  have O4 := rowIs_new w3 [.bool (q 0).e, .int .u64 (q 0).f, .int .u64 (q 0).l, .bool (q 1).e, .int .u64 (q 1).f, .int .u64 (q 1).l, .bool (q 2).e, .int .u64 (q 2).f, .int .u64 (q 2).l, .bool (q 3).e, .int .u64 (q 3).f, .int .u64 (q 3).l] 174
  have s3 := F3.size
  have R3lt := R3.lt
  have l4 : w3.heap.size < (w3.alloc (Obj.cells #[.bool (q 0).e, .int .u64 (q 0).f, .int .u64 (q 0).l, .bool (q 1).e, .int .u64 (q 1).f, .int .u64 (q 1).l, .bool (q 2).e, .int .u64 (q 2).f, .int .u64 (q 2).l, .bool (q 3).e, .int .u64 (q 3).f, .int .u64 (q 3).l] 174)).heap.size := by simp
  clear f4
  unfold pv
  go_wp2_with fail
  refine (Hnd.out _ m4).mono ?_
  rintro e w5 ⟨rfl, m5, f5⟩
  have R5 := R4.fr f5 (by simp; omega)
  have F5 := F4.trans (f5.mono (S' := [r, pb]) (by simp))
  have O5 := O4.fr f5 (by simp; omega) l4
  have x0 : w5.cell? ⟨w3.heap.size, 0, none⟩ = some (.bool (q 0).e) := O5 0
  have x1 : w5.cell? ⟨w3.heap.size, 1, none⟩ = some (.int .u64 (q 0).f) := O5 1
  have x2 : w5.cell? ⟨w3.heap.size, 2, none⟩ = some (.int .u64 (q 0).l) := O5 2
  have x3 : w5.cell? ⟨w3.heap.size, 3, none⟩ = some (.bool (q 1).e) := O5 3
  have x4 : w5.cell? ⟨w3.heap.size, 4, none⟩ = some (.int .u64 (q 1).f) := O5 4
  have x5 : w5.cell? ⟨w3.heap.size, 5, none⟩ = some (.int .u64 (q 1).l) := O5 5
  have x6 : w5.cell? ⟨w3.heap.size, 6, none⟩ = some (.bool (q 2).e) := O5 6
  have x7 : w5.cell? ⟨w3.heap.size, 7, none⟩ = some (.int .u64 (q 2).f) := O5 7
  have x8 : w5.cell? ⟨w3.heap.size, 8, none⟩ = some (.int .u64 (q 2).l) := O5 8
  have x9 : w5.cell? ⟨w3.heap.size, 9, none⟩ = some (.bool (q 3).e) := O5 9
  have x10 : w5.cell? ⟨w3.heap.size, 10, none⟩ = some (.int .u64 (q 3).f) := O5 10
  have x11 : w5.cell? ⟨w3.heap.size, 11, none⟩ = some (.int .u64 (q 3).l) := O5 11
  have y0 : w5.cell? ⟨w.heap.size, 0, none⟩ = some (.bool false) := R5.rr 0
  have z0 := R5.zr 0
  have y1 : w5.cell? ⟨w.heap.size, 1, none⟩ = some (.int .u64 0) := R5.rr 1
  have z1 := R5.zr 1
  have y2 : w5.cell? ⟨w.heap.size, 2, none⟩ = some (.int .u64 0) := R5.rr 2
  have z2 := R5.zr 2
  have y3 : w5.cell? ⟨w.heap.size, 3, none⟩ = some (.bool false) := R5.rr 3
  have z3 := R5.zr 3
  have y4 : w5.cell? ⟨w.heap.size, 4, none⟩ = some (.int .u64 0) := R5.rr 4
  have z4 := R5.zr 4
  have y5 : w5.cell? ⟨w.heap.size, 5, none⟩ = some (.int .u64 0) := R5.rr 5
  have z5 := R5.zr 5
  have y6 : w5.cell? ⟨w.heap.size, 6, none⟩ = some (.bool false) := R5.rr 6
  have z6 := R5.zr 6
  have y7 : w5.cell? ⟨w.heap.size, 7, none⟩ = some (.int .u64 0) := R5.rr 7
  have z7 := R5.zr 7
  have y8 : w5.cell? ⟨w.heap.size, 8, none⟩ = some (.int .u64 0) := R5.rr 8
  have z8 := R5.zr 8
  have y9 : w5.cell? ⟨w.heap.size, 9, none⟩ = some (.bool false) := R5.rr 9
  have z9 := R5.zr 9
  have y10 : w5.cell? ⟨w.heap.size, 10, none⟩ = some (.int .u64 0) := R5.rr 10
  have z10 := R5.zr 10
  have y11 : w5.cell? ⟨w.heap.size, 11, none⟩ = some (.int .u64 0) := R5.rr 11
  have z11 := R5.zr 11
  go_wp2
  have hfr := far_sets w5 w.heap.size (.bool (q 0).e) (.int .u64 (q 0).f) (.int .u64 (q 0).l) (.bool (q 1).e) (.int .u64 (q 1).f) (.int .u64 (q 1).l) (.bool (q 2).e) (.int .u64 (q 2).f) (.int .u64 (q 2).l) (.bool (q 3).e) (.int .u64 (q 3).f) (.int .u64 (q 3).l)
  refine bodyPost_ret (v := pv q) (by simp [results, Tryz.results220, go_sem, pv, y0, y1, y2, y3, y4, y5, y6, y7, y8, y9, y10, y11]) rfl ⟨rfl, ?_, ?_⟩
  · rw [Hs.out]; exact m5.fr hfr (by simp; omega) (by simp; omega) (by simp; omega)
  · exact F5.trans' hfr (by simp)

end
end Go.Proofs.YtakbfoegkjaphaaGreatDoor

