/-
  What each part of the reader leaves, by induction on its fuel.
-/
import Derived.Test.YticaoekmlaipnaaDoorM09
import Derived.Test.YticaoekmlaipnaaDoorM08
import Derived.Deep.LoopGhost
set_option linter.unusedSimpArgs false
set_option linter.unusedVariables false
namespace Go.Proofs.YticaoekmlaipnaaDoor

variable {t : ByteArray}

theorem Gives.trans {s s1 : St} {x : Piece × St} (h : Gives t s1 x) (hp : s.pos ≤ s1.pos) (ha : s.atoms ≤ s1.atoms) : Gives t s x := ⟨h.inv, h.pb, Nat.le_trans hp h.le, Nat.le_trans ha h.al⟩

theorem peek_tie (s : St) (f : Nat → Nat → Nat) : peekF t { s with fo := f } = peekF t s := rfl

structure GivesAll (t : ByteArray) (n : Nat) : Prop where
  alt : ∀ s, Inv t s → Gives t s (altF t n s)
  altL : ∀ q s, Inv t s → PB s.atoms q → Gives t s (altLF t n q s)
  seq : ∀ s, Inv t s → Gives t s (seqF t n s)
  seqL : ∀ q s, Inv t s → PB s.atoms q → Gives t s (seqLF t n q s)
  part : ∀ s, Inv t s → peekF t s ≠ -1 → Gives t s (partF t n s)
  partL : ∀ q s, Inv t s → PB s.atoms q → Gives t s (partLF t n q s)
  atom : ∀ s, Inv t s → peekF t s ≠ -1 → Gives t s (atomF t n s)

theorem givesAll (t : ByteArray) : ∀ n, GivesAll t n
  | 0 => ⟨fun s h => ⟨h, PB.nothing _, Nat.le_refl _, Nat.le_refl _⟩, fun _ s h hq => ⟨h, hq, Nat.le_refl _, Nat.le_refl _⟩, fun s h => ⟨h, PB.nothing _, Nat.le_refl _, Nat.le_refl _⟩, fun _ s h hq => ⟨h, hq, Nat.le_refl _, Nat.le_refl _⟩,
      fun s h _ => ⟨h, PB.nothing _, Nat.le_refl _, Nat.le_refl _⟩, fun _ s h hq => ⟨h, hq, Nat.le_refl _, Nat.le_refl _⟩, fun s h _ => ⟨h, PB.nothing _, Nat.le_refl _, Nat.le_refl _⟩⟩
  | n + 1 => by
    have ih := givesAll t n
    refine ⟨fun s h => ?_, fun q s h hq => ?_, fun s h => ?_, fun q s h hq => ?_, fun s h hp => ?_, fun q s h hq => ?_, fun s h hp => ?_⟩
    · rw [altF_s]
      have g := ih.seq s h
      exact (ih.altL _ _ g.inv g.pb).trans g.le g.al
    · rw [altLF_s]
      split
      · rename_i hc
        have ha := h.adv (by rw [hc]; decide)
        have g := ih.seq _ ha
        have g2 := ih.altL _ _ g.inv ((hq.mono g.al).either g.pb)
        exact g2.trans (Nat.le_trans (by simp [advF]) g.le) g.al
      · exact ⟨h, hq, Nat.le_refl _, Nat.le_refl _⟩
    · rw [seqF_s]
      exact ih.seqL _ _ h (PB.nothing _)
    · rw [seqLF_s]
      split
      · exact ⟨h, hq, Nat.le_refl _, Nat.le_refl _⟩
      · rename_i hc
        have g := ih.part s h (fun e => hc (.inl e))
        have g2 := ih.seqL (joinF q (partF t n s).1) { (partF t n s).2 with fo := tieP (partF t n s).2.fo q (partF t n s).1 } (g.inv.tie g.pb) ((hq.mono g.al).join g.pb)
        exact g2.trans g.le g.al
    · rw [partF_s]
      have g := ih.atom s h hp
      exact (ih.partL _ _ g.inv g.pb).trans g.le g.al
    · rw [partLF_s]
      split
      · rename_i hc
        have hi := h.tie (q := q) hq
        have ha := hi.adv (s := { s with fo := tieP s.fo q q }) (by rw [peek_tie, hc]; decide)
        exact (ih.partL _ _ ha (hq.either (PB.nothing _))).trans (by simp [advF]) (Nat.le_refl _)
      · split
        · rename_i _ hc
          have hi := h.tie (q := q) hq
          have ha := hi.adv (s := { s with fo := tieP s.fo q q }) (by rw [peek_tie, hc]; decide)
          exact (ih.partL _ _ ha hq).trans (by simp [advF]) (Nat.le_refl _)
        · split
          · rename_i _ _ hc
            have ha := h.adv (by rw [hc]; decide)
            exact (ih.partL _ _ ha (hq.either (PB.nothing _))).trans (by simp [advF]) (Nat.le_refl _)
          · exact ⟨h, hq, Nat.le_refl _, Nat.le_refl _⟩
    · rw [atomF_s]
      have ha := h.adv hp
      have hlt : (advF s).atoms < (advF s).pos := by have := h.at_; simp [advF]; omega
      split
      · have g := ih.alt _ ha
        have nn := need_near (t := t) (altF t n (advF s)).2 41 (by decide)
        refine ⟨nn.inv g.inv, ?_, Nat.le_trans (Nat.le_trans (by simp [advF]) g.le) nn.le, ?_⟩
        · rw [nn.atoms]; exact g.pb
        · rw [nn.atoms]; exact g.al
      · split
        · exact (class_gives n _ ha hlt).trans (by simp [advF]) (Nat.le_refl _)
        · split
          · exact take_gives s 0 255 ha hlt (by simp [advF]) (Nat.le_refl _)
          · split
            · exact ⟨ha, PB.anchor _ _, by simp [advF], Nat.le_refl _⟩
            · split
              · exact ⟨ha, PB.anchor _ _, by simp [advF], Nat.le_refl _⟩
              · obtain ⟨hn, hl⟩ := plain_near s hp
                exact take_gives s _ _ (hn.inv h) (by rw [hn.atoms]; have := h.at_; omega) hn.le (by rw [hn.atoms]; exact Nat.le_refl _)

theorem atom_prog {n : Nat} {s : St} (h : Inv t s) (hp : peekF t s ≠ -1) : s.pos < (atomF t (n + 1) s).2.pos := by
  have ha := h.adv hp
  have hlt : (advF s).atoms < (advF s).pos := by have := h.at_; simp [advF]; omega
  have e1 : s.pos < (advF s).pos := by simp [advF]
  rw [atomF_s]
  split
  · have g := (givesAll t n).alt _ ha
    have nn := need_near (t := t) (altF t n (advF s)).2 41 (by decide)
    exact Nat.lt_of_lt_of_le (Nat.lt_of_lt_of_le e1 g.le) nn.le
  · split
    · exact Nat.lt_of_lt_of_le e1 (class_gives n _ ha hlt).le
    · split
      · exact e1
      · split
        · exact e1
        · split
          · exact e1
          · exact (plain_near s hp).2

theorem part_prog {n : Nat} {s : St} (h : Inv t s) (hp : peekF t s ≠ -1) : s.pos < (partF t (n + 2) s).2.pos := by
  rw [partF_s]
  have g := (givesAll t (n + 1)).atom s h hp
  exact Nat.lt_of_lt_of_le (atom_prog h hp) ((givesAll t (n + 1)).partL _ _ g.inv g.pb).le

end Go.Proofs.YticaoekmlaipnaaDoor

namespace Go.Proofs.YticaoekmlaipnaaDoor
open Go.RowKit

/-- The place of the result: twelve cells as they were laid. -/
structure Res (b : Nat) (W : World) : Prop where
  rr : RowIs W b [.bool false, .int .u64 0, .int .u64 0, .bool false, .int .u64 0, .int .u64 0, .bool false, .int .u64 0, .int .u64 0, .bool false, .int .u64 0, .int .u64 0]
  zr : ∀ i, W.frozen? ⟨b, i, none⟩ = false
theorem Res.lt {b : Nat} {W : World} (h : Res b W) : b < W.heap.size := lt_of_cell (a := ⟨b, 0, none⟩) (h.rr 0)
theorem Res.fr {S : List Nat} {b : Nat} {W W' : World} (h : Res b W) (hf : Fr S W W') (hb : b ∉ S) : Res b W' := ⟨h.rr.fr hf hb h.lt, fun i => (hf.frozen (p := ⟨b, i, none⟩) h.lt hb).trans (h.zr i)⟩
theorem Res.new (W : World) : Res W.heap.size (W.alloc (Obj.cells #[.bool false, .int .u64 0, .int .u64 0, .bool false, .int .u64 0, .int .u64 0, .bool false, .int .u64 0, .int .u64 0, .bool false, .int .u64 0, .int .u64 0] 73)) := ⟨rowIs_new W _ 73, frozen_all_new W _ 73⟩

/-- What the rounds of a class keep. -/
structure ClI (w : World) (r pb : Nat) (t : ByteArray) (wh : Nat → Value) (s : St) (C : (Nat → Bool) × St) (m : Nat) (P : Nat → Bool) (s1 : St) (W : World) : Prop where
  mm : M W r pb t wh s1
  by_ : ByteL W (w.heap.size + 1) P
  res : Res w.heap.size W
  fr : Fr [r, pb] w W
  eq : Hid (classLF t m P s1 = C)
  near : Near t s s1
  fuel : s1.fault = true ∨ t.size - s1.pos < m

set_option maxRecDepth 100000 in
set_option maxHeartbeats 2000000 in
theorem class_any {w : World} {r pb : Nat} {t : ByteArray} {wh : Nat → Value} {s : St} (n : Nat) (h : M w r pb t wh s) (hi : Inv t s) (hs : t.size ≤ 50) (hn : t.size - s.pos < n) (ha : s.atoms < 50) :
    Calls Tryd.prog 101 #[.pointer (some ⟨r, 0, none⟩)] w fun e w' => e = .returned (pv (classF t n s).1) ∧ M w' r pb t wh (classF t n s).2 ∧ Fr [r, pb] w w' := by
  have hrl := h.rlt
  have hpl := h.pat.lt
  have hps := hi.pos
  unfold classF
  simp only
  have n1 := skip_near (t := t) s 94 (by decide)
  have hsk := fun (W : World) (hW : M W r pb t wh s) => skip_any 94 hW hs (by omega)
  obtain ⟨a1, hq1⟩ : ∃ q, (skipF t s 94).1 = q := ⟨_, rfl⟩
  obtain ⟨s1, hq2⟩ : ∃ q, (skipF t s 94).2 = q := ⟨_, rfl⟩
  simp only [hq1, hq2] at hsk n1 ⊢
  clear hq1 hq2
  have hp1 : s1.pos ≤ t.size := n1.pos hps
  have n2 := item_near (t := t) s1 (fun _ => false)
  have g2 := item_prog (t := t) s1 (fun _ => false)
  have hit := fun (W : World) (hW : M W r pb t wh s1) (hB : ByteL W (w.heap.size + 1) (fun _ => false)) => item_any (w.heap.size + 1) (fun _ => false) hW hB (by omega) (by omega) (by omega) hs (by omega)
  obtain ⟨P2, hq3⟩ : ∃ q, (itemF t s1 (fun _ => false)).1 = q := ⟨_, rfl⟩
  obtain ⟨s2, hq4⟩ : ∃ q, (itemF t s1 (fun _ => false)).2 = q := ⟨_, rfl⟩
  simp only [hq3, hq4] at hit n2 g2 ⊢
  clear hq3 hq4
  obtain ⟨C, hC⟩ : ∃ C, classLF t n P2 s2 = C := ⟨_, rfl⟩
  have n3 : Near t s2 C.2 := by rw [← hC]; exact classL_near n P2 s2
  rw [hC]
  have HC : Hid (classLF t n P2 s2 = C) := hC
  clear hC
  have Hsk := (show Hid _ from hsk)
  have Hit := (show Hid _ from hit)
  clear hsk hit
  have f0 : Fr [] w ((w.alloc (Obj.cells #[.bool false, .int .u64 0, .int .u64 0, .bool false, .int .u64 0, .int .u64 0, .bool false, .int .u64 0, .int .u64 0, .bool false, .int .u64 0, .int .u64 0] 73)).alloc (Obj.cells Tryd.zeroCells143 143)) := ((Fr.refl [] _).alloc _).alloc _
  have b0 := ByteL.new (w.alloc (Obj.cells #[.bool false, .int .u64 0, .int .u64 0, .bool false, .int .u64 0, .int .u64 0, .bool false, .int .u64 0, .int .u64 0, .bool false, .int .u64 0, .int .u64 0] 73))
  rw [World.size_alloc] at b0
  have R0 := (Res.new w).fr ((Fr.refl [] _).alloc (Obj.cells Tryd.zeroCells143 143)) (by simp)
  have m0 := h.fr f0 (by simp) (by simp) (by simp)
  go_enter Tryd.func101, Tryd.ntmps101
  go_wp2_with fail
  refine (Hsk.out _ m0).mono ?_
  rintro e w1 ⟨rfl, m1, f1⟩
  have b1 := b0.fr f1 (by simp; omega)
  have R1 := R0.fr f1 (by simp; omega)
  have F1 : Fr [r, pb] w w1 := (f0.mono (by simp)).trans (f1.mono (by simp))
  clear b0 R0 m0 f1 f0
  go_wp2_with fail
  refine (Hit.out _ m1 b1).mono ?_
  rintro e w2 ⟨rfl, m2, b2, f2⟩
  have R2 := R1.fr f2 (by simp; omega)
  have F2 : Fr [r, pb] w w2 := F1.trans' f2 (by simp)
  clear b1 R1 f2
  go_wp2
  go_loopg [10] n (fun m _ wr => ∃ P s1, ClI w r pb t wh s C m P s1 wr)
  case atStart => exact ⟨P2, s2, m2, b2, R2, F2, HC, n1.trans n2, g2.imp id (fun g => by have := n1.le; omega)⟩
  case round =>
    obtain ⟨P, s3, J⟩ := hrel
    cases hf : s3.fault
    · have c2 : wr.cell? ⟨r, 2, none⟩ = some (.bool false) := by rw [← hf]; exact J.mm.rd.c2
      have hfu : t.size - s3.pos < gk := J.fuel.elim (fun e => by rw [hf] at e; cases e) id
      obtain ⟨m', rfl⟩ : ∃ m', gk = m' + 1 := ⟨gk - 1, by omega⟩
      have heq := J.eq.out
      unfold classLF at heq
      by_cases h93 : peekF t s3 = 93
      · rw [if_pos (.inr h93)] at heq
        obtain ⟨rfl, rfl⟩ : P = C.1 ∧ s3 = C.2 := by rw [← heq]; exact ⟨rfl, rfl⟩
        clear heq
        have nC := J.near
        have hnd := fun (W : World) (hW : M W r pb t wh C.2) => need_any 93 hW hs (by have := nC.pos hps; omega)
        have nN := nC.trans (need_near (t := t) C.2 93 (by decide))
        have hat : (needF t C.2 93).atoms < 50 := by rw [nN.atoms]; exact ha
        have htk : ∀ b, (needF t C.2 93).tk b < 18446744073709551616 := fun b => by
          rw [nN.tk]; exact Nat.lt_trans (hi.tk b) (Nat.lt_trans (Nat.pow_lt_pow_right (a := 2) (by decide) ha) (by decide))
        have htf := fun (W : World) (hW : M W r pb t wh (needF t C.2 93)) (hB : ByteL W (w.heap.size + 1) C.1) => takeOf_any (w.heap.size + 1) C.1 (!a1) hW hB (by omega) (by omega) hat htk
        obtain ⟨q, hq⟩ : ∃ q, (takeOfF (needF t C.2 93) (fun b => C.1 b == !a1)).1 = q := ⟨_, rfl⟩
        obtain ⟨sq, hsq⟩ : ∃ q, (takeOfF (needF t C.2 93) (fun b => C.1 b == !a1)).2 = q := ⟨_, rfl⟩
        simp only [hq, hsq] at htf
        have Hq : Hid (_ = q) := hq
        have Hs : Hid (_ = sq) := hsq
        have Hnd := (show Hid _ from hnd)
        have Htf := (show Hid _ from htf)
        clear hq hsq hnd htf
        have hne : (peekF t C.2 != 93) = false := by simp [h93]
        go_wp2_with fail
        refine (peek_any J.mm hs).mono ?_
        rintro e w5 ⟨rfl, n5, rfl⟩
        go_wp2_with fail
        refine (Hnd.out _ (J.mm.heap (w' := wr.drewN n5) rfl)).mono ?_
        rintro e w3 ⟨rfl, m3, f3⟩
        have b3 := (ByteL.mk (w := wr.drewN n5) J.by_.c J.by_.z).fr f3 (by simp; omega)
        have R3 := (Res.mk (W := wr.drewN n5) J.res.rr J.res.zr).fr f3 (by simp; omega)
        have F3 := (J.fr.drewN n5).trans (f3.mono (S' := [r, pb]) (by simp))
        go_wp2_with fail
        refine (Htf.out _ m3 b3).mono ?_
        rintro e w4 ⟨rfl, m4, f4⟩
        have R4 := R3.fr f4 (by simp; omega)
        have F4 := F3.trans f4
        have y0 : w4.cell? ⟨w.heap.size, 0, none⟩ = some (.bool false) := R4.rr 0
        have z0 := R4.zr 0
        have y1 : w4.cell? ⟨w.heap.size, 1, none⟩ = some (.int .u64 0) := R4.rr 1
        have z1 := R4.zr 1
        have y2 : w4.cell? ⟨w.heap.size, 2, none⟩ = some (.int .u64 0) := R4.rr 2
        have z2 := R4.zr 2
        have y3 : w4.cell? ⟨w.heap.size, 3, none⟩ = some (.bool false) := R4.rr 3
        have z3 := R4.zr 3
        have y4 : w4.cell? ⟨w.heap.size, 4, none⟩ = some (.int .u64 0) := R4.rr 4
        have z4 := R4.zr 4
        have y5 : w4.cell? ⟨w.heap.size, 5, none⟩ = some (.int .u64 0) := R4.rr 5
        have z5 := R4.zr 5
        have y6 : w4.cell? ⟨w.heap.size, 6, none⟩ = some (.bool false) := R4.rr 6
        have z6 := R4.zr 6
        have y7 : w4.cell? ⟨w.heap.size, 7, none⟩ = some (.int .u64 0) := R4.rr 7
        have z7 := R4.zr 7
        have y8 : w4.cell? ⟨w.heap.size, 8, none⟩ = some (.int .u64 0) := R4.rr 8
        have z8 := R4.zr 8
        have y9 : w4.cell? ⟨w.heap.size, 9, none⟩ = some (.bool false) := R4.rr 9
        have z9 := R4.zr 9
        have y10 : w4.cell? ⟨w.heap.size, 10, none⟩ = some (.int .u64 0) := R4.rr 10
        have z10 := R4.zr 10
        have y11 : w4.cell? ⟨w.heap.size, 11, none⟩ = some (.int .u64 0) := R4.rr 11
        have z11 := R4.zr 11
        unfold pv
        go_wp2
        have hfr := far_sets w4 w.heap.size (.bool (q 0).e) (.int .u64 (q 0).f) (.int .u64 (q 0).l) (.bool (q 1).e) (.int .u64 (q 1).f) (.int .u64 (q 1).l) (.bool (q 2).e) (.int .u64 (q 2).f) (.int .u64 (q 2).l) (.bool (q 3).e) (.int .u64 (q 3).f) (.int .u64 (q 3).l)
        refine bodyPost_ret (v := pv q) (by simp [results, Tryd.results101, go_sem, pv, y0, y1, y2, y3, y4, y5, y6, y7, y8, y9, y10, y11]) rfl ⟨by rw [Hq.out], ?_, ?_⟩
        · rw [Hs.out]; exact m4.fr hfr (by simp; omega) (by simp; omega) (by simp; omega)
        · exact F4.trans' hfr (by simp)
      · have hne : (peekF t s3 != 93) = true := by simp [h93]
        rw [if_neg (fun e => e.elim (fun e => by rw [hf] at e; cases e) h93)] at heq
        have nn := item_near (t := t) s3 P
        have gg := item_prog (t := t) s3 P
        have hit := fun (W : World) (hW : M W r pb t wh s3) (hB : ByteL W (w.heap.size + 1) P) => item_any (w.heap.size + 1) P hW hB (by omega) (by omega) (by omega) hs (by have := J.near.pos hps; omega)
        obtain ⟨P4, hq3⟩ : ∃ q, (itemF t s3 P).1 = q := ⟨_, rfl⟩
        obtain ⟨s4, hq4⟩ : ∃ q, (itemF t s3 P).2 = q := ⟨_, rfl⟩
        simp only [hq3, hq4] at hit nn gg heq
        have Hit := (show Hid _ from hit)
        have Heq := (show Hid _ from heq)
        clear hq3 hq4 hit heq
        go_wp2_with fail
        refine (peek_any J.mm hs).mono ?_
        rintro e w5 ⟨rfl, n5, rfl⟩
        go_wp2_with fail
        refine (Hit.out _ (J.mm.heap (w' := wr.drewN n5) rfl) (ByteL.mk (w := wr.drewN n5) J.by_.c J.by_.z)).mono ?_
        rintro e w6 ⟨rfl, m6, b6, f6⟩
        go_wp2
        go_roundg m'
        case measure => omega
        case rel => exact ⟨P4, s4, m6, b6, (Res.mk (W := wr.drewN n5) J.res.rr J.res.zr).fr f6 (by simp; omega), (J.fr.drewN n5).trans' f6 (by simp), Heq.out, J.near.trans nn, gg.imp id (fun g => by have := nn.pos (J.near.pos hps); omega)⟩
    · have heq := J.eq.out
      have heq2 : (P, s3) = C := by
        cases gk with
        | zero => exact heq
        | succ k => unfold classLF at heq; rw [if_pos (.inl hf)] at heq; exact heq
      clear heq
      obtain ⟨rfl, rfl⟩ : P = C.1 ∧ s3 = C.2 := by rw [← heq2]; exact ⟨rfl, rfl⟩
      clear heq2
      have nC := J.near
      have hnd := fun (W : World) (hW : M W r pb t wh C.2) => need_any 93 hW hs (by have := nC.pos hps; omega)
      have nN := nC.trans (need_near (t := t) C.2 93 (by decide))
      have hat : (needF t C.2 93).atoms < 50 := by rw [nN.atoms]; exact ha
      have htk : ∀ b, (needF t C.2 93).tk b < 18446744073709551616 := fun b => by
        rw [nN.tk]; exact Nat.lt_trans (hi.tk b) (Nat.lt_trans (Nat.pow_lt_pow_right (a := 2) (by decide) ha) (by decide))
      have htf := fun (W : World) (hW : M W r pb t wh (needF t C.2 93)) (hB : ByteL W (w.heap.size + 1) C.1) => takeOf_any (w.heap.size + 1) C.1 (!a1) hW hB (by omega) (by omega) hat htk
      obtain ⟨q, hq⟩ : ∃ q, (takeOfF (needF t C.2 93) (fun b => C.1 b == !a1)).1 = q := ⟨_, rfl⟩
      obtain ⟨sq, hsq⟩ : ∃ q, (takeOfF (needF t C.2 93) (fun b => C.1 b == !a1)).2 = q := ⟨_, rfl⟩
      simp only [hq, hsq] at htf
      have Hq : Hid (_ = q) := hq
      have Hs : Hid (_ = sq) := hsq
      have Hnd := (show Hid _ from hnd)
      have Htf := (show Hid _ from htf)
      clear hq hsq hnd htf
      have c2 : wr.cell? ⟨r, 2, none⟩ = some (.bool true) := by rw [← hf]; exact J.mm.rd.c2
      go_wp2_with fail
      refine (Hnd.out _ J.mm).mono ?_
      rintro e w3 ⟨rfl, m3, f3⟩
      have b3 := J.by_.fr f3 (by simp; omega)
      have R3 := J.res.fr f3 (by simp; omega)
      have F3 := J.fr.trans (f3.mono (S' := [r, pb]) (by simp))
      go_wp2_with fail
      refine (Htf.out _ m3 b3).mono ?_
      rintro e w4 ⟨rfl, m4, f4⟩
      have R4 := R3.fr f4 (by simp; omega)
      have F4 := F3.trans f4
      have y0 : w4.cell? ⟨w.heap.size, 0, none⟩ = some (.bool false) := R4.rr 0
      have z0 := R4.zr 0
      have y1 : w4.cell? ⟨w.heap.size, 1, none⟩ = some (.int .u64 0) := R4.rr 1
      have z1 := R4.zr 1
      have y2 : w4.cell? ⟨w.heap.size, 2, none⟩ = some (.int .u64 0) := R4.rr 2
      have z2 := R4.zr 2
      have y3 : w4.cell? ⟨w.heap.size, 3, none⟩ = some (.bool false) := R4.rr 3
      have z3 := R4.zr 3
      have y4 : w4.cell? ⟨w.heap.size, 4, none⟩ = some (.int .u64 0) := R4.rr 4
      have z4 := R4.zr 4
      have y5 : w4.cell? ⟨w.heap.size, 5, none⟩ = some (.int .u64 0) := R4.rr 5
      have z5 := R4.zr 5
      have y6 : w4.cell? ⟨w.heap.size, 6, none⟩ = some (.bool false) := R4.rr 6
      have z6 := R4.zr 6
      have y7 : w4.cell? ⟨w.heap.size, 7, none⟩ = some (.int .u64 0) := R4.rr 7
      have z7 := R4.zr 7
      have y8 : w4.cell? ⟨w.heap.size, 8, none⟩ = some (.int .u64 0) := R4.rr 8
      have z8 := R4.zr 8
      have y9 : w4.cell? ⟨w.heap.size, 9, none⟩ = some (.bool false) := R4.rr 9
      have z9 := R4.zr 9
      have y10 : w4.cell? ⟨w.heap.size, 10, none⟩ = some (.int .u64 0) := R4.rr 10
      have z10 := R4.zr 10
      have y11 : w4.cell? ⟨w.heap.size, 11, none⟩ = some (.int .u64 0) := R4.rr 11
      have z11 := R4.zr 11
      unfold pv
      go_wp2
      have hfr := far_sets w4 w.heap.size (.bool (q 0).e) (.int .u64 (q 0).f) (.int .u64 (q 0).l) (.bool (q 1).e) (.int .u64 (q 1).f) (.int .u64 (q 1).l) (.bool (q 2).e) (.int .u64 (q 2).f) (.int .u64 (q 2).l) (.bool (q 3).e) (.int .u64 (q 3).f) (.int .u64 (q 3).l)
      refine bodyPost_ret (v := pv q) (by simp [results, Tryd.results101, go_sem, pv, y0, y1, y2, y3, y4, y5, y6, y7, y8, y9, y10, y11]) rfl ⟨by rw [Hq.out], ?_, ?_⟩
      · rw [Hs.out]; exact m4.fr hfr (by simp; omega) (by simp; omega) (by simp; omega)
      · exact F4.trans' hfr (by simp)

end Go.Proofs.YticaoekmlaipnaaDoor

namespace Go.Proofs.YticaoekmlaipnaaDoor
open Go.RowKit

def Piece.ok (q : Piece) : Prop := ∀ s, (q s).ok

/-- The cells of the result, k spots done. -/
def mixL (a b : Piece) : Nat → List Value
  | 0 => [.bool (a 0).e, .int .u64 (a 0).f, .int .u64 (a 0).l, .bool (a 1).e, .int .u64 (a 1).f, .int .u64 (a 1).l, .bool (a 2).e, .int .u64 (a 2).f, .int .u64 (a 2).l, .bool (a 3).e, .int .u64 (a 3).f, .int .u64 (a 3).l]
  | 1 => [.bool ((a 0).e || (b 0).e), .int .u64 ((a 0).f ||| (b 0).f : Nat), .int .u64 ((a 0).l ||| (b 0).l : Nat), .bool (a 1).e, .int .u64 (a 1).f, .int .u64 (a 1).l, .bool (a 2).e, .int .u64 (a 2).f, .int .u64 (a 2).l, .bool (a 3).e, .int .u64 (a 3).f, .int .u64 (a 3).l]
  | 2 => [.bool ((a 0).e || (b 0).e), .int .u64 ((a 0).f ||| (b 0).f : Nat), .int .u64 ((a 0).l ||| (b 0).l : Nat), .bool ((a 1).e || (b 1).e), .int .u64 ((a 1).f ||| (b 1).f : Nat), .int .u64 ((a 1).l ||| (b 1).l : Nat), .bool (a 2).e, .int .u64 (a 2).f, .int .u64 (a 2).l, .bool (a 3).e, .int .u64 (a 3).f, .int .u64 (a 3).l]
  | 3 => [.bool ((a 0).e || (b 0).e), .int .u64 ((a 0).f ||| (b 0).f : Nat), .int .u64 ((a 0).l ||| (b 0).l : Nat), .bool ((a 1).e || (b 1).e), .int .u64 ((a 1).f ||| (b 1).f : Nat), .int .u64 ((a 1).l ||| (b 1).l : Nat), .bool ((a 2).e || (b 2).e), .int .u64 ((a 2).f ||| (b 2).f : Nat), .int .u64 ((a 2).l ||| (b 2).l : Nat), .bool (a 3).e, .int .u64 (a 3).f, .int .u64 (a 3).l]
  | _ => [.bool ((a 0).e || (b 0).e), .int .u64 ((a 0).f ||| (b 0).f : Nat), .int .u64 ((a 0).l ||| (b 0).l : Nat), .bool ((a 1).e || (b 1).e), .int .u64 ((a 1).f ||| (b 1).f : Nat), .int .u64 ((a 1).l ||| (b 1).l : Nat), .bool ((a 2).e || (b 2).e), .int .u64 ((a 2).f ||| (b 2).f : Nat), .int .u64 ((a 2).l ||| (b 2).l : Nat), .bool ((a 3).e || (b 3).e), .int .u64 ((a 3).f ||| (b 3).f : Nat), .int .u64 ((a 3).l ||| (b 3).l : Nat)]

structure EithI (w : World) (a b : Piece) (o : List Value) (W : World) : Prop where
  fr : Fr [] w W
  sz : w.heap.size + 1 + 1 + 1 ≤ W.heap.size
  ro : RowIs W w.heap.size o
  rb : RowIs W (w.heap.size + 1) [.bool (b 0).e, .int .u64 (b 0).f, .int .u64 (b 0).l, .bool (b 1).e, .int .u64 (b 1).f, .int .u64 (b 1).l, .bool (b 2).e, .int .u64 (b 2).f, .int .u64 (b 2).l, .bool (b 3).e, .int .u64 (b 3).f, .int .u64 (b 3).l]
  rr : RowIs W (w.heap.size + 1 + 1) [.bool false, .int .u64 0, .int .u64 0, .bool false, .int .u64 0, .int .u64 0, .bool false, .int .u64 0, .int .u64 0, .bool false, .int .u64 0, .int .u64 0]
  zo : ∀ i, W.frozen? ⟨w.heap.size, i, none⟩ = false
  zr : ∀ i, W.frozen? ⟨w.heap.size + 1 + 1, i, none⟩ = false

theorem EithI.drew {w : World} {a b : Piece} {o : List Value} {W : World} (h : EithI w a b o W) : EithI w a b o W.drew := ⟨h.fr.drew, h.sz, h.ro, h.rb, h.rr, h.zo, h.zr⟩

theorem EithI.set {w : World} {a b : Piece} {o : List Value} {W : World} (h : EithI w a b o W) (k : Nat) (hk : k < o.length) (v : Value) :
    EithI w a b (o.set k v) (W.setCell ⟨w.heap.size, k, none⟩ v) :=
  ⟨h.fr.setCell (p := ⟨w.heap.size, k, none⟩) (.inr (by simp)) _, by simpa [World.setCell] using h.sz, h.ro.set k hk v, fun i => (setCell_far (by omega)).trans (h.rb i), fun i => (setCell_far (by omega)).trans (h.rr i),
    fun i => (World.frozen?_setCell _ _ _ _).trans (h.zo i), fun i => (World.frozen?_setCell _ _ _ _).trans (h.zr i)⟩

set_option maxRecDepth 100000 in
set_option maxHeartbeats 4000000 in
theorem either_any (a b : Piece) (ha : a.ok) (hb : b.ok) (w : World) : Calls Tryd.prog 54 #[pv a, pv b] w fun e w' => e = .returned (pv (eitherF a b)) ∧ Fr [] w w' := by
  have hm : Tryd.prog.follows Departure.mixedOrders = true := by kernel_rfl
  have o0 := bits_or_u64_nat (a 0).f (b 0).f (ha 0).1 (hb 0).1
  have o1 := bits_or_u64_nat (a 0).l (b 0).l (ha 0).2 (hb 0).2
  have o2 := bits_or_u64_nat (a 1).f (b 1).f (ha 1).1 (hb 1).1
  have o3 := bits_or_u64_nat (a 1).l (b 1).l (ha 1).2 (hb 1).2
  have o4 := bits_or_u64_nat (a 2).f (b 2).f (ha 2).1 (hb 2).1
  have o5 := bits_or_u64_nat (a 2).l (b 2).l (ha 2).2 (hb 2).2
  have o6 := bits_or_u64_nat (a 3).f (b 3).f (ha 3).1 (hb 3).1
  have o7 := bits_or_u64_nat (a 3).l (b 3).l (ha 3).2 (hb 3).2
  obtain ⟨W0, hW0⟩ : ∃ W0, ((w.alloc (Obj.cells #[.bool (a 0).e, .int .u64 (a 0).f, .int .u64 (a 0).l, .bool (a 1).e, .int .u64 (a 1).f, .int .u64 (a 1).l, .bool (a 2).e, .int .u64 (a 2).f, .int .u64 (a 2).l, .bool (a 3).e, .int .u64 (a 3).f, .int .u64 (a 3).l] 73)).alloc (Obj.cells #[.bool (b 0).e, .int .u64 (b 0).f, .int .u64 (b 0).l, .bool (b 1).e, .int .u64 (b 1).f, .int .u64 (b 1).l, .bool (b 2).e, .int .u64 (b 2).f, .int .u64 (b 2).l, .bool (b 3).e, .int .u64 (b 3).f, .int .u64 (b 3).l] 73)).alloc (Obj.cells #[.bool false, .int .u64 0, .int .u64 0, .bool false, .int .u64 0, .int .u64 0, .bool false, .int .u64 0, .int .u64 0, .bool false, .int .u64 0, .int .u64 0] 73) = W0 := ⟨_, rfl⟩
  have J0 : EithI w a b (mixL a b 0) W0 := by
    rw [← hW0]
    refine ⟨(((Fr.refl [] _).alloc _).alloc _).alloc _, by simp, ?_, ?_, ?_, ?_, ?_⟩
    · exact ((rowIs_new w [.bool (a 0).e, .int .u64 (a 0).f, .int .u64 (a 0).l, .bool (a 1).e, .int .u64 (a 1).f, .int .u64 (a 1).l, .bool (a 2).e, .int .u64 (a 2).f, .int .u64 (a 2).l, .bool (a 3).e, .int .u64 (a 3).f, .int .u64 (a 3).l] 73).fr (((Fr.refl [] _).alloc _).alloc _) (by simp) (by simp))
    · have := (rowIs_new (w.alloc (Obj.cells #[.bool (a 0).e, .int .u64 (a 0).f, .int .u64 (a 0).l, .bool (a 1).e, .int .u64 (a 1).f, .int .u64 (a 1).l, .bool (a 2).e, .int .u64 (a 2).f, .int .u64 (a 2).l, .bool (a 3).e, .int .u64 (a 3).f, .int .u64 (a 3).l] 73)) [.bool (b 0).e, .int .u64 (b 0).f, .int .u64 (b 0).l, .bool (b 1).e, .int .u64 (b 1).f, .int .u64 (b 1).l, .bool (b 2).e, .int .u64 (b 2).f, .int .u64 (b 2).l, .bool (b 3).e, .int .u64 (b 3).f, .int .u64 (b 3).l] 73).fr ((Fr.refl [] _).alloc (Obj.cells #[.bool false, .int .u64 0, .int .u64 0, .bool false, .int .u64 0, .int .u64 0, .bool false, .int .u64 0, .int .u64 0, .bool false, .int .u64 0, .int .u64 0] 73)) (by simp) (by simp)
      rwa [World.size_alloc] at this
    · have := (rowIs_new ((w.alloc (Obj.cells #[.bool (a 0).e, .int .u64 (a 0).f, .int .u64 (a 0).l, .bool (a 1).e, .int .u64 (a 1).f, .int .u64 (a 1).l, .bool (a 2).e, .int .u64 (a 2).f, .int .u64 (a 2).l, .bool (a 3).e, .int .u64 (a 3).f, .int .u64 (a 3).l] 73)).alloc (Obj.cells #[.bool (b 0).e, .int .u64 (b 0).f, .int .u64 (b 0).l, .bool (b 1).e, .int .u64 (b 1).f, .int .u64 (b 1).l, .bool (b 2).e, .int .u64 (b 2).f, .int .u64 (b 2).l, .bool (b 3).e, .int .u64 (b 3).f, .int .u64 (b 3).l] 73)) [.bool false, .int .u64 0, .int .u64 0, .bool false, .int .u64 0, .int .u64 0, .bool false, .int .u64 0, .int .u64 0, .bool false, .int .u64 0, .int .u64 0] 73)
      rwa [World.size_alloc, World.size_alloc] at this
    · intro i
      have := frozen_all_new w [.bool (a 0).e, .int .u64 (a 0).f, .int .u64 (a 0).l, .bool (a 1).e, .int .u64 (a 1).f, .int .u64 (a 1).l, .bool (a 2).e, .int .u64 (a 2).f, .int .u64 (a 2).l, .bool (a 3).e, .int .u64 (a 3).f, .int .u64 (a 3).l] 73 i
      exact (World.frozen?_alloc_past _ _ _ (by simp; omega)).trans ((World.frozen?_alloc_past _ _ _ (by simp)).trans this)
    · intro i
      have := frozen_all_new ((w.alloc (Obj.cells #[.bool (a 0).e, .int .u64 (a 0).f, .int .u64 (a 0).l, .bool (a 1).e, .int .u64 (a 1).f, .int .u64 (a 1).l, .bool (a 2).e, .int .u64 (a 2).f, .int .u64 (a 2).l, .bool (a 3).e, .int .u64 (a 3).f, .int .u64 (a 3).l] 73)).alloc (Obj.cells #[.bool (b 0).e, .int .u64 (b 0).f, .int .u64 (b 0).l, .bool (b 1).e, .int .u64 (b 1).f, .int .u64 (b 1).l, .bool (b 2).e, .int .u64 (b 2).f, .int .u64 (b 2).l, .bool (b 3).e, .int .u64 (b 3).f, .int .u64 (b 3).l] 73)) [.bool false, .int .u64 0, .int .u64 0, .bool false, .int .u64 0, .int .u64 0, .bool false, .int .u64 0, .int .u64 0, .bool false, .int .u64 0, .int .u64 0] 73 i
      rwa [World.size_alloc, World.size_alloc] at this
  unfold pv
  go_enter Tryd.func54, Tryd.ntmps54
  go_wp2
  clear hW0
  go_loopw [5, 6] (fun _ i wr => ∃ k : Nat, k ≤ 4 ∧ i = .int .i64 k ∧ EithI w a b (mixL a b k) wr) (fun _ i _ => 4 - (intOf i).toNat)
  case atStart => exact ⟨0, by decide, rfl, J0⟩
  case round =>
    obtain ⟨k, hk, rfl, J⟩ := hrel
    obtain rfl | rfl | rfl | rfl | rfl : k = 0 ∨ k = 1 ∨ k = 2 ∨ k = 3 ∨ k = 4 := by omega
    · have c0 : wr.cell? ⟨w.heap.size, 0, none⟩ = some (.bool (a 0).e) := J.ro 0
      have c1 : wr.cell? ⟨w.heap.size, 1, none⟩ = some (.int .u64 (a 0).f) := J.ro 1
      have c2 : wr.cell? ⟨w.heap.size, 2, none⟩ = some (.int .u64 (a 0).l) := J.ro 2
      have c3 : wr.cell? ⟨w.heap.size + 1, 0, none⟩ = some (.bool (b 0).e) := J.rb 0
      have c4 : wr.cell? ⟨w.heap.size + 1, 1, none⟩ = some (.int .u64 (b 0).f) := J.rb 1
      have c5 : wr.cell? ⟨w.heap.size + 1, 2, none⟩ = some (.int .u64 (b 0).l) := J.rb 2
      have z0 := J.zo 0
      have z1 := J.zo 1
      have z2 := J.zo 2
      have hset : ∀ x : Bool, x = ((a 0).e || (b 0).e) → (((mixL a b 0).set 0 (.bool x)).set 1 (.int .u64 ((a 0).f ||| (b 0).f : Nat))).set 2 (.int .u64 ((a 0).l ||| (b 0).l : Nat)) = mixL a b 1 := by
        rintro x rfl; rfl
      cases he : (a 0).e
      all_goals
        rw [he] at c0
        go_wp2
        refine wp_region_tail 11 hm (by kernel_rfl) ?_
        simp only [List.take_succ_cons, List.take_zero, List.drop_succ_cons, List.drop_zero]
        repeat still_step
        refine wpStill_nil ?_
        go_wp2
        refine wp_region_tail 11 hm (by kernel_rfl) ?_
        simp only [List.take_succ_cons, List.take_zero, List.drop_succ_cons, List.drop_zero]
        repeat still_step
        refine wpStill_nil ?_
        go_wp2
        refine ⟨⟨1, by decide, rfl, ?_⟩, by decide⟩
        have JJ := fun (x : Bool) (hx : x = ((a 0).e || (b 0).e)) => (hset x hx) ▸ (((J.set 0 (by simp [mixL]) (.bool x)).set 1 (by simp [mixL]) (.int .u64 ((a 0).f ||| (b 0).f : Nat))).set 2 (by simp [mixL]) (.int .u64 ((a 0).l ||| (b 0).l : Nat))).drew.drew
        exact JJ _ (by rw [he]; rfl)
    · have c0 : wr.cell? ⟨w.heap.size, 3, none⟩ = some (.bool (a 1).e) := J.ro 3
      have c1 : wr.cell? ⟨w.heap.size, 4, none⟩ = some (.int .u64 (a 1).f) := J.ro 4
      have c2 : wr.cell? ⟨w.heap.size, 5, none⟩ = some (.int .u64 (a 1).l) := J.ro 5
      have c3 : wr.cell? ⟨w.heap.size + 1, 3, none⟩ = some (.bool (b 1).e) := J.rb 3
      have c4 : wr.cell? ⟨w.heap.size + 1, 4, none⟩ = some (.int .u64 (b 1).f) := J.rb 4
      have c5 : wr.cell? ⟨w.heap.size + 1, 5, none⟩ = some (.int .u64 (b 1).l) := J.rb 5
      have z0 := J.zo 3
      have z1 := J.zo 4
      have z2 := J.zo 5
      have hset : ∀ x : Bool, x = ((a 1).e || (b 1).e) → (((mixL a b 1).set 3 (.bool x)).set 4 (.int .u64 ((a 1).f ||| (b 1).f : Nat))).set 5 (.int .u64 ((a 1).l ||| (b 1).l : Nat)) = mixL a b 2 := by
        rintro x rfl; rfl
      cases he : (a 1).e
      all_goals
        rw [he] at c0
        go_wp2
        refine wp_region_tail 11 hm (by kernel_rfl) ?_
        simp only [List.take_succ_cons, List.take_zero, List.drop_succ_cons, List.drop_zero]
        repeat still_step
        refine wpStill_nil ?_
        go_wp2
        refine wp_region_tail 11 hm (by kernel_rfl) ?_
        simp only [List.take_succ_cons, List.take_zero, List.drop_succ_cons, List.drop_zero]
        repeat still_step
        refine wpStill_nil ?_
        go_wp2
        refine ⟨⟨2, by decide, rfl, ?_⟩, by decide⟩
        have JJ := fun (x : Bool) (hx : x = ((a 1).e || (b 1).e)) => (hset x hx) ▸ (((J.set 3 (by simp [mixL]) (.bool x)).set 4 (by simp [mixL]) (.int .u64 ((a 1).f ||| (b 1).f : Nat))).set 5 (by simp [mixL]) (.int .u64 ((a 1).l ||| (b 1).l : Nat))).drew.drew
        exact JJ _ (by rw [he]; rfl)
    · have c0 : wr.cell? ⟨w.heap.size, 6, none⟩ = some (.bool (a 2).e) := J.ro 6
      have c1 : wr.cell? ⟨w.heap.size, 7, none⟩ = some (.int .u64 (a 2).f) := J.ro 7
      have c2 : wr.cell? ⟨w.heap.size, 8, none⟩ = some (.int .u64 (a 2).l) := J.ro 8
      have c3 : wr.cell? ⟨w.heap.size + 1, 6, none⟩ = some (.bool (b 2).e) := J.rb 6
      have c4 : wr.cell? ⟨w.heap.size + 1, 7, none⟩ = some (.int .u64 (b 2).f) := J.rb 7
      have c5 : wr.cell? ⟨w.heap.size + 1, 8, none⟩ = some (.int .u64 (b 2).l) := J.rb 8
      have z0 := J.zo 6
      have z1 := J.zo 7
      have z2 := J.zo 8
      have hset : ∀ x : Bool, x = ((a 2).e || (b 2).e) → (((mixL a b 2).set 6 (.bool x)).set 7 (.int .u64 ((a 2).f ||| (b 2).f : Nat))).set 8 (.int .u64 ((a 2).l ||| (b 2).l : Nat)) = mixL a b 3 := by
        rintro x rfl; rfl
      cases he : (a 2).e
      all_goals
        rw [he] at c0
        go_wp2
        refine wp_region_tail 11 hm (by kernel_rfl) ?_
        simp only [List.take_succ_cons, List.take_zero, List.drop_succ_cons, List.drop_zero]
        repeat still_step
        refine wpStill_nil ?_
        go_wp2
        refine wp_region_tail 11 hm (by kernel_rfl) ?_
        simp only [List.take_succ_cons, List.take_zero, List.drop_succ_cons, List.drop_zero]
        repeat still_step
        refine wpStill_nil ?_
        go_wp2
        refine ⟨⟨3, by decide, rfl, ?_⟩, by decide⟩
        have JJ := fun (x : Bool) (hx : x = ((a 2).e || (b 2).e)) => (hset x hx) ▸ (((J.set 6 (by simp [mixL]) (.bool x)).set 7 (by simp [mixL]) (.int .u64 ((a 2).f ||| (b 2).f : Nat))).set 8 (by simp [mixL]) (.int .u64 ((a 2).l ||| (b 2).l : Nat))).drew.drew
        exact JJ _ (by rw [he]; rfl)
    · have c0 : wr.cell? ⟨w.heap.size, 9, none⟩ = some (.bool (a 3).e) := J.ro 9
      have c1 : wr.cell? ⟨w.heap.size, 10, none⟩ = some (.int .u64 (a 3).f) := J.ro 10
      have c2 : wr.cell? ⟨w.heap.size, 11, none⟩ = some (.int .u64 (a 3).l) := J.ro 11
      have c3 : wr.cell? ⟨w.heap.size + 1, 9, none⟩ = some (.bool (b 3).e) := J.rb 9
      have c4 : wr.cell? ⟨w.heap.size + 1, 10, none⟩ = some (.int .u64 (b 3).f) := J.rb 10
      have c5 : wr.cell? ⟨w.heap.size + 1, 11, none⟩ = some (.int .u64 (b 3).l) := J.rb 11
      have z0 := J.zo 9
      have z1 := J.zo 10
      have z2 := J.zo 11
      have hset : ∀ x : Bool, x = ((a 3).e || (b 3).e) → (((mixL a b 3).set 9 (.bool x)).set 10 (.int .u64 ((a 3).f ||| (b 3).f : Nat))).set 11 (.int .u64 ((a 3).l ||| (b 3).l : Nat)) = mixL a b 4 := by
        rintro x rfl; rfl
      cases he : (a 3).e
      all_goals
        rw [he] at c0
        go_wp2
        refine wp_region_tail 11 hm (by kernel_rfl) ?_
        simp only [List.take_succ_cons, List.take_zero, List.drop_succ_cons, List.drop_zero]
        repeat still_step
        refine wpStill_nil ?_
        go_wp2
        refine wp_region_tail 11 hm (by kernel_rfl) ?_
        simp only [List.take_succ_cons, List.take_zero, List.drop_succ_cons, List.drop_zero]
        repeat still_step
        refine wpStill_nil ?_
        go_wp2
        refine ⟨⟨4, by decide, rfl, ?_⟩, by decide⟩
        have JJ := fun (x : Bool) (hx : x = ((a 3).e || (b 3).e)) => (hset x hx) ▸ (((J.set 9 (by simp [mixL]) (.bool x)).set 10 (by simp [mixL]) (.int .u64 ((a 3).f ||| (b 3).f : Nat))).set 11 (by simp [mixL]) (.int .u64 ((a 3).l ||| (b 3).l : Nat))).drew.drew
        exact JJ _ (by rw [he]; rfl)
    · have x0 : wr.cell? ⟨w.heap.size, 0, none⟩ = some (.bool ((a 0).e || (b 0).e)) := J.ro 0
      have y0 : wr.cell? ⟨w.heap.size + 1 + 1, 0, none⟩ = some (.bool false) := J.rr 0
      have z0 := J.zr 0
      have x1 : wr.cell? ⟨w.heap.size, 1, none⟩ = some (.int .u64 ((a 0).f ||| (b 0).f : Nat)) := J.ro 1
      have y1 : wr.cell? ⟨w.heap.size + 1 + 1, 1, none⟩ = some (.int .u64 0) := J.rr 1
      have z1 := J.zr 1
      have x2 : wr.cell? ⟨w.heap.size, 2, none⟩ = some (.int .u64 ((a 0).l ||| (b 0).l : Nat)) := J.ro 2
      have y2 : wr.cell? ⟨w.heap.size + 1 + 1, 2, none⟩ = some (.int .u64 0) := J.rr 2
      have z2 := J.zr 2
      have x3 : wr.cell? ⟨w.heap.size, 3, none⟩ = some (.bool ((a 1).e || (b 1).e)) := J.ro 3
      have y3 : wr.cell? ⟨w.heap.size + 1 + 1, 3, none⟩ = some (.bool false) := J.rr 3
      have z3 := J.zr 3
      have x4 : wr.cell? ⟨w.heap.size, 4, none⟩ = some (.int .u64 ((a 1).f ||| (b 1).f : Nat)) := J.ro 4
      have y4 : wr.cell? ⟨w.heap.size + 1 + 1, 4, none⟩ = some (.int .u64 0) := J.rr 4
      have z4 := J.zr 4
      have x5 : wr.cell? ⟨w.heap.size, 5, none⟩ = some (.int .u64 ((a 1).l ||| (b 1).l : Nat)) := J.ro 5
      have y5 : wr.cell? ⟨w.heap.size + 1 + 1, 5, none⟩ = some (.int .u64 0) := J.rr 5
      have z5 := J.zr 5
      have x6 : wr.cell? ⟨w.heap.size, 6, none⟩ = some (.bool ((a 2).e || (b 2).e)) := J.ro 6
      have y6 : wr.cell? ⟨w.heap.size + 1 + 1, 6, none⟩ = some (.bool false) := J.rr 6
      have z6 := J.zr 6
      have x7 : wr.cell? ⟨w.heap.size, 7, none⟩ = some (.int .u64 ((a 2).f ||| (b 2).f : Nat)) := J.ro 7
      have y7 : wr.cell? ⟨w.heap.size + 1 + 1, 7, none⟩ = some (.int .u64 0) := J.rr 7
      have z7 := J.zr 7
      have x8 : wr.cell? ⟨w.heap.size, 8, none⟩ = some (.int .u64 ((a 2).l ||| (b 2).l : Nat)) := J.ro 8
      have y8 : wr.cell? ⟨w.heap.size + 1 + 1, 8, none⟩ = some (.int .u64 0) := J.rr 8
      have z8 := J.zr 8
      have x9 : wr.cell? ⟨w.heap.size, 9, none⟩ = some (.bool ((a 3).e || (b 3).e)) := J.ro 9
      have y9 : wr.cell? ⟨w.heap.size + 1 + 1, 9, none⟩ = some (.bool false) := J.rr 9
      have z9 := J.zr 9
      have x10 : wr.cell? ⟨w.heap.size, 10, none⟩ = some (.int .u64 ((a 3).f ||| (b 3).f : Nat)) := J.ro 10
      have y10 : wr.cell? ⟨w.heap.size + 1 + 1, 10, none⟩ = some (.int .u64 0) := J.rr 10
      have z10 := J.zr 10
      have x11 : wr.cell? ⟨w.heap.size, 11, none⟩ = some (.int .u64 ((a 3).l ||| (b 3).l : Nat)) := J.ro 11
      have y11 : wr.cell? ⟨w.heap.size + 1 + 1, 11, none⟩ = some (.int .u64 0) := J.rr 11
      have z11 := J.zr 11
      go_wp2
      refine bodyPost_ret (v := pv (eitherF a b)) (by simp [results, Tryd.results54, go_sem, pv, eitherF, x0, x1, x2, x3, x4, x5, x6, x7, x8, x9, x10, x11, y0, y1, y2, y3, y4, y5, y6, y7, y8, y9, y10, y11]) rfl ⟨rfl, ?_⟩
      have hfr := far_sets wr (w.heap.size + 1 + 1) (.bool ((a 0).e || (b 0).e)) (.int .u64 ((a 0).f ||| (b 0).f : Nat)) (.int .u64 ((a 0).l ||| (b 0).l : Nat)) (.bool ((a 1).e || (b 1).e)) (.int .u64 ((a 1).f ||| (b 1).f : Nat)) (.int .u64 ((a 1).l ||| (b 1).l : Nat)) (.bool ((a 2).e || (b 2).e)) (.int .u64 ((a 2).f ||| (b 2).f : Nat)) (.int .u64 ((a 2).l ||| (b 2).l : Nat)) (.bool ((a 3).e || (b 3).e)) (.int .u64 ((a 3).f ||| (b 3).f : Nat)) (.int .u64 ((a 3).l ||| (b 3).l : Nat))
      exact J.fr.trans' hfr (by simp; omega)

end Go.Proofs.YticaoekmlaipnaaDoor

