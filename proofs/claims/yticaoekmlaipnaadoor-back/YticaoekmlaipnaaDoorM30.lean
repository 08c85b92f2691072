/-
  Back's own small functions: how many bytes a number, and texts, take; the same texts; a function within its limits; Look.
-/
import Derived.Test.YticaoekmlaipnaaDoorM16
import Derived.Test.YticaoekmlaipnaaDoorM25
set_option linter.unusedSimpArgs false
set_option linter.unusedVariables false
namespace Go.Proofs.YticaoekmlaipnaaDoor
open Go.RowKit
open Wire

set_option maxRecDepth 100000 in
set_option maxHeartbeats 400000 in
theorem digits_any (n : Nat) (w : World) (hn : n < 9223372036854775808) : Calls Tryd.prog 46 #[.int .i64 n] w fun e w' => e = .returned (.int .i64 (digs n).length) ∧ w' = w := by
  have hdl := digs_len n
  obtain ⟨D, hD⟩ : ∃ D, (digs n).length = D := ⟨_, rfl⟩
  rw [hD] at hdl ⊢
  have HD : Hid (1 + (digs n).length = D + 1) := by show _ = _; omega
  clear hD
  go_enter Tryd.func46, Tryd.ntmps46
  go_wp2
  go_loop [0, 3] (fun a k => ∃ (m j : Nat), a = .int .i64 m ∧ k = .int .i64 j ∧ m ≤ n ∧ j ≤ 11 ∧ Hid (j + (digs m).length = D + 1)) (fun a _ => (intOf a).toNat)
  case atStart => exact ⟨n, 1, rfl, rfl, by omega, by omega, HD⟩
  case round =>
    clear HD
    obtain ⟨m, j, rfl, rfl, hm, hj, hJ⟩ := hrel
    by_cases h : 128 ≤ m
    · have g1 : (128 : Int) ≤ m := by omega
      have hd := digs_ge h (by have := pow9; omega)
      have hJ2 : j + 1 + (digs (m / 128)).length = D + 1 := by have := hJ.out; rw [hd, List.length_cons] at this; omega
      have HJ2 : Hid _ := hJ2
      have hj2 : j + 1 ≤ 11 := by omega
      clear hd hJ2 hJ
      go_wp2
      refine ⟨⟨m / 128, j + 1, ?_, by go_num, by omega, hj2, HJ2⟩, ?_⟩
      · congr 1
      · simp [intOf]; omega
    · have g1 : ¬ (128 : Int) ≤ m := by omega
      have hd := digs_lt (n := m) (by omega)
      have hJ2 : j = D := by have := hJ.out; rw [hd] at this; simp at this; omega
      subst hJ2
      clear hJ hd
      go_wp2
      go_ret
      exact ⟨rfl, rfl⟩

set_option maxHeartbeats 400000 in
theorem look_any (t : ByteArray) (w : World) (hm : t.size ≤ maxLen) (hT : Tab w) : Calls Tryd.prog 9 #[.string t] w fun e w' => (∃ p er : Int, e = .returned (.tuple #[.int .i64 p, .int .i64 er]) ∧ (er = 0 ↔ ipF t = true)) ∧ Fr [] w w' := by
  unfold ipF
  by_cases h : t.size ≤ 50
  · have hr := read_any t w h hT
    unfold ReadPost at hr
    cases hok : readOk t with
    | true =>
      simp only [hok] at hr
      have e : (decide (t.size ≤ 50) && true) = true := by simp [h]
      rw [e]
      clear e hok h
      go_enter Tryd.func9, Tryd.ntmps9
      go_wp2_with fail
      refine hr.mono ?_
      rintro e w1 ⟨hf, hp⟩
      rw [if_pos trivial] at hp
      obtain ⟨pb, -, rfl, -⟩ := hp
      clear hr
      go_wp2
      go_ret2
      exact ⟨⟨_, _, rfl, by simp⟩, hf⟩
    | false =>
      simp only [hok] at hr
      have e : (decide (t.size ≤ 50) && false) = false := by simp
      rw [e]
      clear e hok h
      go_enter Tryd.func9, Tryd.ntmps9
      go_wp2_with fail
      refine hr.mono ?_
      rintro e w1 ⟨hf, hp⟩
      rw [if_neg (by simp)] at hp
      subst hp
      clear hr
      go_wp2
      go_ret2
      exact ⟨⟨_, _, rfl, by simp⟩, hf⟩
  · have hr := read_long t w (by omega) hm
    have e : (decide (t.size ≤ 50) && readOk t) = false := by simp [h]
    rw [e]
    clear e
    unfold maxLen at hm
    go_enter Tryd.func9, Tryd.ntmps9
    go_wp2_with fail
    refine hr.mono ?_
    rintro e w1 ⟨rfl, rfl⟩
    clear hr
    go_wp2
    go_ret2
    exact ⟨⟨_, _, rfl, by simp⟩, Fr.refl _ _⟩

set_option maxRecDepth 100000 in
set_option maxHeartbeats 1000000 in
theorem lawfulG_any (f : Wire.Fn) (i : Nat) (w : World) (hc : f.code.size ≤ maxLen) (hi : i ≤ 100000) : Calls Tryd.prog 45 #[.agg #[.int .i64 f.params, .int .i64 f.locs, .string f.code], .int .i64 i] w fun e w' => e = .returned (.bool (lawful f i)) ∧ Fr [] w w' := by
  have F0 : Fr [] w (w.alloc (.cells #[.int .i64 f.params, .int .i64 f.locs, .string f.code] 63)) := (Fr.refl [] w).alloc _
  have hl := @lawful_iff f i
  obtain ⟨r, hr⟩ : ∃ r, lawful f i = r := ⟨_, rfl⟩
  rw [hr] at hl ⊢
  clear hr
  unfold maxLen at hc
  obtain ⟨p, l, c⟩ := f
  simp only at *
  have HL : Hid _ := hl
  clear hl
  by_cases h1 : p < 0
  · obtain rfl : r = false := Bool.eq_false_iff.2 fun h => by have := HL.out.1 h; omega
    clear HL
    go_enter Tryd.func45, Tryd.ntmps45
    go_wp2
    go_ret
    exact ⟨rfl, F0⟩
  · by_cases h2 : 8 < p
    · obtain rfl : r = false := Bool.eq_false_iff.2 fun h => by have := HL.out.1 h; omega
      clear HL
      go_enter Tryd.func45, Tryd.ntmps45
      go_wp2
      go_ret
      exact ⟨rfl, F0⟩
    · by_cases h3 : 16 < l
      · obtain rfl : r = false := Bool.eq_false_iff.2 fun h => by have := HL.out.1 h; omega
        clear HL
        go_enter Tryd.func45, Tryd.ntmps45
        go_wp2
        go_ret
        exact ⟨rfl, F0⟩
      · by_cases h4 : l < p
        · obtain rfl : r = false := Bool.eq_false_iff.2 fun h => by have := HL.out.1 h; omega
          clear HL
          go_enter Tryd.func45, Tryd.ntmps45
          go_wp2
          go_ret
          exact ⟨rfl, F0⟩
        · by_cases h5 : c.size ≤ 20000
          · have g5 : (c.size : Int) ≤ 20000 := by omega
            by_cases h6 : 3 ≤ i
            · have g6 : (3 : Int) ≤ i := by omega
              obtain rfl : r = true := HL.out.2 ⟨by omega, by omega, by omega, by omega, by omega, by omega⟩
              clear HL
              go_enter Tryd.func45, Tryd.ntmps45
              go_wp2
              go_ret
              exact ⟨rfl, F0⟩
            · have g6 : ¬ (3 : Int) ≤ i := by omega
              by_cases h7 : p = 0
              · obtain rfl : r = true := HL.out.2 ⟨by omega, by omega, by omega, by omega, by omega, by omega⟩
                have g7 : ((p : Int) == 0) = true := by simp [h7]
                subst h7
                clear HL
                go_enter Tryd.func45, Tryd.ntmps45
                go_wp2
                go_ret
                exact ⟨rfl, F0⟩
              · obtain rfl : r = false := Bool.eq_false_iff.2 fun h => by have := HL.out.1 h; omega
                have g7 : ((p : Int) == 0) = false := by simp [h7]
                clear HL
                go_enter Tryd.func45, Tryd.ntmps45
                go_wp2
                go_ret
                exact ⟨rfl, F0⟩
          · have g5 : ¬ (c.size : Int) ≤ 20000 := by omega
            obtain rfl : r = false := Bool.eq_false_iff.2 fun h => by have := HL.out.1 h; omega
            clear HL
            go_enter Tryd.func45, Tryd.ntmps45
            go_wp2
            go_ret
            exact ⟨rfl, F0⟩
end Go.Proofs.YticaoekmlaipnaaDoor

namespace Go.Proofs.YticaoekmlaipnaaDoor
open Go.RowKit
open Wire

set_option maxRecDepth 100000 in
set_option maxHeartbeats 1000000 in
theorem long_any (tv : Value) (L : List ByteArray) (w : World) (hs : ∀ s ∈ L, s.size ≤ 100) (hn : L.length ≤ 1000) (hL : StrsIn w tv L) :
    Calls Tryd.prog 47 #[tv] w fun e w' => e = .returned (.int .i64 (listing L).length) ∧ Fr [] w w' := by
  obtain ⟨a0, cap, g, off, rfl, hcap, ha, hx⟩ := hL
  have hd := digits_any L.length w (by omega)
  have hdl := digs_len L.length
  have HE : Hid ((listing L).length = (digs L.length).length + (textsB L).length) := by show _ = _; rw [listing, List.length_append]
  obtain ⟨d, hdd⟩ : ∃ d, (digs L.length).length = d := ⟨_, rfl⟩
  rw [hdd] at hd hdl HE
  have Hs : Hid _ := hs
  have Hx : Hid _ := hx
  have Ha : Hid _ := ha
  clear hs hx ha hdd
  go_enter Tryd.func47, Tryd.ntmps47
  go_wp2_with fail
  refine hd.mono ?_
  rintro e w ⟨rfl, rfl⟩
  clear hd
  go_wp2
  go_loopw [3, 4] (fun k i wr => ∃ j : Nat, j ≤ L.length ∧ k = .int .i64 ((d + (textsB (L.take j)).length : Nat) : Int) ∧ i = .int .i64 j ∧ Fr [] w wr) (fun _ i _ => L.length - (intOf i).toNat)
  case atStart => exact ⟨0, by omega, by simp [textsB], rfl, Fr.refl _ _⟩
  case round =>
    obtain ⟨j, hj, rfl, rfl, F⟩ := hrel
    by_cases hlt : j < L.length
    · obtain ⟨rfl, hg⟩ := Ha.out (by omega)
      have g1 : (j : Int) < L.length := by omega
      have c1 : wr.cell? ⟨g, off + j, none⟩ = some (.string L[j]) := (F.cell (p := ⟨g, off + j, none⟩) hg (by simp)).trans (Hx.out j _ (List.getElem?_eq_getElem hlt))
      have hsz := Hs.out L[j] (List.getElem_mem hlt)
      have htl := textsB_len (L.take j) 100 (fun s hs => Hs.out s (List.mem_of_mem_take hs))
      have htk : (L.take j).length ≤ 1000 := by rw [List.length_take]; omega
      have htake := congrArg List.length (textsB_take L j hlt)
      rw [List.length_append, textB, List.length_append, bl_length] at htake
      obtain ⟨s, hsk⟩ : ∃ s, L[j] = s := ⟨_, rfl⟩
      rw [hsk] at c1 htake hsz
      have hdg := digits_any s.size
      have hdgl := digs_len s.size
      obtain ⟨ds, hds⟩ : ∃ d, (digs s.size).length = d := ⟨_, rfl⟩
      simp only [hds] at hdg htake hdgl
      obtain ⟨T, hT⟩ : ∃ T, (textsB (L.take j)).length = T := ⟨_, rfl⟩
      rw [hT] at htl htake ⊢
      have HT : Hid (d + (textsB (L.take (j + 1))).length = d + T + ds + s.size) := by show _ = _; omega
      have hTs : d + T ≤ 200000 := by omega
      have HD : Hid _ := hdg
      clear htake hdg htk htl hsk hds hT
      generalize d + T = q at *
      go_wp2
      go_quiet (first | (go_at_call 46; refine Calls.quiet_of_same (HD.out _ (by omega))))
      go_wp2
      refine ⟨⟨j + 1, by omega, ?_, by go_num, F.drewN _⟩, by simp [intOf]; omega⟩
      rw [HT.out]
      go_num
    · obtain rfl : j = L.length := by omega
      have g1 : ¬ ((L.length : Int) < L.length) := by omega
      rw [List.take_length, ← HE.out]
      go_wp2
      go_ret
      exact ⟨rfl, F⟩

set_option maxRecDepth 100000 in
set_option maxHeartbeats 1000000 in
theorem same_any (av bv : Value) (L : List ByteArray) (w : World) (hn : L.length ≤ 1000) (hA : StrsIn w av L) (hB : StrsIn w bv L) :
    Calls Tryd.prog 15 #[av, bv] w fun e w' => e = .returned (.bool true) ∧ Fr [] w w' := by
  obtain ⟨a0, cap, g, off, rfl, hcap, ha, hx⟩ := hA
  obtain ⟨b0, cap', h, off', rfl, hcap', hb, hy⟩ := hB
  have Hx : Hid _ := hx
  have Ha : Hid _ := ha
  have Hy : Hid _ := hy
  have Hb : Hid _ := hb
  clear hx ha hy hb
  have g0 : ((L.length : Int) != (L.length : Int)) = false := by simp
  go_enter Tryd.func15, Tryd.ntmps15
  go_wp2
  go_loopw [5] (fun i wr => ∃ j : Nat, j ≤ L.length ∧ i = .int .i64 j ∧ Fr [] w wr) (fun i _ => L.length - (intOf i).toNat)
  case atStart => exact ⟨0, by omega, rfl, Fr.refl _ _⟩
  case round =>
    obtain ⟨j, hj, rfl, F⟩ := hrel
    by_cases hlt : j < L.length
    · obtain ⟨rfl, hg⟩ := Ha.out (by omega)
      obtain ⟨rfl, hh⟩ := Hb.out (by omega)
      have g1 : (j : Int) < L.length := by omega
      have c1 : wr.cell? ⟨g, off + j, none⟩ = some (.string L[j]) := (F.cell (p := ⟨g, off + j, none⟩) hg (by simp)).trans (Hx.out j _ (List.getElem?_eq_getElem hlt))
      have c2 : wr.cell? ⟨h, off' + j, none⟩ = some (.string L[j]) := (F.cell (p := ⟨h, off' + j, none⟩) hh (by simp)).trans (Hy.out j _ (List.getElem?_eq_getElem hlt))
      obtain ⟨s, hsk⟩ : ∃ s, L[j] = s := ⟨_, rfl⟩
      rw [hsk] at c1 c2
      clear hsk
      go_wp2
      go_quiet (fail)
      go_wp2
      exact ⟨⟨j + 1, by omega, by go_num, F.drewN _⟩, by simp [intOf]; omega⟩
    · obtain rfl : j = L.length := by omega
      have g1 : ¬ ((L.length : Int) < L.length) := by omega
      go_wp2
      go_ret
      exact ⟨rfl, F⟩

set_option maxRecDepth 100000 in
set_option maxHeartbeats 2000000 in
theorem alike_any (av bv : Value) (m : Mo) (w : World) (hn0 : m.texts.length ≤ 1000) (hn1 : m.pats.length ≤ 1000) (hn4 : m.fns.length ≤ 1000) (hA : ModIn w av m) (hB : ModIn w bv m) :
    Calls Tryd.prog 35 #[av, bv] w fun e w' => e = .returned (.bool true) ∧ Fr [] w w' := by
  obtain ⟨tv, pv, fv, rfl, hT1, hP1, hF1⟩ := hA.is
  obtain ⟨tv', pv', fv', rfl, hT2, hP2, hF2⟩ := hB.is
  have s1 := fun (W : World) (f : Fr [] w W) => same_any tv tv' m.texts W hn0 (hT1.fr f) (hT2.fr f)
  have s2 := fun (W : World) (f : Fr [] w W) => same_any pv pv' m.pats W hn1 (hP1.fr f) (hP2.fr f)
  obtain ⟨ta, tc, tg, to, rfl, -⟩ := id hT1
  obtain ⟨pa, pc, pg, po, rfl, -⟩ := id hP1
  obtain ⟨fa, fc, fg, fo, rfl, hfc, hfa, hfx⟩ := id hF1
  obtain ⟨ta', tc', tg', to', rfl, -⟩ := id hT2
  obtain ⟨pa', pc', pg', po', rfl, -⟩ := id hP2
  obtain ⟨fa', fc', fg', fo', rfl, hfc', hfa', hfx'⟩ := id hF2
  have S1 : Hid _ := s1
  have S2 : Hid _ := s2
  have Hfa : Hid _ := hfa
  have Hfa' : Hid _ := hfa'
  have Hfx : Hid _ := hfx
  have Hfx' : Hid _ := hfx'
  obtain ⟨texts, pats, globs, arrs, fns⟩ := m
  simp only at *
  clear s1 s2 hfa hfa' hfx hfx' hA hB hT1 hP1 hF1 hT2 hP2 hF2
  have F0 : Fr [] w ((w.alloc (.cells #[.slice ta texts.length tc, .slice pa pats.length pc, .int .i64 globs, .int .i64 arrs, .slice fa fns.length fc] 43)).alloc (.cells #[.slice ta' texts.length tc', .slice pa' pats.length pc', .int .i64 globs, .int .i64 arrs, .slice fa' fns.length fc'] 43)) := ((Fr.refl [] w).alloc _).alloc _
  have n1 := World.alloc_heap_new w (.cells #[.slice ta texts.length tc, .slice pa pats.length pc, .int .i64 globs, .int .i64 arrs, .slice fa fns.length fc] 43)
  have n2 := World.alloc_heap_new (w.alloc (.cells #[.slice ta texts.length tc, .slice pa pats.length pc, .int .i64 globs, .int .i64 arrs, .slice fa fns.length fc] 43)) (.cells #[.slice ta' texts.length tc', .slice pa' pats.length pc', .int .i64 globs, .int .i64 arrs, .slice fa' fns.length fc'] 43)
  rw [World.size_alloc] at n2
  have n1' : ((w.alloc (.cells #[.slice ta texts.length tc, .slice pa pats.length pc, .int .i64 globs, .int .i64 arrs, .slice fa fns.length fc] 43)).alloc (.cells #[.slice ta' texts.length tc', .slice pa' pats.length pc', .int .i64 globs, .int .i64 arrs, .slice fa' fns.length fc'] 43)).heap[w.heap.size]? = some (.cells #[.slice ta texts.length tc, .slice pa pats.length pc, .int .i64 globs, .int .i64 arrs, .slice fa fns.length fc] 43) := by
    rw [Below.heap_alloc _ _ _ (by simp), n1]
  have g0 : ((fns.length : Int) != (fns.length : Int)) = false := by simp
  have gg : ((globs : Int) != (globs : Int)) = false := by simp
  have ga : ((arrs : Int) != (arrs : Int)) = false := by simp
  clear n1
  go_enter Tryd.func35, Tryd.ntmps35
  go_wp2_with fail
  generalize ((w.alloc (.cells #[.slice ta texts.length tc, .slice pa pats.length pc, .int .i64 globs, .int .i64 arrs, .slice fa fns.length fc] 43)).alloc (.cells #[.slice ta' texts.length tc', .slice pa' pats.length pc', .int .i64 globs, .int .i64 arrs, .slice fa' fns.length fc'] 43)) = W at *
  have hl1 := (Array.getElem?_eq_some_iff.1 n1').1
  have hl2 := (Array.getElem?_eq_some_iff.1 n2).1
  have kp : ∀ {W' : World}, Fr [] W W' → W'.heap[w.heap.size]? = some (.cells #[.slice ta texts.length tc, .slice pa pats.length pc, .int .i64 globs, .int .i64 arrs, .slice fa fns.length fc] 43) ∧ W'.heap[w.heap.size + 1]? = some (.cells #[.slice ta' texts.length tc', .slice pa' pats.length pc', .int .i64 globs, .int .i64 arrs, .slice fa' fns.length fc'] 43) := fun f => by
    exact ⟨by rw [f.block _ hl1 (by simp), n1'], by rw [f.block _ hl2 (by simp), n2]⟩
  have KP : Hid _ := @kp
  clear kp n1' n2
  refine (S1.out W F0).mono ?_
  rintro e W1 ⟨rfl, F1⟩
  obtain ⟨k1, k2⟩ := KP.out F1
  have u1 : W1.cell? ⟨w.heap.size, 1, none⟩ = some (.slice pa pats.length pc) := by unfold World.cell?; rw [k1]; rfl
  have u2 : W1.cell? ⟨w.heap.size + 1, 1, none⟩ = some (.slice pa' pats.length pc') := by unfold World.cell?; rw [k2]; rfl
  clear k1 k2
  go_wp2_with fail
  refine (S2.out W1 (F0.trans F1)).mono ?_
  rintro e W2 ⟨rfl, F2⟩
  have F2 := F1.trans F2
  obtain ⟨k1, k2⟩ := KP.out F2
  have v2 : W2.cell? ⟨w.heap.size, 2, none⟩ = some (.int .i64 globs) := by unfold World.cell?; rw [k1]; rfl
  have v2' : W2.cell? ⟨w.heap.size + 1, 2, none⟩ = some (.int .i64 globs) := by unfold World.cell?; rw [k2]; rfl
  have v3 : W2.cell? ⟨w.heap.size, 3, none⟩ = some (.int .i64 arrs) := by unfold World.cell?; rw [k1]; rfl
  have v3' : W2.cell? ⟨w.heap.size + 1, 3, none⟩ = some (.int .i64 arrs) := by unfold World.cell?; rw [k2]; rfl
  have v4 : W2.cell? ⟨w.heap.size, 4, none⟩ = some (.slice fa fns.length fc) := by unfold World.cell?; rw [k1]; rfl
  have v4' : W2.cell? ⟨w.heap.size + 1, 4, none⟩ = some (.slice fa' fns.length fc') := by unfold World.cell?; rw [k2]; rfl
  clear k1 k2 u1 u2 F1
  go_wp2
  go_loopw [7] (fun i wr => ∃ j : Nat, j ≤ fns.length ∧ i = .int .i64 j ∧ Fr [] W wr) (fun i _ => fns.length - (intOf i).toNat)
  case atStart => exact ⟨0, by omega, rfl, F2⟩
  case round =>
    obtain ⟨j, hj, rfl, F⟩ := hrel
    clear v2 v2' v3 v3' v4 v4' F2
    obtain ⟨k1, k2⟩ := KP.out F
    have v4 : wr.cell? ⟨w.heap.size, 4, none⟩ = some (.slice fa fns.length fc) := by unfold World.cell?; rw [k1]; rfl
    have v4' : wr.cell? ⟨w.heap.size + 1, 4, none⟩ = some (.slice fa' fns.length fc') := by unfold World.cell?; rw [k2]; rfl
    clear k1 k2
    have FW := F0.trans F
    by_cases hlt : j < fns.length
    · obtain ⟨rfl, hg⟩ := Hfa.out (by omega)
      obtain ⟨rfl, hg'⟩ := Hfa'.out (by omega)
      have g1 : (j : Int) < fns.length := by omega
      obtain ⟨x0, x1, x2⟩ := Hfx.out j _ (List.getElem?_eq_getElem hlt)
      obtain ⟨y0, y1, y2⟩ := Hfx'.out j _ (List.getElem?_eq_getElem hlt)
      have c0 := (FW.cell (p := ⟨fg, fo + j * 3, none⟩) hg (by simp)).trans x0
      have c1 := (FW.cell (p := ⟨fg, fo + j * 3 + 1, none⟩) hg (by simp)).trans x1
      have c2 := (FW.cell (p := ⟨fg, fo + j * 3 + 2, none⟩) hg (by simp)).trans x2
      have d0 := (FW.cell (p := ⟨fg', fo' + j * 3, none⟩) hg' (by simp)).trans y0
      have d1 := (FW.cell (p := ⟨fg', fo' + j * 3 + 1, none⟩) hg' (by simp)).trans y1
      have d2 := (FW.cell (p := ⟨fg', fo' + j * 3 + 2, none⟩) hg' (by simp)).trans y2
      obtain ⟨⟨p, lc, co⟩, hsk⟩ : ∃ s, fns[j] = s := ⟨_, rfl⟩
      rw [hsk] at c0 c1 c2 d0 d1 d2
      simp only at c0 c1 c2 d0 d1 d2
      clear hsk x0 x1 x2 y0 y1 y2
      go_wp2
      go_quiet (fail)
      go_wp2
      exact ⟨⟨j + 1, by omega, by go_num, F.drewN _⟩, by simp [intOf]; omega⟩
    · obtain rfl : j = fns.length := by omega
      have g1 : ¬ ((fns.length : Int) < fns.length) := by omega
      go_wp2
      go_ret
      exact ⟨rfl, FW⟩
end Go.Proofs.YticaoekmlaipnaaDoor

