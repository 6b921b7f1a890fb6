/- CodeFirst: its walk. -/
import Derived.Test.YtkpmhkoicdglbaaDoorCodeO
namespace Go.Proofs.YtkpmhkoicdglbaaDoor
open Go.ChangeShapes Go.WideShapes Go.ChangeAt Go.RowKit
open Cod Bits
set_option linter.unusedVariables false

set_option maxHeartbeats 4000000 in
theorem codeFirst_ok (w : World) (A : Option Addr) (n c : Nat) (L : List Int) (hl : Left w w.heap.size A n c L) (hn : n ≤ 281474976710656) (ht : Tabs w) (h0 : (D L 0 0).1 = 0) :
    Calls Tryd.prog 6 #[.slice A n c] w fun e w' => e = .returned (.bool true) ∧ Below w.heap.size w w' := by
  have h1 := (D_norm L 0 0).1 h0
  have HK := Lib.hid (known_any w ht)
  have HD := Lib.hid (fun w1 (hB : Below w.heap.size w w1) => decode_any w1 A n c L (hl.up hB) hn (ht.below hB))
  unfold Decoded at HD
  rw [h0, h1] at HD
  generalize (D L 0 0).2.2 = M at *
  clear hl ht h0 h1
  go_enter Tryd.func6, Tryd.ntmps6
  go_wp2_with fail
  refine HK.out.mono ?_
  rintro e w1 ⟨rfl, hB1⟩
  have HD1 := Lib.hid (HD.out w1 hB1)
  have HB1 := Lib.hid hB1
  clear HD HK hB1
  go_wp2_with fail
  go_at_call 13
  refine HD1.out.mono ?_
  rintro e w2 ⟨v, rfl, hown, hB2⟩
  obtain ⟨A2, c2, rfl, _⟩ := hown.codeAt
  have HB2 := Lib.hid (HB1.out.trans (hB2.mono HB1.out.size))
  clear hown hB2 HB1 HD1
  go_wp2_with fail
  go_ret
  exact ⟨rfl, HB2.out⟩
set_option maxHeartbeats 4000000 in
theorem codeFirst_no (w : World) (A : Option Addr) (n c : Nat) (L : List Int) (hl : Left w w.heap.size A n c L) (hn : n ≤ 281474976710656) (ht : Tabs w) (h0 : (D L 0 0).1 ≠ 0) :
    Calls Tryd.prog 6 #[.slice A n c] w fun e w' => e = .returned (.bool true) ∧ Below w.heap.size w w' := by
  obtain ⟨f1, f2, f3, f4, f5⟩ := D_first hl.2.1 h0
  have hz := (D_norm L 0 0).2 h0
  have hlen := hl.1
  rw [hlen] at f1
  obtain ⟨hc, b, off, rfl, -, -⟩ := hl.2.2 (by omega)
  have HK := Lib.hid (known_any w ht)
  have HD := Lib.hid (fun w1 (hB : Below w.heap.size w w1) => decode_any w1 (some ⟨b, off, none⟩) n c L (hl.up hB) hn (ht.below hB))
  unfold Decoded at HD
  rw [hz] at HD
  generalize hr : D L 0 0 = r at *
  obtain ⟨er, u, M0⟩ := r
  simp only at h0 f1 f2 f3 f4 f5 hz HD
  have HD2 := Lib.hid (fun w1 (hB : Below w.heap.size w w1) => decode_any w1 (some ⟨b, off, none⟩) (8 * u) c (L.take (8 * u)) ((hl.take (8 * u) (by omega)).keep' (Nat.le_refl _) |>.up hB) (by omega) (ht.below hB))
  unfold Decoded at HD2
  rw [f2, f3] at HD2
  have HD3 := Lib.hid (fun w1 (hB : Below w.heap.size w w1) => decode_any w1 (some ⟨b, off + 8 * u, none⟩) (n - 8 * u) (c - 8 * u) (L.drop (8 * u)) ((hl.drop (8 * u) (by omega)).up hB) (by omega) (ht.below hB))
  unfold Decoded at HD3
  have t0 : (er == 0) = false := by rw [beq_eq_false_iff_ne]; exact h0
  have t1 : decide ((u : Int) < 0) = false := decide_eq_false (by omega)
  have t2 : decide ((n : Int) ≤ 8 * (u : Int)) = false := decide_eq_false (by omega)
  generalize (D (L.take (8 * u)) 0 0).2.2 = M2 at *
  clear hl ht h0 f2 f3 hz hr hlen
  by_cases h25 : er = 25
  · have g4 := f4 h25
    clear HD3 f5 f4
    subst h25
    go_enter Tryd.func6, Tryd.ntmps6
    go_wp2_with fail
    refine HK.out.mono ?_
    rintro e w1 ⟨rfl, hB1⟩
    have HD1 := Lib.hid (HD.out w1 hB1)
    have HB1 := Lib.hid hB1
    clear HD HK hB1
    go_wp2_with fail
    go_at_call 13
    refine HD1.out.mono ?_
    rintro e w2 ⟨v, rfl, hown, hB2⟩
    obtain ⟨A2, c2, rfl, _⟩ := hown.codeAt
    have hb2 := HB1.out.trans (hB2.mono HB1.out.size)
    have HD2' := Lib.hid (HD2.out w2 hb2)
    have HB2 := Lib.hid hb2
    clear hown hB2 HB1 HD1 hb2 HD2
    go_wp2_with fail
    go_at_call 13
    refine HD2'.out.mono ?_
    rintro e w3 ⟨v3, rfl, hown, hB3⟩
    obtain ⟨A3, c3, rfl, _⟩ := hown.codeAt
    have HB3 := Lib.hid (HB2.out.trans (hB3.mono HB2.out.size))
    rw [g4]
    clear hown hB3 HB2 HD2'
    go_wp2_with fail
    go_ret
    exact ⟨rfl, HB3.out⟩
  · obtain ⟨g5, g6⟩ := f5 h25
    rw [g5, g6] at HD3
    clear f5 f4
    have t3 : (er == 25) = false := by rw [beq_eq_false_iff_ne]; exact h25
    generalize (D (L.drop (8 * u)) 0 0).2.2 = M3 at *
    clear h25 g5 g6
    go_enter Tryd.func6, Tryd.ntmps6
    go_wp2_with fail
    refine HK.out.mono ?_
    rintro e w1 ⟨rfl, hB1⟩
    have HD1 := Lib.hid (HD.out w1 hB1)
    have HB1 := Lib.hid hB1
    clear HD HK hB1
    go_wp2_with fail
    go_at_call 13
    refine HD1.out.mono ?_
    rintro e w2 ⟨v, rfl, hown, hB2⟩
    obtain ⟨A2, c2, rfl, _⟩ := hown.codeAt
    have hb2 := HB1.out.trans (hB2.mono HB1.out.size)
    have HD2' := Lib.hid (HD2.out w2 hb2)
    have HB2 := Lib.hid hb2
    clear hown hB2 HB1 HD1 hb2 HD2
    go_wp2_with fail
    go_at_call 13
    refine HD2'.out.mono ?_
    rintro e w3 ⟨v3, rfl, hown, hB3⟩
    obtain ⟨A3, c3, rfl, _⟩ := hown.codeAt
    have hb3 := HB2.out.trans (hB3.mono HB2.out.size)
    have HD3' := Lib.hid (HD3.out w3 hb3)
    have HB3 := Lib.hid hb3
    clear hown hB3 HB2 HD2' hb3 HD3
    go_wp2_with fail
    go_at_call 13
    refine HD3'.out.mono ?_
    rintro e w4 ⟨v4, rfl, hown, hB4⟩
    obtain ⟨A4, c4, rfl, _⟩ := hown.codeAt
    have HB4 := Lib.hid (HB3.out.trans (hB4.mono HB3.out.size))
    clear hown hB4 HB3 HD3'
    go_wp2_with fail
    go_ret
    exact ⟨rfl, HB4.out⟩
theorem codeFirst_walk (w : World) (A : Option Addr) (n c : Nat) (L : List Int) (hl : Left w w.heap.size A n c L) (hn : n ≤ 281474976710656) (ht : Tabs w) :
    Calls Tryd.prog 6 #[.slice A n c] w fun e w' => e = .returned (.bool true) ∧ Below w.heap.size w w' := by
  by_cases h0 : (D L 0 0).1 = 0
  · exact codeFirst_ok w A n c L hl hn ht h0
  · exact codeFirst_no w A n c L hl hn ht h0
end Go.Proofs.YtkpmhkoicdglbaaDoor
