/- CodeForth: its walk. -/
import Derived.Test.YtkpmhkoicdglbaaDoorCodeO
namespace Go.Proofs.YtkpmhkoicdglbaaDoor
open Go.ChangeShapes Go.WideShapes Go.ChangeAt Go.RowKit
open Cod Bits
set_option linter.unusedVariables false

set_option maxHeartbeats 4000000 in
theorem codeForth_no (w : World) (A : Option Addr) (n c : Nat) (L : List Int) (hl : Left w w.heap.size A n c L) (hn : n ≤ 281474976710656) (ht : Tabs w) (h0 : (D L 0 0).1 ≠ 0) :
    Calls Tryd.prog 4 #[.slice A n c] w fun e w' => e = .returned (.bool true) ∧ Below w.heap.size w w' := by
  obtain ⟨h1, h2⟩ := D_fault hl.2.1 h0
  rw [hl.1] at h2
  have HK := Lib.hid (known_any w ht)
  have HD := Lib.hid (fun w1 (hB : Below w.heap.size w w1) => decode_any w1 A n c L ((hl.below hB (Nat.le_refl _)).1 |> fun k1 => ⟨k1, hl.2.1, fun hp => by
    obtain ⟨hc, b, off, e, hlt, hx⟩ := (hl.below hB (Nat.le_refl _)).2.2 hp
    exact ⟨hc, b, off, e, Nat.lt_of_lt_of_le hlt hB.size, hx⟩⟩) hn (ht.below hB))
  unfold Decoded at HD
  rw [h1] at HD
  generalize D L 0 0 = r at *
  obtain ⟨er, u, M⟩ := r
  simp only at h0 h2 HD
  have t0 : (er != 0) = true := by rw [bne_iff_ne]; exact h0
  have hu0 : (0 : Int) ≤ (u : Int) := by omega
  have hun : 8 * (u : Int) < n := by omega
  clear hl ht h0 h1 h2
  go_enter Tryd.func4, Tryd.ntmps4
  go_wp2_with fail
  refine HK.out.mono ?_
  rintro e w1 ⟨rfl, hB1⟩
  have HD1 := Lib.hid (HD.out w1 hB1)
  have HB1 := Lib.hid hB1
  clear HD HK hB1
  go_wp2_with fail
  go_at_call 13
  refine HD1.out.mono ?_
  rintro e w2 ⟨v, rfl, hown, hB2⟩
  obtain ⟨A2, c2, rfl, _⟩ := hown.codeAt
  have HB2 := Lib.hid (HB1.out.trans (hB2.mono HB1.out.size))
  clear hown hB2 HB1 HD1
  go_wp2_with fail
  go_ret
  exact ⟨rfl, HB2.out⟩
set_option maxHeartbeats 4000000 in
theorem codeForth_yes (w : World) (A : Option Addr) (n c : Nat) (L : List Int) (hl : Left w w.heap.size A n c L) (hn : n ≤ 281474976710656) (ht : Tabs w) (h0 : (D L 0 0).1 = 0) :
    Calls Tryd.prog 4 #[.slice A n c] w fun e w' => e = .returned (.bool true) ∧ Below w.heap.size w w' := by
  obtain ⟨hg, hle, hen, hu⟩ := D_forth hl.2.1 h0
  have HK := Lib.hid (known_any w ht)
  have HD := Lib.hid (fun w1 (hB : Below w.heap.size w w1) => decode_any w1 A n c L ((hl.below hB (Nat.le_refl _)).1 |> fun k1 => ⟨k1, hl.2.1, fun hp => by
    obtain ⟨hc, b, off, e, hlt, hx⟩ := (hl.below hB (Nat.le_refl _)).2.2 hp
    exact ⟨hc, b, off, e, Nat.lt_of_lt_of_le hlt hB.size, hx⟩⟩) hn (ht.below hB))
  have hby : BytesAt w A L := fun hq => by
    obtain ⟨hc, b, off, e, hlt, hx⟩ := hl.2.2 (by rw [← hl.1]; exact hq)
    exact ⟨b, off, e, hlt, hx⟩
  unfold Decoded at HD
  rw [h0, hu] at HD
  generalize (D L 0 0).2.2 = M at *
  have hck := good_check hg hle
  have HLN := Lib.hid hl.1
  have HLB := Lib.hid hl.2.1
  have HBY := Lib.hid hby
  have HT := Lib.hid ht
  have HEN := Lib.hid hen
  have HCK := Lib.hid hck
  have HLE := Lib.hid hle
  clear hl ht h0 hg hen hu hby hck hle
  go_enter Tryd.func4, Tryd.ntmps4
  go_wp2_with fail
  refine HK.out.mono ?_
  rintro e w1 ⟨rfl, hB1⟩
  have HD1 := Lib.hid (HD.out w1 hB1)
  have HB1 := Lib.hid hB1
  clear HD HK hB1
  go_wp2_with fail
  go_at_call 13
  refine HD1.out.mono ?_
  rintro e w2 ⟨v, rfl, hown, hB2⟩
  obtain ⟨A2, c2, rfl, hca⟩ := hown.codeAt
  have hBB := HB1.out.trans (hB2.mono HB1.out.size)
  have HCH := Lib.hid (check_any w2 A2 M.length c2 M rfl (by have := HLE.out; omega) hca)
  rw [HCK.out] at HCH
  have HCA := Lib.hid hca
  have HB2 := Lib.hid hBB
  clear hown hB2 HB1 HD1 hca hBB
  go_wp2_with fail
  go_at_call 12
  refine HCH.out.mono ?_
  rintro e w3 ⟨rfl, hB3⟩
  have HB3 := Lib.hid (HB2.out.trans (hB3.mono HB2.out.size))
  have HEC := Lib.hid (encode_ok w3 A2 M.length c2 M rfl (by have := HLE.out; omega) (HCA.out.below hB3) (HT.out.below HB3.out) (by rw [HCK.out]))
  clear hB3 HCH HCA HB2
  go_wp2_with fail
  go_at_call 11
  refine HEC.out.mono ?_
  rintro e w4 ⟨v4, rfl, hown4, hB4⟩
  rw [HEN.out] at hown4
  obtain ⟨A4, c4, rfl, hby4⟩ := hown4.form
  have hB5 := HB3.out.trans (hB4.mono HB3.out.size)
  have HSB := Lib.hid (sameBytes_both w4 A n c A4 L.length c4 L L HLN.out rfl (HBY.out.below hB5) hby4 HLB.out HLB.out)
  rw [decide_eq_true rfl] at HSB
  have HB5 := Lib.hid hB5
  clear hown4 hB4 hB5 hby4 HEC HB3 HBY HT HEN
  go_wp2_with fail
  go_at_call 16
  refine HSB.out.mono ?_
  rintro e w6 ⟨rfl, rfl⟩
  go_wp2_with fail
  go_ret
  exact ⟨rfl, HB5.out⟩
theorem codeForth_walk (w : World) (A : Option Addr) (n c : Nat) (L : List Int) (hl : Left w w.heap.size A n c L) (hn : n ≤ 281474976710656) (ht : Tabs w) :
    Calls Tryd.prog 4 #[.slice A n c] w fun e w' => e = .returned (.bool true) ∧ Below w.heap.size w w' := by
  by_cases h0 : (D L 0 0).1 = 0
  · exact codeForth_yes w A n c L hl hn ht h0
  · exact codeForth_no w A n c L hl hn ht h0
end Go.Proofs.YtkpmhkoicdglbaaDoor
