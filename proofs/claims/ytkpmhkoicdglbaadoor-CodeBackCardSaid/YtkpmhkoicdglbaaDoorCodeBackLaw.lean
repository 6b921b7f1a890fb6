/- CodeBack: its walk. -/
import Derived.Test.YtkpmhkoicdglbaaDoorCodeO
namespace Go.Proofs.YtkpmhkoicdglbaaDoor
open Go.ChangeShapes Go.WideShapes Go.ChangeAt Go.RowKit
open Cod Bits
set_option linter.unusedVariables false

set_option maxHeartbeats 2000000 in
theorem codeBack_no (w : World) (A : Option Addr) (n c : Nat) (L : List Ins) (hL : L.length = n) (hn : n ≤ 140737488355328) (h : CodeAt w A L) (ht : Tabs w) (h0 : (checkL L 0).2 ≠ 0) :
    Calls Tryd.prog 3 #[.slice A n c] w fun e w' => e = .returned (.bool true) ∧ Below w.heap.size w w' := by
  obtain ⟨k, hk, hkl⟩ := check_no L 0 h0
  have HK := Lib.hid (known_any w ht)
  have HE := Lib.hid (fun w1 (hB : Below w.heap.size w w1) => encode_no w1 A n c L hL hn (h.below hB) h0)
  have HC := Lib.hid (fun w1 (hB : Below w.heap.size w w1) => check_any w1 A n c L hL hn (h.below hB))
  generalize checkL L 0 = ck at *
  obtain ⟨at_, er⟩ := ck
  simp only at hk h0 HE HC
  rw [Nat.zero_add] at hk
  subst hk
  have t0 : (er != 0) = true := by rw [bne_iff_ne]; exact h0
  have hkn : (k : Int) < n := by omega
  clear h ht hL hkl h0
  go_enter Tryd.func3, Tryd.ntmps3
  go_wp2_with fail
  refine HK.out.mono ?_
  rintro e w1 ⟨rfl, hB1⟩
  have HE1 := Lib.hid (HE.out w1 hB1)
  go_wp2_with fail
  go_at_call 11
  refine HE1.out.mono ?_
  rintro e w2 ⟨rfl, hB2⟩
  have hBB := hB1.trans (hB2.mono hB1.size)
  have HC1 := Lib.hid (HC.out w2 hBB)
  have HBB := Lib.hid hBB
  clear HE HE1 HC hB1 hB2 hBB
  go_wp2_with fail
  go_at_call 12
  refine HC1.out.mono ?_
  rintro e w3 ⟨rfl, hB3⟩
  have HB3 := Lib.hid (HBB.out.trans (hB3.mono HBB.out.size))
  clear HC1 HBB hB3
  go_wp2_with fail
  go_ret
  exact ⟨rfl, HB3.out⟩
set_option maxRecDepth 100000 in
set_option maxHeartbeats 4000000 in
theorem codeBack_yes (w : World) (A : Option Addr) (n c : Nat) (L : List Ins) (hL : L.length = n) (hn : n ≤ 140737488355328) (h : CodeAt w A L) (hr : ∀ i ∈ L, i.rng) (ht : Tabs w) (h0 : (checkL L 0).2 = 0) :
    Calls Tryd.prog 3 #[.slice A n c] w fun e w' => e = .returned (.bool true) ∧ Below w.heap.size w w' := by
  have hg := good_all h0 hr
  have hn4 : n ≤ 4096 := by have := (check_ok L 0 h0).2.1 (by omega); omega
  have hck := good_check hg (by omega)
  have hu := unitsN_le L
  have hel := encB_len L
  have hel2 := encB_length L
  have HK := Lib.hid (known_any w ht)
  have HE := Lib.hid (fun w1 (hB : Below w.heap.size w w1) => encode_ok w1 A n c L hL hn (h.below hB) (ht.below hB) h0)
  have HC := Lib.hid (fun w1 (hB : Below w.heap.size w w1) => check_any w1 A n c L hL hn (h.below hB))
  rw [hck] at HC
  have HD := Lib.hid (fun w1 (hB : Below w.heap.size w w1) A2 c2 hl => decode_any w1 A2 (encB L).length c2 (encB L) hl (by omega) (ht.below hB))
  have HU := Lib.hid (fun w1 (hB : Below w.heap.size w w1) => units_any w1 A n c L hL (by omega) (h.below hB))
  have HDE := Lib.hid (D_enc L hg (by omega) 0)
  have HBL := Lib.hid (encB_bytes L hg)
  have HA := Lib.hid h
  have HLL := Lib.hid hL
  clear h ht h0 hr hg hck
  go_enter Tryd.func3, Tryd.ntmps3
  go_wp2_with fail
  refine HK.out.mono ?_
  rintro e w1 ⟨rfl, hB1⟩
  have HE1 := Lib.hid (HE.out w1 hB1)
  go_wp2_with fail
  go_at_call 11
  refine HE1.out.mono ?_
  rintro e w2 ⟨v, rfl, hown, hB2⟩
  have hBB := hB1.trans (hB2.mono hB1.size)
  have HC1 := Lib.hid (HC.out w2 hBB)
  have HBB := Lib.hid hBB
  obtain ⟨A2, c2, rfl, hlf⟩ := ownB_left hown HBL.out
  have HLF := Lib.hid hlf
  clear HE HE1 HC hB1 hB2 hBB hown hlf HK
  go_wp2_with fail
  go_at_call 12
  refine HC1.out.mono ?_
  rintro e w3 ⟨rfl, hB3⟩
  have HB3 := Lib.hid (HBB.out.trans (hB3.mono HBB.out.size))
  have HD1 := Lib.hid (HD.out w3 HB3.out A2 c2 ((HLF.out.below hB3 (Nat.le_refl _)).keep' hB3.size))
  clear HC1 HBB hB3 HLF HD
  have hul : unitsN L ≤ 8192 := by omega
  have hn4' : decide ((n : Int) ≤ 4096) = true := decide_eq_true (by omega)
  rw [hel] at HD1
  have hlast := unitsL_last L
  rw [HLL.out] at hlast
  have HLAST := Lib.hid hlast
  have hN0 : (0 : Int) ≤ (n : Int) := by omega
  clear hu hel2 hlast
  go_wp2_with fail
  go_at_call 13
  refine HD1.out.mono ?_
  rintro e w4 ⟨v4, rfl, hown4, hB4⟩
  rw [HDE.out] at hown4 ⊢
  obtain ⟨A4, c4, rfl, hca⟩ := hown4.codeAt
  rw [HLL.out]
  have HB4 := Lib.hid (HB3.out.trans (hB4.mono HB3.out.size))
  have HU1 := Lib.hid (HU.out w4 HB4.out)
  have HCA := Lib.hid hca
  clear hown4 hB4 HB3 HD1 HU hca hel
  go_wp2_with fail
  go_at_call 14
  refine HU1.out.mono ?_
  rintro e w5 ⟨rfl, hblk, hB5⟩
  have hb5 := HB4.out.trans (hB5.mono HB4.out.size)
  have HSC := Lib.hid (lawSame_yes w5 A n c A4 c4 L HLL.out (by omega) (HA.out.below hb5) (HCA.out.below hB5))
  have HB5 := Lib.hid hb5
  have HBK := Lib.hid hblk
  clear hblk hB5 hb5 HU1 HB4 HCA HA
  go_wp2_with fail
  go_at_call 15
  refine HSC.out.mono ?_
  rintro e w6 ⟨rfl, hB6⟩
  have hcell : w6.cell? ⟨w4.heap.size, n, none⟩ = some (.int .i64 (unitsN L)) := by
    have h1 := (HBK.out.below hB6 HBK.out.lt).cell n (by rw [unitsL_length, HLL.out]; omega)
    rw [HLAST.out] at h1
    exact h1
  have HB6 := Lib.hid (HB5.out.trans (hB6.mono HB5.out.size))
  clear hB6 HB5 HBK HSC
  go_wp2_with fail
  go_ret
  exact ⟨rfl, HB6.out⟩
theorem codeBack_walk (w : World) (A : Option Addr) (n c : Nat) (L : List Ins) (hL : L.length = n) (hn : n ≤ 140737488355328) (h : CodeAt w A L) (hr : ∀ i ∈ L, i.rng) (ht : Tabs w) :
    Calls Tryd.prog 3 #[.slice A n c] w fun e w' => e = .returned (.bool true) ∧ Below w.heap.size w w' := by
  by_cases h0 : (checkL L 0).2 = 0
  · exact codeBack_yes w A n c L hL hn h hr ht h0
  · exact codeBack_no w A n c L hL hn h ht h0
end Go.Proofs.YtkpmhkoicdglbaaDoor
