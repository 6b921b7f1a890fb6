/- CodeUnlike: its walk. -/
import Derived.Test.YtkpmhkoicdglbaaDoorCodeO
namespace Go.Proofs.YtkpmhkoicdglbaaDoor
open Go.ChangeShapes Go.WideShapes Go.ChangeAt Go.RowKit
open Cod Bits
set_option linter.unusedVariables false

theorem encode_some (w : World) (A : Option Addr) (n c : Nat) (L : List Ins) (hL : L.length = n) (hn : n ≤ 140737488355328) (h : CodeAt w A L) (ht : Tabs w) :
    Calls Tryd.prog 11 #[.slice A n c] w fun e w' => ∃ v at_, e = .returned (.tuple #[v, .int .i64 at_, .int .i64 (checkL L 0).2]) ∧ Below w.heap.size w w' := by
  by_cases h0 : (checkL L 0).2 = 0
  · refine (encode_ok w A n c L hL hn h ht h0).mono ?_
    rintro e w' ⟨v, rfl, _, hB⟩
    exact ⟨v, 0, by rw [h0], hB⟩
  · refine (encode_no w A n c L hL hn h h0).mono ?_
    rintro e w' ⟨rfl, hB⟩
    exact ⟨_, _, rfl, hB⟩
set_option maxHeartbeats 4000000 in
theorem codeUnlike_yes (w : World) (A : Option Addr) (n c : Nat) (L : List Ins) (hL : L.length = n) (hn : n ≤ 140737488355328) (h : CodeAt w A L) (hr : ∀ i ∈ L, i.rng)
    (A' : Option Addr) (n' c' : Nat) (M : List Ins) (hM : M.length = n') (hn' : n' ≤ 140737488355328) (h' : CodeAt w A' M) (hr' : ∀ i ∈ M, i.rng) (ht : Tabs w) (h0 : (checkL L 0).2 = 0) (h1 : (checkL M 0).2 = 0) :
    Calls Tryd.prog 8 #[.slice A n c, .slice A' n' c'] w fun e w' => e = .returned (.bool true) ∧ Below w.heap.size w w' := by
  have gL := good_all h0 hr
  have gM := good_all h1 hr'
  have lL : L.length ≤ 4096 := (check_ok L 0 h0).2.1 (by omega) |> fun h => by omega
  have lM : M.length ≤ 4096 := (check_ok M 0 h1).2.1 (by omega) |> fun h => by omega
  have hd : decide (encB L = encB M) = decide (L = M) := by
    by_cases e : L = M
    · rw [e]; simp
    · rw [decide_eq_false e, decide_eq_false (fun x => e (encB_inj gL gM lL lM x))]
  have HK := Lib.hid (known_any w ht)
  have HE := Lib.hid (fun w1 (hB : Below w.heap.size w w1) => encode_ok w1 A n c L hL hn (h.below hB) (ht.below hB) h0)
  have HF := Lib.hid (fun w1 (hB : Below w.heap.size w w1) => encode_ok w1 A' n' c' M hM hn' (h'.below hB) (ht.below hB) h1)
  have HS := Lib.hid (fun w1 (hB : Below w.heap.size w w1) => same_both w1 A n c A' n' c' L M hL hM (by omega) (h.below hB) (h'.below hB))
  have HBL := Lib.hid (encB_bytes L gL)
  have HBM := Lib.hid (encB_bytes M gM)
  have HQ := Lib.hid hd
  clear h h' hr hr' ht h0 h1 gL gM hd
  go_enter Tryd.func8, Tryd.ntmps8
  go_wp2_with fail
  refine HK.out.mono ?_
  rintro e w1 ⟨rfl, hB1⟩
  have HE1 := Lib.hid (HE.out w1 hB1)
  have HB1 := Lib.hid hB1
  clear HE HK hB1
  go_wp2_with fail
  go_at_call 11
  refine HE1.out.mono ?_
  rintro e w2 ⟨v, rfl, hown, hB2⟩
  have hb2 := HB1.out.trans (hB2.mono HB1.out.size)
  have HF1 := Lib.hid (HF.out w2 hb2)
  obtain ⟨A2, c2, rfl, hlf⟩ := ownB_left hown HBL.out
  have HLF := Lib.hid hlf
  have HB2 := Lib.hid hb2
  clear hown hlf hb2 hB2 HB1 HE1 HF
  go_wp2_with fail
  go_at_call 11
  refine HF1.out.mono ?_
  rintro e w3 ⟨v3, rfl, hown, hB3⟩
  have hb3 := HB2.out.trans (hB3.mono HB2.out.size)
  obtain ⟨A3, c3, rfl, hlf3⟩ := ownB_left hown HBM.out
  have HSB := Lib.hid (sameBytes_both w3 A2 (encB L).length c2 A3 (encB M).length c3 (encB L) (encB M) rfl rfl (HLF.out.up hB3).bytes hlf3.bytes HBL.out HBM.out)
  rw [HQ.out] at HSB
  have HS1 := Lib.hid (HS.out w3 hb3)
  have HB3 := Lib.hid hb3
  clear hown hlf3 hb3 hB3 HB2 HF1 HLF HS HQ
  generalize (encB L).length = l1 at *
  generalize (encB M).length = l2 at *
  generalize decide (L = M) = d at *
  go_wp2_with fail
  go_at_call 16
  refine HSB.out.mono ?_
  rintro e w4 ⟨rfl, rfl⟩
  go_wp2_with fail
  go_at_call 15
  refine HS1.out.mono ?_
  rintro e w5 ⟨rfl, hB5⟩
  have HB5 := Lib.hid (HB3.out.trans (hB5.mono HB3.out.size))
  clear hB5 HB3 HS1 HSB
  go_wp2_with fail
  go_ret
  exact ⟨by simp, HB5.out⟩
set_option maxHeartbeats 4000000 in
theorem codeUnlike_no (w : World) (A : Option Addr) (n c : Nat) (L : List Ins) (hL : L.length = n) (hn : n ≤ 140737488355328) (h : CodeAt w A L)
    (A' : Option Addr) (n' c' : Nat) (M : List Ins) (hM : M.length = n') (hn' : n' ≤ 140737488355328) (h' : CodeAt w A' M) (ht : Tabs w) (h0 : ¬ ((checkL L 0).2 = 0 ∧ (checkL M 0).2 = 0)) :
    Calls Tryd.prog 8 #[.slice A n c, .slice A' n' c'] w fun e w' => e = .returned (.bool true) ∧ Below w.heap.size w w' := by
  have HK := Lib.hid (known_any w ht)
  have HE := Lib.hid (fun w1 (hB : Below w.heap.size w w1) => encode_some w1 A n c L hL hn (h.below hB) (ht.below hB))
  have HF := Lib.hid (fun w1 (hB : Below w.heap.size w w1) => encode_some w1 A' n' c' M hM hn' (h'.below hB) (ht.below hB))
  have HS := Lib.hid (fun w1 (hB : Below w.heap.size w w1) => same_both w1 A n c A' n' c' L M hL hM (by omega) (h.below hB) (h'.below hB))
  have hxy : decide (L = M) = true → ((checkL L 0).2 == (checkL M 0).2) = true := fun e => by rw [of_decide_eq_true e]; simp
  clear h h' ht hL hM
  generalize decide (L = M) = d at *
  generalize (checkL L 0).2 = x at *
  generalize (checkL M 0).2 = y at *
  have arms : ((x != 0) = true ∨ ((x != 0) = false ∧ (y != 0) = true)) ∧ (d = false ∨ d = true ∧ (x == y) = true) := by
    constructor
    · by_cases e : x = 0
      · refine .inr ⟨by simp [e], ?_⟩
        rw [bne_iff_ne]; exact fun f => h0 ⟨e, f⟩
      · exact .inl (by rw [bne_iff_ne]; exact e)
    · cases d
      · exact .inl rfl
      · exact .inr ⟨rfl, hxy rfl⟩
  clear hxy h0
  obtain ⟨a1, a2⟩ := arms
  rcases a1 with a1 | ⟨a1, b1⟩ <;> rcases a2 with rfl | ⟨rfl, b2⟩
  all_goals
    go_enter Tryd.func8, Tryd.ntmps8
    go_wp2_with fail
    refine HK.out.mono ?_
    rintro e w1 ⟨rfl, hB1⟩
    have HE1 := Lib.hid (HE.out w1 hB1)
    have HB1 := Lib.hid hB1
    clear HE HK hB1
    go_wp2_with fail
    go_at_call 11
    refine HE1.out.mono ?_
    rintro e w2 ⟨v, at1, rfl, hB2⟩
    have hb2 := HB1.out.trans (hB2.mono HB1.out.size)
    have HF1 := Lib.hid (HF.out w2 hb2)
    have HB2 := Lib.hid hb2
    clear hb2 hB2 HB1 HE1 HF
    go_wp2_with fail
    go_at_call 11
    refine HF1.out.mono ?_
    rintro e w3 ⟨v3, at3, rfl, hB3⟩
    have hb3 := HB2.out.trans (hB3.mono HB2.out.size)
    have HS1 := Lib.hid (HS.out w3 hb3)
    have HB3 := Lib.hid hb3
    clear hb3 hB3 HB2 HF1 HS
    go_wp2_with fail
    go_at_call 15
    refine HS1.out.mono ?_
    rintro e w5 ⟨rfl, hB5⟩
    have HB5 := Lib.hid (HB3.out.trans (hB5.mono HB3.out.size))
    clear hB5 HB3 HS1
    go_wp2_with fail
    go_ret
    exact ⟨rfl, HB5.out⟩
theorem codeUnlike_walk (w : World) (A : Option Addr) (n c : Nat) (L : List Ins) (hL : L.length = n) (hn : n ≤ 140737488355328) (h : CodeAt w A L) (hr : ∀ i ∈ L, i.rng)
    (A' : Option Addr) (n' c' : Nat) (M : List Ins) (hM : M.length = n') (hn' : n' ≤ 140737488355328) (h' : CodeAt w A' M) (hr' : ∀ i ∈ M, i.rng) (ht : Tabs w) :
    Calls Tryd.prog 8 #[.slice A n c, .slice A' n' c'] w fun e w' => e = .returned (.bool true) ∧ Below w.heap.size w w' := by
  by_cases h0 : (checkL L 0).2 = 0 ∧ (checkL M 0).2 = 0
  · exact codeUnlike_yes w A n c L hL hn h hr A' n' c' M hM hn' h' hr' ht h0.1 h0.2
  · exact codeUnlike_no w A n c L hL hn h A' n' c' M hM hn' h' ht h0
end Go.Proofs.YtkpmhkoicdglbaaDoor
