/- Package shape: tags of registers and slots; what a bound may speak of. -/
import Derived.Test.YtejcijbohnlbgaaZQ
namespace Go.Proofs.Ytejcijbohnlbgaa
open Go.ChangeShapes Go.WideShapes Go.ChangeAt Go.RowKit
open Zon
set_option linter.unusedVariables false
set_option linter.unusedSimpArgs false
set_option maxRecDepth 100000
/-- returns a value; what was there stays -/
def RetV (w : World) (v : Value) (e : Ending) (w' : World) : Prop := e = .returned v ∧ Below w.heap.size w w'
def tgF (T : Nat → Int) : Nat → Value := fun k => .int .i64 (T k)
/-- 42 tags in a block of their own -/
def TgB (w : World) (g : Nat) (T : Nat → Int) : Prop := FB w g 80 126 (tgF T)
theorem TgB.up {w w' : World} {g : Nat} {T : Nat → Int} (h : TgB w g T) (hb : Below w.heap.size w w') : TgB w' g T := FB.up h hb
theorem TgB.cell {w : World} {g : Nat} {T : Nat → Int} (h : TgB w g T) (k : Nat) (hk : k < 126) : w.cell? ⟨g, k, none⟩ = some (.int .i64 (T k)) := FB.cell h k hk
def taggedB (v : Int) : Bool := decide (2 ≤ v) && decide (v < 44)
def valB (T : Nat → Int) (v : Int) : Bool := !taggedB v || (decide (T ((v - 2).toNat * 3) ≠ 0) && decide (T ((v - 2).toNat * 3) ≠ 6))
theorem tagged_any (w : World) (v : Int) : Calls Try.prog 67 #[.int .i64 v] w (RetV w (.bool (taggedB v))) := by
  unfold taggedB
  go_enter Try.func67, Try.ntmps67
  cases h1 : decide (2 ≤ v) <;> cases h2 : decide (v < 44) <;> (go_wp2_with fail; go_ret; exact ⟨rfl, Below.refl _ _⟩)
theorem shVar_any (w : World) (v : Int) : Calls Try.prog 80 #[.int .i64 v] w (RetV w (.bool (varB v))) := by
  unfold varB
  go_enter Try.func80, Try.ntmps80
  cases h1 : decide (0 ≤ v) <;> cases h2 : decide (v < 60) <;> (go_wp2_with fail; go_ret; exact ⟨rfl, Below.refl _ _⟩)
set_option maxHeartbeats 1000000 in
theorem valued_any (w : World) (g : Nat) (T : Nat → Int) (v : Int) (hT : TgB w g T) : Calls Try.prog 83 #[.pointer (some ⟨g, 0, none⟩), .int .i64 v] w (RetV w (.bool (valB T v))) := by
  have HV := Lib.hid (show valB T v = (!taggedB v || (decide (T ((v - 2).toNat * 3) ≠ 0) && decide (T ((v - 2).toNat * 3) ≠ 6))) from rfl)
  have HT := Lib.hid hT
  clear hT
  go_enter Try.func83, Try.ntmps83
  go_wp2_with fail
  go_at_call 67
  refine (tagged_any _ v).mono ?_
  rintro e w1 ⟨rfl, hB⟩
  have HB := Lib.hid hB
  have HT1 := Lib.hid (HT.out.up hB)
  clear hB HT
  cases ht : taggedB v
  · rw [ht] at HV
    have HV1 := Lib.hid (HV.out.trans (by rfl : _ = true))
    go_wp2_with fail
    go_ret
    exact ⟨ret_bool (by rw [HV1.out]), HB.out⟩
  · rw [ht] at HV
    unfold taggedB at ht
    obtain ⟨h1, h2⟩ : 2 ≤ v ∧ v < 44 := by simpa using ht
    clear ht
    obtain ⟨q, hq⟩ : ∃ q : Nat, q = (v - 2).toNat := ⟨_, rfl⟩
    have hqv : v = (q : Int) + 2 := by omega
    have hq42 : q < 42 := by omega
    rw [← hq] at HV
    clear hq h1 h2
    subst hqv
    have hq0 : (0 : Int) ≤ q := by omega
    have hq1 : (q : Int) < 42 := by omega
    have x0 : w1.cell? ⟨g, q * 3, none⟩ = some (.int .i64 (T (q * 3))) := HT1.out.cell (q * 3) (by omega)
    generalize T (q * 3) = k at *
    by_cases e1 : k = 0
    · subst e1
      have HV1 := Lib.hid (show valB T ((q : Int) + 2) = false from HV.out.trans (by rfl))
      clear HV
      go_wp2_with fail
      go_ret
      exact ⟨ret_bool (by rw [HV1.out]), HB.out⟩
    · by_cases e2 : k = 6
      · subst e2
        have HV1 := Lib.hid (show valB T ((q : Int) + 2) = false from HV.out.trans (by rfl))
        clear HV
        go_wp2_with fail
        go_ret
        exact ⟨ret_bool (by rw [HV1.out]), HB.out⟩
      · have HV1 := Lib.hid (show valB T ((q : Int) + 2) = true from HV.out.trans (by rw [decide_eq_true e1, decide_eq_true e2]; rfl))
        have d1 : decide (k = 0) = false := decide_eq_false e1
        have d2 : decide (k = 6) = false := decide_eq_false e2
        clear HV
        go_wp2_with fail
        go_ret
        exact ⟨ret_bool (by rw [HV1.out]; simp [e1, e2]), HB.out⟩
theorem con_box (w : World) (i j c : Int) (t : TypeId) : ConIs (w.alloc (.cells #[.int .i64 i, .int .i64 j, .int .i64 c] t)) w.heap.size 0 ⟨i, j, c⟩ := by
  refine ⟨?_, ?_, ?_⟩ <;> simp [go_sem]
theorem ConIs.upb {w w' : World} {b o : Nat} {x : Con} (h : ConIs w b o x) (hl : b < w.heap.size) (hb : Below w.heap.size w w') : ConIs w' b o x := h.same (hb.block b hl)
set_option maxHeartbeats 1000000 in
theorem allow_any (w : World) (g : Nat) (T : Nat → Int) (i j c : Int) (hT : TgB w g T) : Calls Try.prog 81 #[.pointer (some ⟨g, 0, none⟩), .agg #[.int .i64 i, .int .i64 j, .int .i64 c]] w (RetV w (.bool (valB T i && valB T j))) := by
  obtain ⟨w1, hw1⟩ : ∃ w1, w1 = w.alloc (.cells #[.int .i64 i, .int .i64 j, .int .i64 c] 45) := ⟨_, rfl⟩
  have HC := Lib.hid (show ConIs w1 w.heap.size 0 ⟨i, j, c⟩ by rw [hw1]; exact con_box w i j c _)
  have HB1 := Lib.hid (show Below w.heap.size w w1 by rw [hw1]; exact below_box w _)
  have HS1 := Lib.hid (show w.heap.size < w1.heap.size by rw [hw1]; simp)
  have HT1 := Lib.hid (hT.up HB1.out)
  have HW1 := Lib.hid hw1
  clear hw1 hT
  go_enter Try.func81, Try.ntmps81
  go_upto_region 1 with (fail)
  rw [← HW1.out]
  clear HW1
  obtain ⟨b, hb⟩ : ∃ b, b = w.heap.size := ⟨_, rfl⟩
  rw [← hb] at HC HS1 ⊢
  clear hb
  obtain ⟨c0, c1, c2⟩ := HC.out
  go_wp2_with fail
  go_at_call 83
  refine (valued_any _ g T i HT1.out).mono ?_
  rintro e w2 ⟨rfl, hB⟩
  have HB2 := Lib.hid (HB1.out.trans (hB.mono HB1.out.size))
  have HT2 := Lib.hid (HT1.out.up hB)
  obtain ⟨d0, d1, d2⟩ := HC.out.upb HS1.out hB
  clear hB HT1 c0 c1 c2 HC
  cases h1 : valB T i
  · go_wp2_with fail
    go_ret
    exact ⟨ret_bool (by rw [h1]; rfl), HB2.out⟩
  · go_wp2_with fail
    go_at_call 83
    refine (valued_any _ g T j HT2.out).mono ?_
    rintro e w3 ⟨rfl, hB⟩
    have HB3 := Lib.hid (HB2.out.trans (hB.mono HB2.out.size))
    clear hB
    obtain ⟨vj, hvj⟩ : ∃ vj, vj = valB T j := ⟨_, rfl⟩
    rw [← hvj]
    have HVJ := Lib.hid hvj
    clear hvj
    go_wp2_with fail
    go_ret
    exact ⟨ret_bool (by rw [h1, HVJ.out]; rfl), HB3.out⟩
def shWrong (T : Nat → Int) (x : Con) : Int := if (!(varB x.i && varB x.j) || decide (x.i = x.j)) = true then 50 else if (!(valB T x.i && valB T x.j)) = true then 91 else if (!rngB x.c) = true then 51 else 0
set_option maxHeartbeats 2000000 in
theorem shWrong_any (w : World) (g : Nat) (T : Nat → Int) (i j c : Int) (hT : TgB w g T) : Calls Try.prog 65 #[.pointer (some ⟨g, 0, none⟩), .agg #[.int .i64 i, .int .i64 j, .int .i64 c]] w (RetV w (.int .i64 (shWrong T ⟨i, j, c⟩))) := by
  obtain ⟨w1, hw1⟩ : ∃ w1, w1 = w.alloc (.cells #[.int .i64 i, .int .i64 j, .int .i64 c] 45) := ⟨_, rfl⟩
  have HC1 := Lib.hid (show ConIs w1 w.heap.size 0 ⟨i, j, c⟩ by rw [hw1]; exact con_box w i j c _)
  have HB1 := Lib.hid (show Below w.heap.size w w1 by rw [hw1]; exact below_box w _)
  have HS1 := Lib.hid (show w.heap.size < w1.heap.size by rw [hw1]; simp)
  have HX1 := Lib.hid (Nat.le_refl w1.heap.size)
  have HT1 := Lib.hid (hT.up HB1.out)
  have HW1 := Lib.hid hw1
  clear hw1 hT
  go_enter Try.func65, Try.ntmps65
  go_upto_region 1 with (fail)
  rw [← HW1.out]
  clear HW1
  obtain ⟨b, hb⟩ : ∃ b, b = w.heap.size := ⟨_, rfl⟩
  rw [← hb] at HC1 HS1 ⊢
  clear hb
  obtain ⟨c0, c1, c2⟩ := HC1.out
  cases h1 : varB i
  · have HE := Lib.hid (show shWrong T ⟨i, j, c⟩ = 50 by unfold shWrong; simp only; rw [h1]; rfl)
    go_wp2_with fail
    go_at_call 80
    refine (shVar_any _ i).mono ?_
    rintro e w2 ⟨rfl, hB⟩
    rw [h1]
    have HB2 := Lib.hid (HB1.out.trans (hB.mono HB1.out.size))
    have HT2 := Lib.hid (HT1.out.up hB)
    have HC2 := Lib.hid (HC1.out.upb (Nat.lt_of_lt_of_le HS1.out (HX1.out)) hB)
    have HX2 := Lib.hid (Nat.le_trans HX1.out hB.size)
    clear hB HT1 c0 c1 c2
    obtain ⟨c0, c1, c2⟩ := HC2.out
    clear HC1
    go_wp2_with fail
    go_ret
    exact ⟨by rw [HE.out]; rfl, HB2.out⟩
  cases h2 : varB j
  · have HE := Lib.hid (show shWrong T ⟨i, j, c⟩ = 50 by unfold shWrong; simp only; rw [h1, h2]; rfl)
    go_wp2_with fail
    go_at_call 80
    refine (shVar_any _ i).mono ?_
    rintro e w2 ⟨rfl, hB⟩
    rw [h1]
    have HB2 := Lib.hid (HB1.out.trans (hB.mono HB1.out.size))
    have HT2 := Lib.hid (HT1.out.up hB)
    have HC2 := Lib.hid (HC1.out.upb (Nat.lt_of_lt_of_le HS1.out (HX1.out)) hB)
    have HX2 := Lib.hid (Nat.le_trans HX1.out hB.size)
    clear hB HT1 c0 c1 c2
    obtain ⟨c0, c1, c2⟩ := HC2.out
    clear HC1
    go_wp2_with fail
    go_at_call 80
    refine (shVar_any _ j).mono ?_
    rintro e w3 ⟨rfl, hB⟩
    rw [h2]
    have HB3 := Lib.hid (HB2.out.trans (hB.mono HB2.out.size))
    have HT3 := Lib.hid (HT2.out.up hB)
    have HC3 := Lib.hid (HC2.out.upb (Nat.lt_of_lt_of_le HS1.out (HX2.out)) hB)
    have HX3 := Lib.hid (Nat.le_trans HX2.out hB.size)
    clear hB HT2 c0 c1 c2
    obtain ⟨c0, c1, c2⟩ := HC3.out
    clear HC2
    go_wp2_with fail
    go_ret
    exact ⟨by rw [HE.out]; rfl, HB3.out⟩
  by_cases h3 : i = j
  · subst h3
    have HE := Lib.hid (show shWrong T ⟨i, i, c⟩ = 50 by unfold shWrong; simp only; rw [h1]; simp)
    go_wp2_with fail
    go_at_call 80
    refine (shVar_any _ i).mono ?_
    rintro e w2 ⟨rfl, hB⟩
    rw [h1]
    have HB2 := Lib.hid (HB1.out.trans (hB.mono HB1.out.size))
    have HT2 := Lib.hid (HT1.out.up hB)
    have HC2 := Lib.hid (HC1.out.upb (Nat.lt_of_lt_of_le HS1.out (HX1.out)) hB)
    have HX2 := Lib.hid (Nat.le_trans HX1.out hB.size)
    clear hB HT1 c0 c1 c2
    obtain ⟨c0, c1, c2⟩ := HC2.out
    clear HC1
    go_wp2_with fail
    go_at_call 80
    refine (shVar_any _ i).mono ?_
    rintro e w3 ⟨rfl, hB⟩
    rw [h1]
    have HB3 := Lib.hid (HB2.out.trans (hB.mono HB2.out.size))
    have HT3 := Lib.hid (HT2.out.up hB)
    have HC3 := Lib.hid (HC2.out.upb (Nat.lt_of_lt_of_le HS1.out (HX2.out)) hB)
    have HX3 := Lib.hid (Nat.le_trans HX2.out hB.size)
    clear hB HT2 c0 c1 c2
    obtain ⟨c0, c1, c2⟩ := HC3.out
    clear HC2
    go_wp2_with fail
    go_ret
    exact ⟨by rw [HE.out]; rfl, HB3.out⟩
  have h3d : decide (i = j) = false := decide_eq_false h3
  cases h4 : (valB T i && valB T j)
  · have HE := Lib.hid (show shWrong T ⟨i, j, c⟩ = 91 by unfold shWrong; simp only; rw [h1, h2, decide_eq_false h3, h4]; rfl)
    go_wp2_with fail
    go_at_call 80
    refine (shVar_any _ i).mono ?_
    rintro e w2 ⟨rfl, hB⟩
    rw [h1]
    have HB2 := Lib.hid (HB1.out.trans (hB.mono HB1.out.size))
    have HT2 := Lib.hid (HT1.out.up hB)
    have HC2 := Lib.hid (HC1.out.upb (Nat.lt_of_lt_of_le HS1.out (HX1.out)) hB)
    have HX2 := Lib.hid (Nat.le_trans HX1.out hB.size)
    clear hB HT1 c0 c1 c2
    obtain ⟨c0, c1, c2⟩ := HC2.out
    clear HC1
    go_wp2_with fail
    go_at_call 80
    refine (shVar_any _ j).mono ?_
    rintro e w3 ⟨rfl, hB⟩
    rw [h2]
    have HB3 := Lib.hid (HB2.out.trans (hB.mono HB2.out.size))
    have HT3 := Lib.hid (HT2.out.up hB)
    have HC3 := Lib.hid (HC2.out.upb (Nat.lt_of_lt_of_le HS1.out (HX2.out)) hB)
    have HX3 := Lib.hid (Nat.le_trans HX2.out hB.size)
    clear hB HT2 c0 c1 c2
    obtain ⟨c0, c1, c2⟩ := HC3.out
    clear HC2
    have HC3' := Lib.hid (show ConIs w3 b 0 ⟨i, j, c⟩ from ⟨c0, c1, c2⟩)
    go_wp2_with fail
    go_at_call 81
    refine (allow_any _ g T i j c HT3.out).mono ?_
    rintro e w4 ⟨rfl, hB⟩
    rw [h4]
    have HB4 := Lib.hid (HB3.out.trans (hB.mono HB3.out.size))
    have HC4 := Lib.hid (HC3'.out.upb (Nat.lt_of_lt_of_le HS1.out HX3.out) hB)
    clear hB HT3 c0 c1 c2
    obtain ⟨c0, c1, c2⟩ := HC4.out
    clear HC4
    go_wp2_with fail
    go_ret
    exact ⟨by rw [HE.out]; rfl, HB4.out⟩
  by_cases h5 : c < -1152921504606846976
  · have HE := Lib.hid (show shWrong T ⟨i, j, c⟩ = 51 by unfold shWrong; simp only; rw [h1, h2, decide_eq_false h3, h4, show rngB c = false by unfold rngB; simp; omega]; rfl)
    have f1 : decide (c < -1152921504606846976) = true := decide_eq_true h5
    go_wp2_with fail
    go_at_call 80
    refine (shVar_any _ i).mono ?_
    rintro e w2 ⟨rfl, hB⟩
    rw [h1]
    have HB2 := Lib.hid (HB1.out.trans (hB.mono HB1.out.size))
    have HT2 := Lib.hid (HT1.out.up hB)
    have HC2 := Lib.hid (HC1.out.upb (Nat.lt_of_lt_of_le HS1.out (HX1.out)) hB)
    have HX2 := Lib.hid (Nat.le_trans HX1.out hB.size)
    clear hB HT1 c0 c1 c2
    obtain ⟨c0, c1, c2⟩ := HC2.out
    clear HC1
    go_wp2_with fail
    go_at_call 80
    refine (shVar_any _ j).mono ?_
    rintro e w3 ⟨rfl, hB⟩
    rw [h2]
    have HB3 := Lib.hid (HB2.out.trans (hB.mono HB2.out.size))
    have HT3 := Lib.hid (HT2.out.up hB)
    have HC3 := Lib.hid (HC2.out.upb (Nat.lt_of_lt_of_le HS1.out (HX2.out)) hB)
    have HX3 := Lib.hid (Nat.le_trans HX2.out hB.size)
    clear hB HT2 c0 c1 c2
    obtain ⟨c0, c1, c2⟩ := HC3.out
    clear HC2
    have HC3' := Lib.hid (show ConIs w3 b 0 ⟨i, j, c⟩ from ⟨c0, c1, c2⟩)
    go_wp2_with fail
    go_at_call 81
    refine (allow_any _ g T i j c HT3.out).mono ?_
    rintro e w4 ⟨rfl, hB⟩
    rw [h4]
    have HB4 := Lib.hid (HB3.out.trans (hB.mono HB3.out.size))
    have HC4 := Lib.hid (HC3'.out.upb (Nat.lt_of_lt_of_le HS1.out HX3.out) hB)
    clear hB HT3 c0 c1 c2
    obtain ⟨c0, c1, c2⟩ := HC4.out
    clear HC4
    go_wp2_with fail
    go_ret
    exact ⟨by rw [HE.out]; rfl, HB4.out⟩
  have g177 := h5
  clear h5
  by_cases h5 : 1152921504606846976 < c
  · have HE := Lib.hid (show shWrong T ⟨i, j, c⟩ = 51 by unfold shWrong; simp only; rw [h1, h2, decide_eq_false h3, h4, show rngB c = false by unfold rngB; simp; omega]; rfl)
    have f1 : decide (c < -1152921504606846976) = false := decide_eq_false (by omega)
    have f2 : decide (1152921504606846976 < c) = true := decide_eq_true h5
    go_wp2_with fail
    go_at_call 80
    refine (shVar_any _ i).mono ?_
    rintro e w2 ⟨rfl, hB⟩
    rw [h1]
    have HB2 := Lib.hid (HB1.out.trans (hB.mono HB1.out.size))
    have HT2 := Lib.hid (HT1.out.up hB)
    have HC2 := Lib.hid (HC1.out.upb (Nat.lt_of_lt_of_le HS1.out (HX1.out)) hB)
    have HX2 := Lib.hid (Nat.le_trans HX1.out hB.size)
    clear hB HT1 c0 c1 c2
    obtain ⟨c0, c1, c2⟩ := HC2.out
    clear HC1
    go_wp2_with fail
    go_at_call 80
    refine (shVar_any _ j).mono ?_
    rintro e w3 ⟨rfl, hB⟩
    rw [h2]
    have HB3 := Lib.hid (HB2.out.trans (hB.mono HB2.out.size))
    have HT3 := Lib.hid (HT2.out.up hB)
    have HC3 := Lib.hid (HC2.out.upb (Nat.lt_of_lt_of_le HS1.out (HX2.out)) hB)
    have HX3 := Lib.hid (Nat.le_trans HX2.out hB.size)
    clear hB HT2 c0 c1 c2
    obtain ⟨c0, c1, c2⟩ := HC3.out
    clear HC2
    have HC3' := Lib.hid (show ConIs w3 b 0 ⟨i, j, c⟩ from ⟨c0, c1, c2⟩)
    go_wp2_with fail
    go_at_call 81
    refine (allow_any _ g T i j c HT3.out).mono ?_
    rintro e w4 ⟨rfl, hB⟩
    rw [h4]
    have HB4 := Lib.hid (HB3.out.trans (hB.mono HB3.out.size))
    have HC4 := Lib.hid (HC3'.out.upb (Nat.lt_of_lt_of_le HS1.out HX3.out) hB)
    clear hB HT3 c0 c1 c2
    obtain ⟨c0, c1, c2⟩ := HC4.out
    clear HC4
    go_wp2_with fail
    go_ret
    exact ⟨by rw [HE.out]; rfl, HB4.out⟩
  have g221 := h5
  clear h5
  have HE := Lib.hid (show shWrong T ⟨i, j, c⟩ = 0 by unfold shWrong; simp only; rw [h1, h2, decide_eq_false h3, h4, show rngB c = true by unfold rngB; simp; omega]; rfl)
  have f1 : decide (c < -1152921504606846976) = false := decide_eq_false (by omega)
  have f2 : decide (1152921504606846976 < c) = false := decide_eq_false (by omega)
  go_wp2_with fail
  go_at_call 80
  refine (shVar_any _ i).mono ?_
  rintro e w2 ⟨rfl, hB⟩
  rw [h1]
  have HB2 := Lib.hid (HB1.out.trans (hB.mono HB1.out.size))
  have HT2 := Lib.hid (HT1.out.up hB)
  have HC2 := Lib.hid (HC1.out.upb (Nat.lt_of_lt_of_le HS1.out (HX1.out)) hB)
  have HX2 := Lib.hid (Nat.le_trans HX1.out hB.size)
  clear hB HT1 c0 c1 c2
  obtain ⟨c0, c1, c2⟩ := HC2.out
  clear HC1
  go_wp2_with fail
  go_at_call 80
  refine (shVar_any _ j).mono ?_
  rintro e w3 ⟨rfl, hB⟩
  rw [h2]
  have HB3 := Lib.hid (HB2.out.trans (hB.mono HB2.out.size))
  have HT3 := Lib.hid (HT2.out.up hB)
  have HC3 := Lib.hid (HC2.out.upb (Nat.lt_of_lt_of_le HS1.out (HX2.out)) hB)
  have HX3 := Lib.hid (Nat.le_trans HX2.out hB.size)
  clear hB HT2 c0 c1 c2
  obtain ⟨c0, c1, c2⟩ := HC3.out
  clear HC2
  have HC3' := Lib.hid (show ConIs w3 b 0 ⟨i, j, c⟩ from ⟨c0, c1, c2⟩)
  go_wp2_with fail
  go_at_call 81
  refine (allow_any _ g T i j c HT3.out).mono ?_
  rintro e w4 ⟨rfl, hB⟩
  rw [h4]
  have HB4 := Lib.hid (HB3.out.trans (hB.mono HB3.out.size))
  have HC4 := Lib.hid (HC3'.out.upb (Nat.lt_of_lt_of_le HS1.out HX3.out) hB)
  clear hB HT3 c0 c1 c2
  obtain ⟨c0, c1, c2⟩ := HC4.out
  clear HC4
  go_wp2_with fail
  go_ret
  exact ⟨by rw [HE.out]; rfl, HB4.out⟩
end Go.Proofs.Ytejcijbohnlbgaa
