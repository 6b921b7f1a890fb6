/- SpanLoads: its walk. -/
import Derived.Test.YtjhgjplhhhgfcaaSpV
import Derived.Test.YtjhgjplhhhgfcaaSpW
import Derived.Test.YtjhgjplhhhgfcaaRefGet
import Derived.Deep.RegionHeld3
namespace Go.Proofs.Ytjhgjplhhhgfcaa
open Go.ChangeShapes Go.WideShapes Go.ChangeAt Go.RowKit
open Bits Spn Spc
set_option linter.unusedVariables false
set_option maxRecDepth 100000
theorem getV_f {L : List Int} (h1 : 1 ≤ L.length) (h8 : L.length ≤ 8) : getV L false = wrap64 (valB L) := by unfold getV; rw [if_neg (by omega), if_neg Bool.false_ne_true]
theorem getV_t {L : List Int} (h1 : 1 ≤ L.length) (h8 : L.length ≤ 8) : getV L true = sx (8 * L.length) (valB L) := by unfold getV; rw [if_neg (by omega), if_pos rfl]
theorem within_at {l h v : Int} (h1 : l ≤ v) (h2 : v ≤ h) : withinB ⟨v, v⟩ ⟨l, h⟩ = true := within_of ⟨h1, h2⟩
theorem bytesX_1 (g : Bool) : rd (bytesX 1 g) = if g then ⟨-128, 127⟩ else ⟨0, 255⟩ := by cases g <;> kernel_rfl
theorem bytesX_2 (g : Bool) : rd (bytesX 2 g) = if g then ⟨-32768, 32767⟩ else ⟨0, 65535⟩ := by cases g <;> kernel_rfl
theorem bytesX_4 (g : Bool) : rd (bytesX 4 g) = if g then ⟨-2147483648, 2147483647⟩ else ⟨0, 4294967295⟩ := by cases g <;> kernel_rfl
theorem bytesX_no (k : Int) (g : Bool) (h1 : k ≠ 1) (h2 : k ≠ 2) (h4 : k ≠ 4) : bytesX k g = fullS := by unfold bytesX; rw [if_neg h1, if_neg h2, if_neg h4]
theorem getV_64 {L : List Int} (g : Bool) (h1 : 1 ≤ L.length) (h8 : L.length ≤ 8) : I64 (getV L g) := by
  cases g
  · rw [getV_f h1 h8]; exact w64_in _
  · rw [getV_t h1 h8]
    have := sx_rng64 (8 * L.length) (by omega) (by omega) (valB L)
    generalize sx (8 * L.length) (valB L) = z at *
    unfold I64 LEAST TOP
    omega
theorem load_has (L : List Int) (g : Bool) (hb : Byt L) (h1 : 1 ≤ L.length) (h8 : L.length ≤ 8) : withinB ⟨getV L g, getV L g⟩ (rd (bytesX (L.length : Int) g)) = true := by
  have hr := valB_rng hb
  by_cases e1 : L.length = 1
  · rw [e1] at hr ⊢
    rw [show ((1 : Nat) : Int) = 1 from rfl, bytesX_1]
    cases g
    · rw [getV_f h1 h8]
      have hv : valB L < 256 := hr.2
      rw [IntWalk.wrap64_in _ (by omega)]
      exact within_at hr.1 (by omega)
    · rw [getV_t h1 h8, e1]
      have := sx_rng (8 * 1) (by decide) (valB L)
      generalize sx (8 * 1) (valB L) = z at *
      have h3 : -128 ≤ z ∧ z < 128 := this
      exact within_at h3.1 (by omega)
  by_cases e2 : L.length = 2
  · rw [e2] at hr ⊢
    rw [show ((2 : Nat) : Int) = 2 from rfl, bytesX_2]
    cases g
    · rw [getV_f h1 h8]
      have hv : valB L < 65536 := hr.2
      rw [IntWalk.wrap64_in _ (by omega)]
      exact within_at hr.1 (by omega)
    · rw [getV_t h1 h8, e2]
      have := sx_rng (8 * 2) (by decide) (valB L)
      generalize sx (8 * 2) (valB L) = z at *
      have h3 : -32768 ≤ z ∧ z < 32768 := this
      exact within_at h3.1 (by omega)
  by_cases e4 : L.length = 4
  · rw [e4] at hr ⊢
    rw [show ((4 : Nat) : Int) = 4 from rfl, bytesX_4]
    cases g
    · rw [getV_f h1 h8]
      have hv : valB L < 4294967296 := hr.2
      rw [IntWalk.wrap64_in _ (by omega)]
      exact within_at hr.1 (by omega)
    · rw [getV_t h1 h8, e4]
      have := sx_rng (8 * 4) (by decide) (valB L)
      generalize sx (8 * 4) (valB L) = z at *
      have h3 : -2147483648 ≤ z ∧ z < 2147483648 := this
      exact within_at h3.1 (by omega)
  rw [bytesX_no _ _ (by omega) (by omega) (by omega)]
  exact within_of (full_has _ (getV_64 g h1 h8))
theorem bytes_sound (k : Int) (g : Bool) : soundB (bytesX k g) = true := by
  unfold bytesX
  split
  · cases g <;> rfl
  · split
    · cases g <;> rfl
    · split
      · cases g <;> rfl
      · rfl
set_option maxHeartbeats 4000000 in
theorem spanLoads_walk (w : World) (A : Option Addr) (n c : Nat) (L : List Int) (hL : L.length = n) (hn : n ≤ 140737488351232) (hb : Byt L) (hA : BytesAt w A L) (g : Bool) :
    Calls Try.prog 9 #[.slice A n c, .bool g] w fun e w' => e = .returned (.bool true) ∧ Below w.heap.size w w' := by
  have HAW := Lib.hid (fun w => awake_any w)
  have HF := Lib.hid (fun w => full_any w)
  have hno : ¬ (n = 1 ∨ n = 2 ∨ n = 4) → bytesX (n : Int) g = fullS := fun h => bytesX_no _ _ (by omega) (by omega) (by omega)
  have hgood : 1 ≤ n → n ≤ 8 → withinB ⟨getV L g, getV L g⟩ (rd (bytesX (n : Int) g)) = true := fun h1 h8 => by
    have := load_has L g hb (by omega) (by omega)
    rwa [hL] at this
  have hG : n ≤ 8 → ∀ w', BytesAt w' A L → Calls Try.prog 31 #[.slice A n c, .bool g] w' fun e w'' => e = .returned (.int .i64 (getV L g)) ∧ Below w'.heap.size w' w'' := fun h8 w' h => refGet_yes A n c L g hL h8 hb w' h
  rcases es : bytesX (n : Int) g with ⟨sa, sb, sn, sm⟩
  have hs := bytes_sound (n : Int) g
  rw [es] at hs hno hgood
  have HB := Lib.hid (fun w => bytes_any (n : Int) g sa sb sn sm es w)
  have HS := Lib.hid (fun w => sound_any sa sb sn sm w)
  rw [hs] at HS
  rcases er : rd ⟨sa, sb, sn, sm⟩ with ⟨p1, p2⟩
  rw [er] at hgood
  have HH := Lib.hid (fun w => has_any sa sb sn sm (getV L g) p1 p2 er w)
  have HNO := Lib.hid hno
  have HGD := Lib.hid hgood
  have HG := Lib.hid hG
  have HA := Lib.hid hA
  have hA0 := Lib.hid hA
  clear hs es er hno hgood hG hA
  generalize getV L g = v at *
  rcases (by omega : n = 0 ∨ 8 < n ∨ (1 ≤ n ∧ n ≤ 8)) with h0 | h0 | ⟨h1, h8⟩
  · have e5 := HNO.out (by omega)
    injection e5 with e1 e2 e3 e4
    subst e1 e2 e3 e4
    clear HGD HG HH HA HNO
    have t0 : ((n : Int) == 0) = true := by rw [h0]; rfl
    clear h0
    go_enter Try.func9, Try.ntmps9
    go_wp2_with fail
    refine (HB.out _).mono ?_
    rintro e w1 ⟨rfl, hB⟩
    have S1 := Lib.hid (Blk.new w1 23 #[.int .i64 0, .int .i64 0, .bool true, .bool true])
    have B1 := Lib.hid (nx hB (below_box' w1 (.cells #[.int .i64 0, .int .i64 0, .bool true, .bool true] 23)))
    clear hB HB
    obtain ⟨⟨c0, c1, c2, c3⟩, -, c8⟩ := cells4 S1.out
    go_wp2_with fail
    refine (HS.out _).mono ?_
    rintro e w2 ⟨rfl, hB⟩
    have S2 := Lib.hid (S1.out.up hB)
    have B2 := Lib.hid (nx B1.out hB)
    clear hB S1 B1 c0 c1 c2 c3 c8 HS
    go_wp2_with fail
    refine (HAW.out _).mono ?_
    rintro e w3 ⟨rfl, hB⟩
    have S3 := Lib.hid (S2.out.up hB).drew
    have B3 := Lib.hid (nx B2.out hB).drew
    clear hB S2 B2 HAW
    have K := Lib.hid (fun (w' : World) (hS : Blk w' w1.heap.size 23 #[.int .i64 0, .int .i64 0, .bool true, .bool true]) (hB : Below w.heap.size w w') => (show w'.cell? ⟨w1.heap.size, 0, none⟩ = some (.int .i64 0) ∧ w'.cell? ⟨w1.heap.size, 1, none⟩ = some (.int .i64 0) ∧ w'.cell? ⟨w1.heap.size, 2, none⟩ = some (.bool true) ∧ w'.cell? ⟨w1.heap.size, 3, none⟩ = some (.bool true) ∧ Blk w' w1.heap.size 23 #[.int .i64 0, .int .i64 0, .bool true, .bool true] ∧ Below w.heap.size w w' from by obtain ⟨⟨c0, c1, c2, c3⟩, -, -⟩ := cells4 hS; exact ⟨c0, c1, c2, c3, hS, hB⟩))
    go_wp2_with fail
    go_region_held3 (fun w' => w'.cell? ⟨w1.heap.size, 0, none⟩ = some (.int .i64 0) ∧ w'.cell? ⟨w1.heap.size, 1, none⟩ = some (.int .i64 0) ∧ w'.cell? ⟨w1.heap.size, 2, none⟩ = some (.bool true) ∧ w'.cell? ⟨w1.heap.size, 3, none⟩ = some (.bool true) ∧ Blk w' w1.heap.size 23 #[.int .i64 0, .int .i64 0, .bool true, .bool true] ∧ Below w.heap.size w w')
      (first | with_reducible exact K.out _ S3.out B3.out | with_reducible exact K.out _ S4.out B4.out)
      (first | (go_at_call 11; (with_reducible refine (HF.out _).mono ?_); rintro e w4 ⟨rfl, hB⟩; have S4 := Lib.hid (S3.out.up hB); have B4 := Lib.hid (nx B3.out hB); clear hB))
    all_goals
      rename_i hh
      obtain ⟨-, -, -, -, -, hE⟩ := hh
      have HE := Lib.hid hE
      clear hE
      go_wp2_with fail
      go_ret
      exact ⟨rfl, HE.out⟩
  · have e5 := HNO.out (by omega)
    injection e5 with e1 e2 e3 e4
    subst e1 e2 e3 e4
    clear HGD HG HH HA HNO
    have t0 : ((n : Int) == 0) = false := by rw [beq_eq_false_iff_ne]; omega
    have t8 : decide ((8 : Int) < (n : Int)) = true := decide_eq_true (by omega)
    clear h0
    go_enter Try.func9, Try.ntmps9
    go_wp2_with fail
    refine (HB.out _).mono ?_
    rintro e w1 ⟨rfl, hB⟩
    have S1 := Lib.hid (Blk.new w1 23 #[.int .i64 0, .int .i64 0, .bool true, .bool true])
    have B1 := Lib.hid (nx hB (below_box' w1 (.cells #[.int .i64 0, .int .i64 0, .bool true, .bool true] 23)))
    clear hB HB
    obtain ⟨⟨c0, c1, c2, c3⟩, -, c8⟩ := cells4 S1.out
    go_wp2_with fail
    refine (HS.out _).mono ?_
    rintro e w2 ⟨rfl, hB⟩
    have S2 := Lib.hid (S1.out.up hB)
    have B2 := Lib.hid (nx B1.out hB)
    clear hB S1 B1 c0 c1 c2 c3 c8 HS
    go_wp2_with fail
    refine (HAW.out _).mono ?_
    rintro e w3 ⟨rfl, hB⟩
    have S3 := Lib.hid (S2.out.up hB).drew
    have B3 := Lib.hid (nx B2.out hB).drew
    clear hB S2 B2 HAW
    have K := Lib.hid (fun (w' : World) (hS : Blk w' w1.heap.size 23 #[.int .i64 0, .int .i64 0, .bool true, .bool true]) (hB : Below w.heap.size w w') => (show w'.cell? ⟨w1.heap.size, 0, none⟩ = some (.int .i64 0) ∧ w'.cell? ⟨w1.heap.size, 1, none⟩ = some (.int .i64 0) ∧ w'.cell? ⟨w1.heap.size, 2, none⟩ = some (.bool true) ∧ w'.cell? ⟨w1.heap.size, 3, none⟩ = some (.bool true) ∧ Blk w' w1.heap.size 23 #[.int .i64 0, .int .i64 0, .bool true, .bool true] ∧ Below w.heap.size w w' from by obtain ⟨⟨c0, c1, c2, c3⟩, -, -⟩ := cells4 hS; exact ⟨c0, c1, c2, c3, hS, hB⟩))
    go_wp2_with fail
    go_region_held3 (fun w' => w'.cell? ⟨w1.heap.size, 0, none⟩ = some (.int .i64 0) ∧ w'.cell? ⟨w1.heap.size, 1, none⟩ = some (.int .i64 0) ∧ w'.cell? ⟨w1.heap.size, 2, none⟩ = some (.bool true) ∧ w'.cell? ⟨w1.heap.size, 3, none⟩ = some (.bool true) ∧ Blk w' w1.heap.size 23 #[.int .i64 0, .int .i64 0, .bool true, .bool true] ∧ Below w.heap.size w w')
      (first | with_reducible exact K.out _ S3.out B3.out | with_reducible exact K.out _ S4.out B4.out)
      (first | (go_at_call 11; (with_reducible refine (HF.out _).mono ?_); rintro e w4 ⟨rfl, hB⟩; have S4 := Lib.hid (S3.out.up hB); have B4 := Lib.hid (nx B3.out hB); clear hB))
    all_goals
      rename_i hh
      obtain ⟨-, -, -, -, -, hE⟩ := hh
      have HE := Lib.hid hE
      clear hE
      go_wp2_with fail
      go_ret
      exact ⟨rfl, HE.out⟩
  · have HG2 := Lib.hid (HG.out h8)
    have hx := HGD.out h1 h8
    rw [hx] at HH
    clear HG HGD hx HNO
    have t0 : ((n : Int) == 0) = false := by rw [beq_eq_false_iff_ne]; omega
    have t8 : decide ((8 : Int) < (n : Int)) = false := decide_eq_false (by omega)
    go_enter Try.func9, Try.ntmps9
    go_wp2_with fail
    refine (HB.out _).mono ?_
    rintro e w1 ⟨rfl, hB⟩
    have S1 := Lib.hid (Blk.new w1 23 #[.int .i64 sa, .int .i64 sb, .bool sn, .bool sm])
    have B1 := Lib.hid (nx hB (below_box' w1 (.cells #[.int .i64 sa, .int .i64 sb, .bool sn, .bool sm] 23)))
    clear hB HB
    obtain ⟨⟨c0, c1, c2, c3⟩, -, c8⟩ := cells4 S1.out
    go_wp2_with fail
    refine (HS.out _).mono ?_
    rintro e w2 ⟨rfl, hB⟩
    have S2 := Lib.hid (S1.out.up hB)
    have B2 := Lib.hid (nx B1.out hB)
    clear hB S1 B1 c0 c1 c2 c3 c8 HS
    go_wp2_with fail
    refine (HAW.out _).mono ?_
    rintro e w3 ⟨rfl, hB⟩
    have S3 := Lib.hid (S2.out.up hB).drew
    have B3 := Lib.hid (nx B2.out hB).drew
    clear hB S2 B2 HAW
    have K := Lib.hid (fun (w' : World) (hS : Blk w' w1.heap.size 23 #[.int .i64 sa, .int .i64 sb, .bool sn, .bool sm]) (hB : Below w.heap.size w w') => (show w'.cell? ⟨w1.heap.size, 0, none⟩ = some (.int .i64 sa) ∧ w'.cell? ⟨w1.heap.size, 1, none⟩ = some (.int .i64 sb) ∧ w'.cell? ⟨w1.heap.size, 2, none⟩ = some (.bool sn) ∧ w'.cell? ⟨w1.heap.size, 3, none⟩ = some (.bool sm) ∧ Blk w' w1.heap.size 23 #[.int .i64 sa, .int .i64 sb, .bool sn, .bool sm] ∧ Below w.heap.size w w' from by obtain ⟨⟨c0, c1, c2, c3⟩, -, -⟩ := cells4 hS; exact ⟨c0, c1, c2, c3, hS, hB⟩))
    go_wp2_with fail
    have HA3 := Lib.hid (hA0.out.below B3.out)
    go_region_held3 (fun w' => w'.cell? ⟨w1.heap.size, 0, none⟩ = some (.int .i64 sa) ∧ w'.cell? ⟨w1.heap.size, 1, none⟩ = some (.int .i64 sb) ∧ w'.cell? ⟨w1.heap.size, 2, none⟩ = some (.bool sn) ∧ w'.cell? ⟨w1.heap.size, 3, none⟩ = some (.bool sm) ∧ Blk w' w1.heap.size 23 #[.int .i64 sa, .int .i64 sb, .bool sn, .bool sm] ∧ Below w.heap.size w w')
      (first | with_reducible exact K.out _ S3.out B3.out | with_reducible exact K.out _ S4.out B4.out | with_reducible exact K.out _ S5.out B5.out)
      (first | (go_at_call 31; (with_reducible refine (HG2.out _ HA3.out).mono ?_); rintro e w4 ⟨rfl, hB⟩; have S4 := Lib.hid (S3.out.up hB); have B4 := Lib.hid (nx B3.out hB); clear hB) | (go_at_call 13; (with_reducible refine (HH.out _).mono ?_); rintro e w5 ⟨rfl, hB⟩; have S5 := Lib.hid (S4.out.up hB); have B5 := Lib.hid (nx B4.out hB); clear hB))
    all_goals
      rename_i hh
      obtain ⟨-, -, -, -, -, hE⟩ := hh
      have HE := Lib.hid hE
      clear hE
      go_wp2_with fail
      go_ret
      exact ⟨rfl, HE.out⟩
end Go.Proofs.Ytjhgjplhhhgfcaa
