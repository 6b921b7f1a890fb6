/- SpanSingle: its walk. -/
import Derived.Test.YtjhgjplhhhgfcaaSpV
import Derived.Test.YtjhgjplhhhgfcaaSpY
import Derived.Test.YtjhgjplhhhgfcaaAlusLaw
namespace Go.Proofs.Ytjhgjplhhhgfcaa
open Go.ChangeShapes Go.WideShapes Go.ChangeAt Go.RowKit
open Spn Spc
set_option linter.unusedVariables false
set_option maxRecDepth 100000
theorem aluR_mov (n : Bool) (a b c : Int) (hE : aluE 15 n b = 0) : aluR 15 n a b = aluR 15 n c b := by
  rw [aluR_ok hE, aluR_ok hE]
  cases n
  · rw [aluV_f, aluV_f, wv_15, wv_15]
  · rw [aluV_t, aluV_t, wv_15, wv_15]
theorem aluE_neg (n : Bool) (b : Int) : aluE 14 n b = 0 := aluE_nd n b (by decide) (by decide)
theorem aluR_neg (n : Bool) (a b c : Int) : aluR 14 n a b = aluR 14 n a c := by
  rw [aluR_ok (aluE_neg n b), aluR_ok (aluE_neg n c)]
  cases n
  · rw [aluV_f, aluV_f, wv_14, wv_14]
  · rw [aluV_t, aluV_t, wv_14, wv_14]
theorem sole_one (op : Int) (n : Bool) (x y : Int) (hE : aluE op n y = 0) : soleX op n ⟨x, x⟩ ⟨y, y⟩ = some (aluR op n x y) := by
  unfold soleX
  by_cases h15 : op = 15
  · subst h15
    rw [if_pos rfl, if_neg (show ¬ (15 : Int) = 14 by decide)]
    dsimp only
    rw [if_pos ⟨rfl, rfl⟩, if_pos hE, aluR_mov n y y x hE]
  · rw [if_neg h15]
    by_cases h14 : op = 14
    · subst h14
      rw [if_pos rfl]
      dsimp only
      rw [if_pos ⟨rfl, rfl⟩, if_pos (aluE_neg n x), aluR_neg n x x y]
    · rw [if_neg h14]
      dsimp only
      rw [if_pos ⟨rfl, rfl⟩, if_pos hE]
theorem sp_small {r : Int} (h1 : -MX ≤ r) (h2 : r ≤ MX) : sp ⟨r, r⟩ = ⟨r, r, false, false⟩ := by
  unfold sp
  dsimp only
  rw [if_neg (by omega), if_neg (by omega), decide_eq_false (by omega), decide_eq_false (by omega), show min r MX = r by omega, show max r (-MX) = r by omega]
theorem ofX_small {r : Int} (h1 : -MX ≤ r) (h2 : r ≤ MX) : ofX r r = ⟨r, r, false, false⟩ := by
  unfold ofX
  rw [if_neg (by omega)]
  exact sp_small h1 h2
theorem rd_small {r : Int} (h1 : -MX ≤ r) (h2 : r ≤ MX) : rd ⟨r, r, false, false⟩ = ⟨r, r⟩ := by
  rw [← sp_small h1 h2]
  exact rd_sp_small _ (Int.le_refl _) h1 h2
theorem alu_one (op : Int) (n : Bool) (x y : Int) (hE : aluE op n y = 0) (x1 : -MX ≤ x) (x2 : x ≤ MX) (y1 : -MX ≤ y) (y2 : y ≤ MX) (r1 : -MX ≤ aluR op n x y) (r2 : aluR op n x y ≤ MX) :
    aluS op n ⟨x, x, false, false⟩ ⟨y, y, false, false⟩ = ⟨aluR op n x y, aluR op n x y, false, false⟩ := by
  unfold aluS aluE2
  rw [rd_small x1 x2, rd_small y1 y2, sole_one op n x y hE]
  exact sp_small r1 r2
set_option maxHeartbeats 4000000 in
theorem spanSingle_walk (w : World) (op : Int) (hop : -9223372036854775808 ≤ op ∧ op ≤ 9223372036854775807) (n : Bool) (x : Int) (hx : -9223372036854775808 ≤ x ∧ x ≤ 9223372036854775807) (y : Int) (hy : -9223372036854775808 ≤ y ∧ y ≤ 9223372036854775807) :
    Calls Try.prog 8 #[.int .i64 op, .bool n, .int .i64 x, .int .i64 y] w fun e w' => e = .returned (.bool true) ∧ Below w.heap.size w w' := by
  have HA := Lib.hid (fun w => awake_any w)
  rcases (by unfold MX; omega : x < -1152921504606846976 ∨ 1152921504606846976 < x ∨ (-1152921504606846976 ≤ x ∧ x ≤ 1152921504606846976 ∧ -MX ≤ x ∧ x ≤ MX)) with h1 | h1 | ⟨h1, h2, kx1, kx2⟩
  · clear hop hx hy
    go_enter Try.func8, Try.ntmps8
    go_wp2_with fail
    refine (HA.out _).mono ?_
    rintro e w2 ⟨rfl, hB⟩
    have B2 := Lib.hid hB
    clear hB
    go_wp2_with fail
    go_ret
    exact ⟨rfl, B2.out⟩
  · clear hop hx hy
    go_enter Try.func8, Try.ntmps8
    go_wp2_with fail
    refine (HA.out _).mono ?_
    rintro e w2 ⟨rfl, hB⟩
    have B2 := Lib.hid hB
    clear hB
    go_wp2_with fail
    go_ret
    exact ⟨rfl, B2.out⟩
  rcases (by unfold MX; omega : y < -1152921504606846976 ∨ 1152921504606846976 < y ∨ (-1152921504606846976 ≤ y ∧ y ≤ 1152921504606846976 ∧ -MX ≤ y ∧ y ≤ MX)) with h3 | h3 | ⟨h3, h4, ky1, ky2⟩
  · clear kx1 kx2 hop hx hy
    go_enter Try.func8, Try.ntmps8
    go_wp2_with fail
    refine (HA.out _).mono ?_
    rintro e w2 ⟨rfl, hB⟩
    have B2 := Lib.hid hB
    clear hB
    go_wp2_with fail
    go_ret
    exact ⟨rfl, B2.out⟩
  · clear kx1 kx2 hop hx hy
    go_enter Try.func8, Try.ntmps8
    go_wp2_with fail
    refine (HA.out _).mono ?_
    rintro e w2 ⟨rfl, hB⟩
    have B2 := Lib.hid hB
    clear hB
    go_wp2_with fail
    go_ret
    exact ⟨rfl, B2.out⟩
  have HR := Lib.hid (fun w => refAlu_any op n x y w)
  have HO1 := Lib.hid (fun w => of_any x x x x false false (ofX_small kx1 kx2) w)
  have HO2 := Lib.hid (fun w => of_any y y y y false false (ofX_small ky1 ky2) w)
  have HM := Lib.hid (fun (hE : aluE op n y = 0) (r1 : -MX ≤ aluR op n x y) (r2 : aluR op n x y ≤ MX) w => Alu_any op x x false false y y false false n _ _ _ _ (alu_one op n x y hE kx1 kx2 ky1 ky2 r1 r2) w)
  clear kx1 kx2 ky1 ky2 hop hx hy
  unfold AluPost at HR
  generalize aluR op n x y = r at *
  generalize aluE op n y = er at *
  rcases (by unfold MX; omega : er ≠ 0 ∨ (er = 0 ∧ r < -1152921504606846976) ∨ (er = 0 ∧ 1152921504606846976 < r) ∨ (er = 0 ∧ -1152921504606846976 ≤ r ∧ r ≤ 1152921504606846976 ∧ -MX ≤ r ∧ r ≤ MX)) with h5 | ⟨rfl, h5⟩ | ⟨rfl, h5⟩ | ⟨rfl, h5, h6, k1, k2⟩
  · have t5 : (er == 0) = false := by simpa using h5
    clear HM HO1 HO2
    go_enter Try.func8, Try.ntmps8
    go_wp2_with fail
    refine (HR.out _).mono ?_
    rintro e w1 ⟨rfl, hB⟩
    have B1 := Lib.hid hB
    clear hB
    go_wp2_with fail
    refine (HA.out _).mono ?_
    rintro e w2 ⟨rfl, hB⟩
    have B2 := Lib.hid (nx B1.out hB)
    clear hB
    go_wp2_with fail
    go_ret
    exact ⟨rfl, B2.out⟩
  · clear HM HO1 HO2
    go_enter Try.func8, Try.ntmps8
    go_wp2_with fail
    refine (HR.out _).mono ?_
    rintro e w1 ⟨rfl, hB⟩
    have B1 := Lib.hid hB
    clear hB
    go_wp2_with fail
    refine (HA.out _).mono ?_
    rintro e w2 ⟨rfl, hB⟩
    have B2 := Lib.hid (nx B1.out hB)
    clear hB
    go_wp2_with fail
    go_ret
    exact ⟨rfl, B2.out⟩
  · clear HM HO1 HO2
    go_enter Try.func8, Try.ntmps8
    go_wp2_with fail
    refine (HR.out _).mono ?_
    rintro e w1 ⟨rfl, hB⟩
    have B1 := Lib.hid hB
    clear hB
    go_wp2_with fail
    refine (HA.out _).mono ?_
    rintro e w2 ⟨rfl, hB⟩
    have B2 := Lib.hid (nx B1.out hB)
    clear hB
    go_wp2_with fail
    go_ret
    exact ⟨rfl, B2.out⟩
  · have HM2 := Lib.hid (HM.out rfl k1 k2)
    clear HM k1 k2
    go_enter Try.func8, Try.ntmps8
    go_wp2_with fail
    refine (HR.out _).mono ?_
    rintro e w1 ⟨rfl, hB⟩
    have B1 := Lib.hid hB
    clear hB
    go_wp2_with fail
    refine (HO1.out _).mono ?_
    rintro e w2 ⟨rfl, hB⟩
    have B2 := Lib.hid (nx B1.out hB)
    clear hB B1
    go_wp2_with fail
    refine (HO2.out _).mono ?_
    rintro e w3 ⟨rfl, hB⟩
    have B3 := Lib.hid (nx B2.out hB)
    clear hB B2
    go_wp2_with fail
    refine (HM2.out _).mono ?_
    rintro e w4 ⟨rfl, hB⟩
    have B4 := Lib.hid (nx B3.out hB)
    clear hB B3
    go_wp2_with fail
    refine (HA.out _).mono ?_
    rintro e w5 ⟨rfl, hB⟩
    have B5 := Lib.hid (nx B4.out hB)
    clear hB
    go_wp2_with fail
    go_ret
    exact ⟨rfl, B5.out⟩
end Go.Proofs.Ytjhgjplhhhgfcaa
