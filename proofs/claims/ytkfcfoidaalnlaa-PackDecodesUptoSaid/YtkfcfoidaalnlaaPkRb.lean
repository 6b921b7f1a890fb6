/- Package pack: the document's own sum: the exclusive or made bit by bit. -/
import Derived.Test.YtkfcfoidaalnlaaPkRa
namespace Go.Proofs.Ytkfcfoidaalnlaa.Pak
open Go.ChangeShapes Go.WideShapes Go.ChangeAt Go.RowKit
set_option linter.unusedVariables false
set_option linter.unusedSimpArgs false
set_option maxRecDepth 100000
theorem bit_mod (X k : Nat) : X % 2 ^ (k + 1) = X % 2 ^ k + 2 ^ k * (X / 2 ^ k % 2) := by
  rw [Nat.pow_succ, Nat.mod_mul]
theorem xor_bit (a y k : Nat) : (a ^^^ y) / 2 ^ k % 2 = (a / 2 ^ k % 2 + y / 2 ^ k % 2) % 2 := by
  have h := Nat.testBit_xor a y k
  simp only [Nat.testBit_eq_decide_div_mod_eq] at h
  have h1 : a / 2 ^ k % 2 < 2 := Nat.mod_lt _ (by decide)
  have h2 : y / 2 ^ k % 2 < 2 := Nat.mod_lt _ (by decide)
  have h3 : (a ^^^ y) / 2 ^ k % 2 < 2 := Nat.mod_lt _ (by decide)
  generalize a / 2 ^ k % 2 = p at *
  generalize y / 2 ^ k % 2 = q at *
  generalize (a ^^^ y) / 2 ^ k % 2 = r at *
  rcases (show p = 0 ∨ p = 1 by omega) with rfl | rfl <;> rcases (show q = 0 ∨ q = 1 by omega) with rfl | rfl <;> rcases (show r = 0 ∨ r = 1 by omega) with rfl | rfl <;> simp_all
theorem xor_low (s y : Nat) (hy : y < 256) : s ^^^ y = s - s % 256 + (s % 256 ^^^ y) := by
  have h1 : (s ^^^ y) % 256 = s % 256 ^^^ y := by
    have := Nat.xor_mod_two_pow (a := s) (b := y) (n := 8)
    rw [show (2 : Nat) ^ 8 = 256 from rfl, Nat.mod_eq_of_lt hy] at this
    exact this
  have h2 : (s ^^^ y) / 256 = s / 256 := by
    have := Nat.xor_div_two_pow (a := s) (b := y) (n := 8)
    rw [show (2 : Nat) ^ 8 = 256 from rfl, Nat.div_eq_of_lt hy, Nat.xor_zero] at this
    exact this
  have h3 := Nat.div_add_mod (s ^^^ y) 256
  rw [h1, h2] at h3
  have h4 := Nat.div_add_mod s 256
  omega
theorem and1 (m : Nat) : bits BinOp.and IntKind.i64 (m : Int) 1 = ((m % 2 : Nat) : Int) := by
  have h : (BitVec.ofInt 64 (m : Int) &&& BitVec.ofInt 64 1).toNat = m % 2 := by
    rw [BitVec.toNat_and, BitVec.toNat_ofInt, show (BitVec.ofInt 64 1).toNat = 1 from rfl, Nat.and_one_is_mod]
    have : ((m : Int) % ((2 ^ 64 : Nat) : Int)).toNat = m % 18446744073709551616 := by omega
    rw [this]
    omega
  show IntKind.i64.wrap (((BitVec.ofInt 64 (m : Int) &&& BitVec.ofInt 64 1).toNat : Nat) : Int) = _
  rw [h]
  exact IntWalk.i64_in _ (by omega)
set_option maxHeartbeats 4000000 in
theorem rsum_any (w : World) (A : Option Addr) (n c : Nat) (L : List Int) (hL : L.length = n) (hn : n ≤ 1152921504606846976) (hB : Bytes L) (h : BytesAt w A L) :
    Calls Try.prog 28 #[.slice A n c] w (RetB w (.int .i64 (sumN L))) := by
  have HL := Lib.hid hL
  have HB := Lib.hid hB
  have HA := Lib.hid h
  clear hL h hB
  go_enter Try.func28, Try.ntmps28
  go_wp2_with fail
  go_loopw [3, 4, 5, 6, 7, 8, 9, 10, 11, 12, 13, 14, 15, 16, 17, 18, 19, 20, 21, 22, 23, 24, 25, 26, 27, 28, 29, 30, 31, 32, 33, 34, 35, 36, 37, 38, 39, 40, 41, 42, 43] (fun a3 a4 _ _ _ _ _ _ _ _ _ _ _ _ _ _ _ _ _ _ _ _ _ _ _ _ _ _ _ _ _ _ _ _ _ _ _ _ _ _ _ wr => ∃ (j s : Nat), a3 = .int .i64 s ∧ a4 = .int .i64 j ∧ j ≤ n ∧ s < 4294967296 ∧ Hid (sumF s (L.drop j) = sumN L) ∧ Below w.heap.size w wr) (fun _ a4 _ _ _ _ _ _ _ _ _ _ _ _ _ _ _ _ _ _ _ _ _ _ _ _ _ _ _ _ _ _ _ _ _ _ _ _ _ _ _ _ => (n - (intOf a4)).toNat)
  case atStart => exact ⟨0, 2166136261, rfl, rfl, Nat.zero_le _, by decide, Lib.hid rfl, Below.refl _ _⟩
  case round =>
    obtain ⟨j, s, rfl, rfl, hj, hs, HE, hBl⟩ := hrel
    have HW := Lib.hid hBl
    clear hBl
    by_cases hlt : j < n
    · have hlt' : (j : Int) < n := by omega
      obtain ⟨x, hx, hdr⟩ := drop_cons (l := L) (j := j) (by have := HL.out; omega)
      rw [hdr] at HE
      have hxb := HB.out x (List.mem_of_getElem? hx)
      obtain ⟨b, off, rfl, hbl, hcell⟩ := (HA.out.below HW.out) (by have := HL.out; omega)
      have x0 := hcell j (by have := HL.out; omega)
      rw [hx] at x0
      obtain ⟨y, rfl⟩ : ∃ y : Nat, x = y := ⟨x.toNat, by have := hxb.1; omega⟩
      have hy : y < 256 := by have := hxb.2; omega
      have HE' := Lib.hid (show sumF (stepS s (y : Int)) (L.drop (j + 1)) = sumN L from HE.out)
      clear hcell hx hdr hxb HE
      obtain ⟨a, ha⟩ : ∃ a, a = s % 256 := ⟨_, rfl⟩
      have ha2 : a < 256 := by omega
      have hai : (s : Int) % 256 = (a : Int) := by omega
      have HAA := Lib.hid ha
      clear ha
      obtain ⟨wo, rfl⟩ : ∃ u, u = wr := ⟨_, rfl⟩
      have x0' : wo.cell? ⟨b, off + j, none⟩ = some (.int .u8 (y : Int)) := x0
      clear x0
      go_upto_region 7 with fail
      rw [hai]
      obtain ⟨u5, hu5⟩ : ∃ u : Nat, u = a := ⟨_, rfl⟩
      go_wp2_with fail
      go_loopw [6, 7, 16, 17, 18, 19, 20, 21, 22, 23, 24, 25, 26, 27, 28, 29, 30, 31, 32, 33, 34, 35, 36] (fun a6 a7 _ _ _ _ _ _ _ _ _ _ _ _ _ _ _ _ _ _ _ _ _ wr => ∃ (k z : Nat), a6 = .int .i64 z ∧ a7 = .int .i64 k ∧ k ≤ 8 ∧ Hid (z = (a ^^^ y) % 2 ^ k) ∧ Below wo.heap.size wo wr) (fun _ a7 _ _ _ _ _ _ _ _ _ _ _ _ _ _ _ _ _ _ _ _ _ _ => (8 - (intOf a7)).toNat)
      case atStart => exact ⟨0, 0, rfl, rfl, by decide, Lib.hid (by rw [Nat.pow_zero, Nat.mod_one]), Below.refl _ _⟩
      case round =>
        obtain ⟨k, z, rfl, rfl, hk, HZ, hB2⟩ := hrel
        have HB2 := Lib.hid hB2
        clear hB2
        have hxl := Nat.xor_lt_two_pow (n := 8) (x := a) (y := y) ha2 hy
        by_cases hk8 : k < 8
        · have hk8' : (k : Int) < 8 := by omega
          have x1 : wr.cell? ⟨b, off + j, none⟩ = some (.int .u8 (y : Int)) := (cell_same (HB2.out.block b hbl) _).trans x0'
          rcases (show k = 0 ∨ k = 1 ∨ k = 2 ∨ k = 3 ∨ k = 4 ∨ k = 5 ∨ k = 6 ∨ k = 7 by omega) with rfl | rfl | rfl | rfl | rfl | rfl | rfl | rfl
          · obtain ⟨pa, hpa⟩ : ∃ u, u = a / 1 % 2 := ⟨_, rfl⟩
            obtain ⟨py, hpy⟩ : ∃ u, u = y / 1 % 2 := ⟨_, rfl⟩
            have hA : bits BinOp.and IntKind.i64 (a : Int) 1 = (pa : Int) := by
              have h1 := and1 (a / 1)
              rw [← hpa] at h1
              rw [← h1]
              first | done | rfl | (congr 1; omega)
            have hY : bits BinOp.and IntKind.i64 (y : Int) 1 = (py : Int) := by
              have h1 := and1 (y / 1)
              rw [← hpy] at h1
              rw [← h1]
              first | done | rfl | (congr 1; omega)
            have HS := Lib.hid (show (a ^^^ y) % 2 ^ 1 = z + 1 * ((pa + py) % 2) by
              have h1 := bit_mod (a ^^^ y) 0
              rw [xor_bit, ← HZ.out, show (2 : Nat) ^ 0 = 1 from rfl, ← hpa, ← hpy] at h1
              exact h1)
            have hpa2 : pa < 2 := by omega
            have hpy2 : py < 2 := by omega
            have hz2 : z ≤ 256 := by
              have h1 := HZ.out
              have h2 := Nat.mod_le (a ^^^ y) (2 ^ 0)
              omega
            clear hpa hpy HZ hxl
            by_cases hd : pa = py
            · have td : ((pa : Int) != (py : Int)) = false := by rw [hd]; simp
              have HS2 := Lib.hid (show z = (a ^^^ y) % 2 ^ 1 by have h1 := HS.out; rw [show (pa + py) % 2 = 0 by omega] at h1; omega)
              clear hd HS hpa2 hpy2
              go_upto_region 10 with fail
              go_quiet (fail)
              obtain ⟨w7, hw7⟩ : ∃ u, u = wr.drewN nq := ⟨_, rfl⟩
              have HB7 := Lib.hid (show Below wo.heap.size wo w7 by rw [hw7]; exact below_drewN HB2.out nq)
              rw [← hw7]
              clear hw7 hA hY x1
              go_wp2_with fail
              go_roundw
              case rel => exact ⟨1, z, by go_num, by go_num, by decide, HS2, HB7.out⟩
              case measure => simp [intOf]
            · have td : ((pa : Int) != (py : Int)) = true := by rw [bne_iff_ne]; omega
              have HS2 := Lib.hid (show z + 1 = (a ^^^ y) % 2 ^ 1 by have h1 := HS.out; rw [show (pa + py) % 2 = 1 by omega] at h1; omega)
              clear hd HS hpa2 hpy2
              go_upto_region 10 with fail
              go_quiet (fail)
              obtain ⟨w7, hw7⟩ : ∃ u, u = wr.drewN nq := ⟨_, rfl⟩
              have HB7 := Lib.hid (show Below wo.heap.size wo w7 by rw [hw7]; exact below_drewN HB2.out nq)
              rw [← hw7]
              clear hw7 hA hY x1
              go_wp2_with fail
              go_roundw
              case rel => exact ⟨1, z + 1, by go_num, by go_num, by decide, HS2, HB7.out⟩
              case measure => simp [intOf]
          · obtain ⟨pa, hpa⟩ : ∃ u, u = a / 2 % 2 := ⟨_, rfl⟩
            obtain ⟨py, hpy⟩ : ∃ u, u = y / 2 % 2 := ⟨_, rfl⟩
            have hA : bits BinOp.and IntKind.i64 ((a : Int) / 2) 1 = (pa : Int) := by
              have h1 := and1 (a / 2)
              rw [← hpa] at h1
              rw [← h1]
              first | done | rfl | (congr 1; omega)
            have hY : bits BinOp.and IntKind.i64 ((y : Int) / 2) 1 = (py : Int) := by
              have h1 := and1 (y / 2)
              rw [← hpy] at h1
              rw [← h1]
              first | done | rfl | (congr 1; omega)
            have HS := Lib.hid (show (a ^^^ y) % 2 ^ 2 = z + 2 * ((pa + py) % 2) by
              have h1 := bit_mod (a ^^^ y) 1
              rw [xor_bit, ← HZ.out, show (2 : Nat) ^ 1 = 2 from rfl, ← hpa, ← hpy] at h1
              exact h1)
            have hpa2 : pa < 2 := by omega
            have hpy2 : py < 2 := by omega
            have hz2 : z ≤ 256 := by
              have h1 := HZ.out
              have h2 := Nat.mod_le (a ^^^ y) (2 ^ 1)
              omega
            clear hpa hpy HZ hxl
            by_cases hd : pa = py
            · have td : ((pa : Int) != (py : Int)) = false := by rw [hd]; simp
              have HS2 := Lib.hid (show z = (a ^^^ y) % 2 ^ 2 by have h1 := HS.out; rw [show (pa + py) % 2 = 0 by omega] at h1; omega)
              clear hd HS hpa2 hpy2
              go_upto_region 10 with fail
              go_quiet (fail)
              obtain ⟨w7, hw7⟩ : ∃ u, u = wr.drewN nq := ⟨_, rfl⟩
              have HB7 := Lib.hid (show Below wo.heap.size wo w7 by rw [hw7]; exact below_drewN HB2.out nq)
              rw [← hw7]
              clear hw7 hA hY x1
              go_wp2_with fail
              go_roundw
              case rel => exact ⟨2, z, by go_num, by go_num, by decide, HS2, HB7.out⟩
              case measure => simp [intOf]
            · have td : ((pa : Int) != (py : Int)) = true := by rw [bne_iff_ne]; omega
              have HS2 := Lib.hid (show z + 2 = (a ^^^ y) % 2 ^ 2 by have h1 := HS.out; rw [show (pa + py) % 2 = 1 by omega] at h1; omega)
              clear hd HS hpa2 hpy2
              go_upto_region 10 with fail
              go_quiet (fail)
              obtain ⟨w7, hw7⟩ : ∃ u, u = wr.drewN nq := ⟨_, rfl⟩
              have HB7 := Lib.hid (show Below wo.heap.size wo w7 by rw [hw7]; exact below_drewN HB2.out nq)
              rw [← hw7]
              clear hw7 hA hY x1
              go_wp2_with fail
              go_roundw
              case rel => exact ⟨2, z + 2, by go_num, by go_num, by decide, HS2, HB7.out⟩
              case measure => simp [intOf]
          · obtain ⟨pa, hpa⟩ : ∃ u, u = a / 4 % 2 := ⟨_, rfl⟩
            obtain ⟨py, hpy⟩ : ∃ u, u = y / 4 % 2 := ⟨_, rfl⟩
            have hA : bits BinOp.and IntKind.i64 ((a : Int) / 4) 1 = (pa : Int) := by
              have h1 := and1 (a / 4)
              rw [← hpa] at h1
              rw [← h1]
              first | done | rfl | (congr 1; omega)
            have hY : bits BinOp.and IntKind.i64 ((y : Int) / 4) 1 = (py : Int) := by
              have h1 := and1 (y / 4)
              rw [← hpy] at h1
              rw [← h1]
              first | done | rfl | (congr 1; omega)
            have HS := Lib.hid (show (a ^^^ y) % 2 ^ 3 = z + 4 * ((pa + py) % 2) by
              have h1 := bit_mod (a ^^^ y) 2
              rw [xor_bit, ← HZ.out, show (2 : Nat) ^ 2 = 4 from rfl, ← hpa, ← hpy] at h1
              exact h1)
            have hpa2 : pa < 2 := by omega
            have hpy2 : py < 2 := by omega
            have hz2 : z ≤ 256 := by
              have h1 := HZ.out
              have h2 := Nat.mod_le (a ^^^ y) (2 ^ 2)
              omega
            clear hpa hpy HZ hxl
            by_cases hd : pa = py
            · have td : ((pa : Int) != (py : Int)) = false := by rw [hd]; simp
              have HS2 := Lib.hid (show z = (a ^^^ y) % 2 ^ 3 by have h1 := HS.out; rw [show (pa + py) % 2 = 0 by omega] at h1; omega)
              clear hd HS hpa2 hpy2
              go_upto_region 10 with fail
              go_quiet (fail)
              obtain ⟨w7, hw7⟩ : ∃ u, u = wr.drewN nq := ⟨_, rfl⟩
              have HB7 := Lib.hid (show Below wo.heap.size wo w7 by rw [hw7]; exact below_drewN HB2.out nq)
              rw [← hw7]
              clear hw7 hA hY x1
              go_wp2_with fail
              go_roundw
              case rel => exact ⟨3, z, by go_num, by go_num, by decide, HS2, HB7.out⟩
              case measure => simp [intOf]
            · have td : ((pa : Int) != (py : Int)) = true := by rw [bne_iff_ne]; omega
              have HS2 := Lib.hid (show z + 4 = (a ^^^ y) % 2 ^ 3 by have h1 := HS.out; rw [show (pa + py) % 2 = 1 by omega] at h1; omega)
              clear hd HS hpa2 hpy2
              go_upto_region 10 with fail
              go_quiet (fail)
              obtain ⟨w7, hw7⟩ : ∃ u, u = wr.drewN nq := ⟨_, rfl⟩
              have HB7 := Lib.hid (show Below wo.heap.size wo w7 by rw [hw7]; exact below_drewN HB2.out nq)
              rw [← hw7]
              clear hw7 hA hY x1
              go_wp2_with fail
              go_roundw
              case rel => exact ⟨3, z + 4, by go_num, by go_num, by decide, HS2, HB7.out⟩
              case measure => simp [intOf]
          · obtain ⟨pa, hpa⟩ : ∃ u, u = a / 8 % 2 := ⟨_, rfl⟩
            obtain ⟨py, hpy⟩ : ∃ u, u = y / 8 % 2 := ⟨_, rfl⟩
            have hA : bits BinOp.and IntKind.i64 ((a : Int) / 8) 1 = (pa : Int) := by
              have h1 := and1 (a / 8)
              rw [← hpa] at h1
              rw [← h1]
              first | done | rfl | (congr 1; omega)
            have hY : bits BinOp.and IntKind.i64 ((y : Int) / 8) 1 = (py : Int) := by
              have h1 := and1 (y / 8)
              rw [← hpy] at h1
              rw [← h1]
              first | done | rfl | (congr 1; omega)
            have HS := Lib.hid (show (a ^^^ y) % 2 ^ 4 = z + 8 * ((pa + py) % 2) by
              have h1 := bit_mod (a ^^^ y) 3
              rw [xor_bit, ← HZ.out, show (2 : Nat) ^ 3 = 8 from rfl, ← hpa, ← hpy] at h1
              exact h1)
            have hpa2 : pa < 2 := by omega
            have hpy2 : py < 2 := by omega
            have hz2 : z ≤ 256 := by
              have h1 := HZ.out
              have h2 := Nat.mod_le (a ^^^ y) (2 ^ 3)
              omega
            clear hpa hpy HZ hxl
            by_cases hd : pa = py
            · have td : ((pa : Int) != (py : Int)) = false := by rw [hd]; simp
              have HS2 := Lib.hid (show z = (a ^^^ y) % 2 ^ 4 by have h1 := HS.out; rw [show (pa + py) % 2 = 0 by omega] at h1; omega)
              clear hd HS hpa2 hpy2
              go_upto_region 10 with fail
              go_quiet (fail)
              obtain ⟨w7, hw7⟩ : ∃ u, u = wr.drewN nq := ⟨_, rfl⟩
              have HB7 := Lib.hid (show Below wo.heap.size wo w7 by rw [hw7]; exact below_drewN HB2.out nq)
              rw [← hw7]
              clear hw7 hA hY x1
              go_wp2_with fail
              go_roundw
              case rel => exact ⟨4, z, by go_num, by go_num, by decide, HS2, HB7.out⟩
              case measure => simp [intOf]
            · have td : ((pa : Int) != (py : Int)) = true := by rw [bne_iff_ne]; omega
              have HS2 := Lib.hid (show z + 8 = (a ^^^ y) % 2 ^ 4 by have h1 := HS.out; rw [show (pa + py) % 2 = 1 by omega] at h1; omega)
              clear hd HS hpa2 hpy2
              go_upto_region 10 with fail
              go_quiet (fail)
              obtain ⟨w7, hw7⟩ : ∃ u, u = wr.drewN nq := ⟨_, rfl⟩
              have HB7 := Lib.hid (show Below wo.heap.size wo w7 by rw [hw7]; exact below_drewN HB2.out nq)
              rw [← hw7]
              clear hw7 hA hY x1
              go_wp2_with fail
              go_roundw
              case rel => exact ⟨4, z + 8, by go_num, by go_num, by decide, HS2, HB7.out⟩
              case measure => simp [intOf]
          · obtain ⟨pa, hpa⟩ : ∃ u, u = a / 16 % 2 := ⟨_, rfl⟩
            obtain ⟨py, hpy⟩ : ∃ u, u = y / 16 % 2 := ⟨_, rfl⟩
            have hA : bits BinOp.and IntKind.i64 ((a : Int) / 16) 1 = (pa : Int) := by
              have h1 := and1 (a / 16)
              rw [← hpa] at h1
              rw [← h1]
              first | done | rfl | (congr 1; omega)
            have hY : bits BinOp.and IntKind.i64 ((y : Int) / 16) 1 = (py : Int) := by
              have h1 := and1 (y / 16)
              rw [← hpy] at h1
              rw [← h1]
              first | done | rfl | (congr 1; omega)
            have HS := Lib.hid (show (a ^^^ y) % 2 ^ 5 = z + 16 * ((pa + py) % 2) by
              have h1 := bit_mod (a ^^^ y) 4
              rw [xor_bit, ← HZ.out, show (2 : Nat) ^ 4 = 16 from rfl, ← hpa, ← hpy] at h1
              exact h1)
            have hpa2 : pa < 2 := by omega
            have hpy2 : py < 2 := by omega
            have hz2 : z ≤ 256 := by
              have h1 := HZ.out
              have h2 := Nat.mod_le (a ^^^ y) (2 ^ 4)
              omega
            clear hpa hpy HZ hxl
            by_cases hd : pa = py
            · have td : ((pa : Int) != (py : Int)) = false := by rw [hd]; simp
              have HS2 := Lib.hid (show z = (a ^^^ y) % 2 ^ 5 by have h1 := HS.out; rw [show (pa + py) % 2 = 0 by omega] at h1; omega)
              clear hd HS hpa2 hpy2
              go_upto_region 10 with fail
              go_quiet (fail)
              obtain ⟨w7, hw7⟩ : ∃ u, u = wr.drewN nq := ⟨_, rfl⟩
              have HB7 := Lib.hid (show Below wo.heap.size wo w7 by rw [hw7]; exact below_drewN HB2.out nq)
              rw [← hw7]
              clear hw7 hA hY x1
              go_wp2_with fail
              go_roundw
              case rel => exact ⟨5, z, by go_num, by go_num, by decide, HS2, HB7.out⟩
              case measure => simp [intOf]
            · have td : ((pa : Int) != (py : Int)) = true := by rw [bne_iff_ne]; omega
              have HS2 := Lib.hid (show z + 16 = (a ^^^ y) % 2 ^ 5 by have h1 := HS.out; rw [show (pa + py) % 2 = 1 by omega] at h1; omega)
              clear hd HS hpa2 hpy2
              go_upto_region 10 with fail
              go_quiet (fail)
              obtain ⟨w7, hw7⟩ : ∃ u, u = wr.drewN nq := ⟨_, rfl⟩
              have HB7 := Lib.hid (show Below wo.heap.size wo w7 by rw [hw7]; exact below_drewN HB2.out nq)
              rw [← hw7]
              clear hw7 hA hY x1
              go_wp2_with fail
              go_roundw
              case rel => exact ⟨5, z + 16, by go_num, by go_num, by decide, HS2, HB7.out⟩
              case measure => simp [intOf]
          · obtain ⟨pa, hpa⟩ : ∃ u, u = a / 32 % 2 := ⟨_, rfl⟩
            obtain ⟨py, hpy⟩ : ∃ u, u = y / 32 % 2 := ⟨_, rfl⟩
            have hA : bits BinOp.and IntKind.i64 ((a : Int) / 32) 1 = (pa : Int) := by
              have h1 := and1 (a / 32)
              rw [← hpa] at h1
              rw [← h1]
              first | done | rfl | (congr 1; omega)
            have hY : bits BinOp.and IntKind.i64 ((y : Int) / 32) 1 = (py : Int) := by
              have h1 := and1 (y / 32)
              rw [← hpy] at h1
              rw [← h1]
              first | done | rfl | (congr 1; omega)
            have HS := Lib.hid (show (a ^^^ y) % 2 ^ 6 = z + 32 * ((pa + py) % 2) by
              have h1 := bit_mod (a ^^^ y) 5
              rw [xor_bit, ← HZ.out, show (2 : Nat) ^ 5 = 32 from rfl, ← hpa, ← hpy] at h1
              exact h1)
            have hpa2 : pa < 2 := by omega
            have hpy2 : py < 2 := by omega
            have hz2 : z ≤ 256 := by
              have h1 := HZ.out
              have h2 := Nat.mod_le (a ^^^ y) (2 ^ 5)
              omega
            clear hpa hpy HZ hxl
            by_cases hd : pa = py
            · have td : ((pa : Int) != (py : Int)) = false := by rw [hd]; simp
              have HS2 := Lib.hid (show z = (a ^^^ y) % 2 ^ 6 by have h1 := HS.out; rw [show (pa + py) % 2 = 0 by omega] at h1; omega)
              clear hd HS hpa2 hpy2
              go_upto_region 10 with fail
              go_quiet (fail)
              obtain ⟨w7, hw7⟩ : ∃ u, u = wr.drewN nq := ⟨_, rfl⟩
              have HB7 := Lib.hid (show Below wo.heap.size wo w7 by rw [hw7]; exact below_drewN HB2.out nq)
              rw [← hw7]
              clear hw7 hA hY x1
              go_wp2_with fail
              go_roundw
              case rel => exact ⟨6, z, by go_num, by go_num, by decide, HS2, HB7.out⟩
              case measure => simp [intOf]
            · have td : ((pa : Int) != (py : Int)) = true := by rw [bne_iff_ne]; omega
              have HS2 := Lib.hid (show z + 32 = (a ^^^ y) % 2 ^ 6 by have h1 := HS.out; rw [show (pa + py) % 2 = 1 by omega] at h1; omega)
              clear hd HS hpa2 hpy2
              go_upto_region 10 with fail
              go_quiet (fail)
              obtain ⟨w7, hw7⟩ : ∃ u, u = wr.drewN nq := ⟨_, rfl⟩
              have HB7 := Lib.hid (show Below wo.heap.size wo w7 by rw [hw7]; exact below_drewN HB2.out nq)
              rw [← hw7]
              clear hw7 hA hY x1
              go_wp2_with fail
              go_roundw
              case rel => exact ⟨6, z + 32, by go_num, by go_num, by decide, HS2, HB7.out⟩
              case measure => simp [intOf]
          · obtain ⟨pa, hpa⟩ : ∃ u, u = a / 64 % 2 := ⟨_, rfl⟩
            obtain ⟨py, hpy⟩ : ∃ u, u = y / 64 % 2 := ⟨_, rfl⟩
            have hA : bits BinOp.and IntKind.i64 ((a : Int) / 64) 1 = (pa : Int) := by
              have h1 := and1 (a / 64)
              rw [← hpa] at h1
              rw [← h1]
              first | done | rfl | (congr 1; omega)
            have hY : bits BinOp.and IntKind.i64 ((y : Int) / 64) 1 = (py : Int) := by
              have h1 := and1 (y / 64)
              rw [← hpy] at h1
              rw [← h1]
              first | done | rfl | (congr 1; omega)
            have HS := Lib.hid (show (a ^^^ y) % 2 ^ 7 = z + 64 * ((pa + py) % 2) by
              have h1 := bit_mod (a ^^^ y) 6
              rw [xor_bit, ← HZ.out, show (2 : Nat) ^ 6 = 64 from rfl, ← hpa, ← hpy] at h1
              exact h1)
            have hpa2 : pa < 2 := by omega
            have hpy2 : py < 2 := by omega
            have hz2 : z ≤ 256 := by
              have h1 := HZ.out
              have h2 := Nat.mod_le (a ^^^ y) (2 ^ 6)
              omega
            clear hpa hpy HZ hxl
            by_cases hd : pa = py
            · have td : ((pa : Int) != (py : Int)) = false := by rw [hd]; simp
              have HS2 := Lib.hid (show z = (a ^^^ y) % 2 ^ 7 by have h1 := HS.out; rw [show (pa + py) % 2 = 0 by omega] at h1; omega)
              clear hd HS hpa2 hpy2
              go_upto_region 10 with fail
              go_quiet (fail)
              obtain ⟨w7, hw7⟩ : ∃ u, u = wr.drewN nq := ⟨_, rfl⟩
              have HB7 := Lib.hid (show Below wo.heap.size wo w7 by rw [hw7]; exact below_drewN HB2.out nq)
              rw [← hw7]
              clear hw7 hA hY x1
              go_wp2_with fail
              go_roundw
              case rel => exact ⟨7, z, by go_num, by go_num, by decide, HS2, HB7.out⟩
              case measure => simp [intOf]
            · have td : ((pa : Int) != (py : Int)) = true := by rw [bne_iff_ne]; omega
              have HS2 := Lib.hid (show z + 64 = (a ^^^ y) % 2 ^ 7 by have h1 := HS.out; rw [show (pa + py) % 2 = 1 by omega] at h1; omega)
              clear hd HS hpa2 hpy2
              go_upto_region 10 with fail
              go_quiet (fail)
              obtain ⟨w7, hw7⟩ : ∃ u, u = wr.drewN nq := ⟨_, rfl⟩
              have HB7 := Lib.hid (show Below wo.heap.size wo w7 by rw [hw7]; exact below_drewN HB2.out nq)
              rw [← hw7]
              clear hw7 hA hY x1
              go_wp2_with fail
              go_roundw
              case rel => exact ⟨7, z + 64, by go_num, by go_num, by decide, HS2, HB7.out⟩
              case measure => simp [intOf]
          · obtain ⟨pa, hpa⟩ : ∃ u, u = a / 128 % 2 := ⟨_, rfl⟩
            obtain ⟨py, hpy⟩ : ∃ u, u = y / 128 % 2 := ⟨_, rfl⟩
            have hA : bits BinOp.and IntKind.i64 ((a : Int) / 128) 1 = (pa : Int) := by
              have h1 := and1 (a / 128)
              rw [← hpa] at h1
              rw [← h1]
              first | done | rfl | (congr 1; omega)
            have hY : bits BinOp.and IntKind.i64 ((y : Int) / 128) 1 = (py : Int) := by
              have h1 := and1 (y / 128)
              rw [← hpy] at h1
              rw [← h1]
              first | done | rfl | (congr 1; omega)
            have HS := Lib.hid (show (a ^^^ y) % 2 ^ 8 = z + 128 * ((pa + py) % 2) by
              have h1 := bit_mod (a ^^^ y) 7
              rw [xor_bit, ← HZ.out, show (2 : Nat) ^ 7 = 128 from rfl, ← hpa, ← hpy] at h1
              exact h1)
            have hpa2 : pa < 2 := by omega
            have hpy2 : py < 2 := by omega
            have hz2 : z ≤ 256 := by
              have h1 := HZ.out
              have h2 := Nat.mod_le (a ^^^ y) (2 ^ 7)
              omega
            clear hpa hpy HZ hxl
            by_cases hd : pa = py
            · have td : ((pa : Int) != (py : Int)) = false := by rw [hd]; simp
              have HS2 := Lib.hid (show z = (a ^^^ y) % 2 ^ 8 by have h1 := HS.out; rw [show (pa + py) % 2 = 0 by omega] at h1; omega)
              clear hd HS hpa2 hpy2
              go_upto_region 10 with fail
              go_quiet (fail)
              obtain ⟨w7, hw7⟩ : ∃ u, u = wr.drewN nq := ⟨_, rfl⟩
              have HB7 := Lib.hid (show Below wo.heap.size wo w7 by rw [hw7]; exact below_drewN HB2.out nq)
              rw [← hw7]
              clear hw7 hA hY x1
              go_wp2_with fail
              go_roundw
              case rel => exact ⟨8, z, by go_num, by go_num, by decide, HS2, HB7.out⟩
              case measure => simp [intOf]
            · have td : ((pa : Int) != (py : Int)) = true := by rw [bne_iff_ne]; omega
              have HS2 := Lib.hid (show z + 128 = (a ^^^ y) % 2 ^ 8 by have h1 := HS.out; rw [show (pa + py) % 2 = 1 by omega] at h1; omega)
              clear hd HS hpa2 hpy2
              go_upto_region 10 with fail
              go_quiet (fail)
              obtain ⟨w7, hw7⟩ : ∃ u, u = wr.drewN nq := ⟨_, rfl⟩
              have HB7 := Lib.hid (show Below wo.heap.size wo w7 by rw [hw7]; exact below_drewN HB2.out nq)
              rw [← hw7]
              clear hw7 hA hY x1
              go_wp2_with fail
              go_roundw
              case rel => exact ⟨8, z + 128, by go_num, by go_num, by decide, HS2, HB7.out⟩
              case measure => simp [intOf]
        · obtain rfl : k = 8 := by omega
          have hz : z = a ^^^ y := by rw [HZ.out]; exact Nat.mod_eq_of_lt hxl
          have hzl : z < 256 := by rw [hz]; exact hxl
          have hsa : a ≤ s := by rw [HAA.out]; omega
          have HST := Lib.hid (show stepS s (y : Int) = (s - a + z) * 16777619 % 4294967296 by
            unfold stepS
            rw [Int.toNat_natCast, xor_low s y hy, ← HAA.out, hz])
          have hst : ((s : Int) - a + z) * 16777619 % 4294967296 = (((s - a + z) * 16777619 % 4294967296 : Nat) : Int) := by omega
          clear hk8 hz HZ
          go_wp2_with fail
          go_roundw
          case rel => exact ⟨j + 1, (s - a + z) * 16777619 % 4294967296, by rw [hst], by go_num, by omega, Nat.mod_lt _ (by decide), Lib.hid (by rw [← HST.out]; exact HE'.out), HW.out.trans (HB2.out.mono HW.out.size)⟩
          case measure => simp [intOf]; omega
    · obtain rfl : j = n := by omega
      have HV := Lib.hid (show s = sumN L by have h1 := HE.out; rw [List.drop_of_length_le (by have := HL.out; omega)] at h1; exact h1)
      clear hlt HA HE
      go_wp2_with fail
      go_ret
      exact ⟨by rw [HV.out]; rfl, HW.out⟩
end Go.Proofs.Ytkfcfoidaalnlaa.Pak
