/- less and same: rows of bits held against each other. -/
import Derived.Test.YtjhgjplhhhgfcaaOwnI
namespace Go.Proofs.Ytjhgjplhhhgfcaa
open Go.ChangeShapes Go.WideShapes Go.ChangeAt Go.RowKit
open Bits
set_option linter.unusedVariables false

theorem valL_split (L : List Int) (k : Nat) (h : k < L.length) : valL L = valL (L.take k) + 2 ^ k * (L[k]?.getD 0 + 2 * valL (L.drop (k + 1))) := by
  have e : L = L.take k ++ (L[k]?.getD 0 :: L.drop (k + 1)) := by
    rw [List.getElem?_eq_getElem h]
    show L = L.take k ++ (L[k] :: L.drop (k + 1))
    rw [← List.drop_eq_getElem_cons h, List.take_append_drop]
  have h2 : valL L = valL (L.take k ++ (L[k]?.getD 0 :: L.drop (k + 1))) := congrArg valL e
  rw [valL_append, List.length_take, Nat.min_eq_left (Nat.le_of_lt h), valL] at h2
  exact h2
theorem bit_take {L : List Int} (h : Bit L) (k : Nat) : Bit (L.take k) := fun x hx => h x (List.mem_of_mem_take hx)
theorem bit_at {L : List Int} (h : Bit L) (k : Nat) : L[k]?.getD 0 = 0 ∨ L[k]?.getD 0 = 1 := by
  rcases Nat.lt_or_ge k L.length with hk | hk
  · rw [List.getElem?_eq_getElem hk]; exact h _ (List.getElem_mem hk)
  · rw [List.getElem?_eq_none hk]; exact .inl rfl

/-- from the first place from above where two rows part, which is less -/
theorem valL_part {A B : List Int} (ha : Bit A) (hb : Bit B) (k : Nat) (hA : k < A.length) (hB : k < B.length) (hd : A.drop (k + 1) = B.drop (k + 1)) (hne : A[k]?.getD 0 ≠ B[k]?.getD 0) :
    (valL A < valL B ↔ A[k]?.getD 0 < B[k]?.getD 0) := by
  rw [valL_split A k hA, valL_split B k hB, hd]
  have h1 := valL_nonneg (bit_take ha k)
  have h2 := valL_nonneg (bit_take hb k)
  rw [List.length_take, Nat.min_eq_left (Nat.le_of_lt hA)] at h1
  rw [List.length_take, Nat.min_eq_left (Nat.le_of_lt hB)] at h2
  have h3 := bit_at ha k
  have h4 := bit_at hb k
  generalize A[k]?.getD 0 = x at *
  generalize B[k]?.getD 0 = y at *
  generalize valL (A.take k) = p at *
  generalize valL (B.take k) = q at *
  generalize valL (B.drop (k + 1)) = z at *
  generalize (2 : Int) ^ k = P at *
  rw [Int.mul_add, Int.mul_add]
  rcases h3 with rfl | rfl <;> rcases h4 with rfl | rfl
  · exact absurd rfl hne
  · simp only [Int.mul_zero, Int.mul_one]; omega
  · simp only [Int.mul_zero, Int.mul_one]; omega
  · exact absurd rfl hne
theorem drop_step {A B : List Int} (k : Nat) (hA : k < A.length) (hB : k < B.length) (hd : A.drop (k + 1) = B.drop (k + 1)) (he : A[k]?.getD 0 = B[k]?.getD 0) : A.drop k = B.drop k := by
  rw [List.drop_eq_getElem_cons hA, List.drop_eq_getElem_cons hB, hd]
  rw [List.getElem?_eq_getElem hA, List.getElem?_eq_getElem hB] at he
  have he' : A[k] = B[k] := he
  rw [he']

set_option maxHeartbeats 2000000 in
theorem less_65 (P Q : Option Addr) (c d n : Nat) (A B : List Int) (w : World) (hA : A.length = n) (hB : B.length = n) (hn : n ≤ 65) (ba : Bit A) (bb : Bit B) (ha : IntsAt w P A) (hb : IntsAt w Q B) :
    Calls Try.prog 70 #[.slice P n c, .slice Q n d] w fun e w' => e = .returned (.bool (decide (valL A < valL B))) ∧ ∃ m, w' = w.drewN m := by
  go_enter Try.func70, Try.ntmps70
  have HA := Lib.hid hA
  have HB := Lib.hid hB
  go_wp2_with fail
  go_loopw [5] (fun i wr => ∃ k : Nat, k ≤ n ∧ i = .int .i64 ((k : Int) - 1) ∧ A.drop k = B.drop k ∧ ∃ m, wr = w.drewN m) (fun i _ => (intOf i + 1).toNat)
  case atStart => exact ⟨n, Nat.le_refl _, rfl, by rw [List.drop_of_length_le (by omega), List.drop_of_length_le (by omega)], 0, rfl⟩
  case round =>
    obtain ⟨k, hk, rfl, hd, m, rfl⟩ := hrel
    have HD := Lib.hid hd
    clear hd
    rcases k with _ | k
    · rw [show (((0 : Nat) : Int) - 1) = -1 by omega]
      clear hA hB
      go_wp2_with fail
      go_ret
      refine ⟨?_, m, rfl⟩
      have e : A = B := by simpa using HD.out
      rw [e]; simp
    · rw [show (((k + 1 : Nat) : Int) - 1) = (k : Int) by omega]
      obtain ⟨b1, o1, rfl, hb1, hc1⟩ := ha (by omega)
      obtain ⟨b2, o2, rfl, hb2, hc2⟩ := hb (by omega)
      have hx := hc1 k (by omega)
      have hy := hc2 k (by omega)
      have hp := Lib.hid (valL_part ba bb k (by omega) (by omega) HD.out)
      have hs := Lib.hid (drop_step (A := A) (B := B) k (by omega) (by omega) HD.out)
      clear hA hB hc1 hc2 ha hb HD
      generalize A[k]?.getD 0 = x at *
      generalize B[k]?.getD 0 = y at *
      by_cases hxy : x = y
      · have t : (x != y) = false := by simp [hxy]
        have HS := Lib.hid (hs.out hxy)
        clear hs hp hxy
        go_wp2_with fail
        go_quiet (fail)
        go_wp2_with fail
        go_roundw
        case rel => exact ⟨k, by omega, rfl, HS.out, _, rfl⟩
        case measure => simp [intOf]
      · have t : (x != y) = true := by simp [hxy]
        have HP := Lib.hid (hp.out hxy)
        clear hs hp hxy
        go_wp2_with fail
        go_quiet (fail)
        go_wp2_with fail
        go_quiet (fail)
        go_wp2_with fail
        go_ret
        refine ⟨?_, _, by rw [World.drewN_drewN, World.drewN_drewN]⟩
        refine congrArg (fun v => Ending.returned (.bool v)) ?_
        rw [decide_eq_decide]
        exact HP.out.symm

theorem less_any (P Q : Option Addr) (c d n : Nat) (A B : List Int) (w : World) (hA : A.length = n) (hB : B.length = n) (hn : n ≤ 64) (ba : Bit A) (bb : Bit B) (ha : IntsAt w P A) (hb : IntsAt w Q B) :
    Calls Try.prog 70 #[.slice P n c, .slice Q n d] w fun e w' => e = .returned (.bool (decide (valL A < valL B))) ∧ ∃ m, w' = w.drewN m := less_65 P Q c d n A B w hA hB (by omega) ba bb ha hb

/-- same: whether two rows are one number -/
theorem less_m (P Q : Option Addr) (c d n : Nat) (A B : List Int) (w : World) (m : Nat) (hA : A.length = n) (hB : B.length = n) (hn : n ≤ 64) (ba : Bit A) (bb : Bit B) (ha : IntsAt w P A) (hb : IntsAt w Q B) :
    Calls Try.prog 70 #[.slice P n c, .slice Q n d] (w.drewN m) fun e w' => e = .returned (.bool (decide (valL A < valL B))) ∧ ∃ m, w' = w.drewN m :=
  (less_any P Q c d n A B (w.drewN m) hA hB hn ba bb ha hb).mono fun _ _ ⟨h1, m', h2⟩ => ⟨h1, m + m', by rw [h2, World.drewN_drewN]⟩

set_option maxHeartbeats 2000000 in
theorem same_any (P Q : Option Addr) (c d n : Nat) (A B : List Int) (w : World) (hA : A.length = n) (hB : B.length = n) (hn : n ≤ 64) (ba : Bit A) (bb : Bit B) (ha : IntsAt w P A) (hb : IntsAt w Q B) :
    Calls Try.prog 55 #[.slice P n c, .slice Q n d] w fun e w' => e = .returned (.bool (decide (valL A = valL B))) ∧ ∃ m, w' = w.drewN m := by
  by_cases h1 : valL A < valL B
  · have t1 : decide (valL A < valL B) = true := by simp [h1]
    have HF := Lib.hid (show decide (valL A = valL B) = false by simp; omega)
    have C1 := Lib.hid (less_any P Q c d n A B w hA hB hn ba bb ha hb)
    clear hA hB h1
    go_enter Try.func55, Try.ntmps55
    go_wp2_with fail
    refine C1.out.mono ?_
    rintro e w1 ⟨rfl, m1, rfl⟩
    go_wp2_with fail
    go_ret
    exact ⟨by rw [HF.out]; rfl, m1, rfl⟩
  · have t1 : decide (valL A < valL B) = false := by simp [h1]
    have HF := Lib.hid (show decide (valL A = valL B) = !decide (valL B < valL A) by rw [Bool.eq_iff_iff]; simp; omega)
    have C1 := Lib.hid (less_any P Q c d n A B w hA hB hn ba bb ha hb)
    have C2 := Lib.hid (fun m => less_m Q P d c n B A w m hB hA hn bb ba hb ha)
    clear hA hB h1
    go_enter Try.func55, Try.ntmps55
    go_wp2_with fail
    refine C1.out.mono ?_
    rintro e w1 ⟨rfl, m1, rfl⟩
    go_wp2_with fail
    refine (C2.out _).mono ?_
    rintro e w1 ⟨rfl, m2, rfl⟩
    go_wp2_with fail
    go_ret
    exact ⟨by rw [HF.out]; rfl, m2, rfl⟩
end Go.Proofs.Ytjhgjplhhhgfcaa
