/- Package help: contracts of Diff, Find, Mix, and of the document's Diff, Find, Mix. -/
import Derived.Test.YtmdblhgnncfooaaHA
import Derived.Lib.BytesEntry
namespace Go.Proofs.Ytmdblhgnncfooaa
open Go.ChangeShapes Go.WideShapes Go.ChangeAt Go.RowKit
open Bits HM
set_option linter.unusedVariables false
set_option linter.unusedSimpArgs false

theorem u8_nat (x : Int) (hx : 0 ≤ x ∧ x < 256) : x.toNat.toUInt8.toNat = x.toNat := by
  simp; omega
theorem u8_inj (x y : Int) (hx : 0 ≤ x ∧ x < 256) (hy : 0 ≤ y ∧ y < 256) : x.toNat.toUInt8 = y.toNat.toUInt8 ↔ x = y := by
  constructor
  · intro h
    have := congrArg UInt8.toNat h
    rw [u8_nat x hx, u8_nat y hy] at this
    omega
  · rintro rfl; rfl
theorem u8_lt (x y : Int) (hx : 0 ≤ x ∧ x < 256) (hy : 0 ≤ y ∧ y < 256) : x.toNat.toUInt8 < y.toNat.toUInt8 ↔ x < y := by
  rw [UInt8.lt_iff_toNat_lt, u8_nat x hx, u8_nat y hy]
  omega
theorem cmp_diff (a b : List Int) (ha : Byt a) (hb : Byt b) : Lib.compareBytes (Lib.bytesOf a) (Lib.bytesOf b) = diffV a b := by
  induction a generalizing b with
  | nil => cases b <;> rfl
  | cons x a ih =>
    cases b with
    | nil => rfl
    | cons y b =>
      have hx := ha x (by simp)
      have hy := hb y (by simp)
      have h := ih b (fun z hz => ha z (by simp [hz])) (fun z hz => hb z (by simp [hz]))
      show (if x.toNat.toUInt8 < y.toNat.toUInt8 then (-1 : Int) else if y.toNat.toUInt8 < x.toNat.toUInt8 then 1 else Lib.compareBytes (Lib.bytesOf a) (Lib.bytesOf b)) = _
      rw [h, diffV]
      simp only [u8_lt x y hx hy, u8_lt y x hy hx]
theorem idx_place (a : List Int) (c : Int) (ha : Byt a) (hc : 0 ≤ c ∧ c < 256) : Lib.indexByte (Lib.bytesOf a) c.toNat.toUInt8 = findV a c := by
  induction a with
  | nil => rfl
  | cons x a ih =>
    have hx := ha x (by simp)
    have h := ih (fun z hz => ha z (by simp [hz]))
    show (if (x.toNat.toUInt8 == c.toNat.toUInt8) = true then (0 : Int) else if (Lib.indexByte (Lib.bytesOf a) c.toNat.toUInt8 == -1) = true then -1 else Lib.indexByte (Lib.bytesOf a) c.toNat.toUInt8 + 1) = _
    rw [h]
    unfold findV
    rw [placeN]
    by_cases e : x = c
    · rw [if_pos (by rw [e]; simp), if_pos e, if_pos (by simp)]; rfl
    · rw [if_neg (by rw [beq_iff_eq, u8_inj x c hx hc]; exact e), if_neg e]
      simp only [List.length_cons, Nat.add_lt_add_iff_right]
      have := placeN_le a c
      split
      · rw [if_neg (by simp)]; rfl
      · rw [if_pos (by simp)]

theorem bytes_load (w : World) (A : Option Addr) (n c : Nat) (L : List Int) (hL : L.length = n) (h : BytesAt w A L) :
    (Extern.Bytes.bytesOf (.slice A n c)).run Try.prog w = .ok ⟨(Lib.bytesOf L).toArray⟩ w := by
  rcases A with _ | ⟨b, off, p⟩
  · have hn : L = [] := by
      rcases Nat.eq_zero_or_pos L.length with h0 | h0
      · exact List.eq_nil_of_length_eq_zero h0
      · obtain ⟨b, off, e, _⟩ := h h0; cases e
    subst hn
    rfl
  · have hl := Lib.run_loadBytesX (P := Try.prog) w L ⟨b, off, p⟩ .empty (fun j x hj => by
      have hjl : j < L.length := (List.getElem?_eq_some_iff.1 hj).1
      obtain ⟨b', off', e, hlt, hc⟩ := h (by omega)
      injection e with e
      rw [e]
      have e2 : (⟨b', off', none⟩ : Addr).add j = ⟨b', off' + j, none⟩ := by unfold Addr.add; split <;> simp_all
      rw [e2, hc j hjl, hj]
      rfl)
    rw [hL] at hl
    have he : (⟨ByteArray.empty.data ++ (Lib.bytesOf L).toArray⟩ : ByteArray) = ⟨(Lib.bytesOf L).toArray⟩ := by
      apply ByteArray.ext
      show (#[] : Array UInt8) ++ (Lib.bytesOf L).toArray = (Lib.bytesOf L).toArray
      simp
    rw [he] at hl
    exact hl
theorem compare_run (w : World) (A B : Option Addr) (n m c d : Nat) (L M : List Int) (hL : L.length = n) (hM : M.length = m) (ha : BytesAt w A L) (hb : BytesAt w B M) (hl : Byt L) (hm : Byt M) :
    (callFunc 48 #[.slice A n c, .slice B m d]).run Try.prog w = .ok (.value (.int .i64 (diffV L M))) w := by
  rw [run_callFunc_extern Try.func48 (by kernel_rfl) (by kernel_rfl) (by kernel_rfl) (e := Extern.BytealgCompare.compare) (by kernel_rfl)]
  have h1 := bytes_load w A n c L hL ha
  have h2 := bytes_load w B m d M hM hb
  have h3 : (Extern.BytealgCompare.compare #[.slice A n c, .slice B m d]).run Try.prog w = .ok (.int .i64 (diffV L M)) w := by
    change Sem.run Try.prog (do pure (goInt (Extern.BytealgCompare.cmp (← Extern.Bytes.bytesOf (.slice A n c)) (← Extern.Bytes.bytesOf (.slice B m d))))) w = _
    simp only [Sem.run_bind, Sem.run_pure, h1, h2, Result.andThen]
    rw [Lib.cmp_eq]
    show Result.ok (Value.int .i64 (Lib.compareBytes (Lib.bytesOf L) (Lib.bytesOf M))) w = _
    rw [cmp_diff L M hl hm]
  rw [h3]
  rfl
theorem index_run (w : World) (A : Option Addr) (n c : Nat) (L : List Int) (x : Int) (hL : L.length = n) (ha : BytesAt w A L) (hl : Byt L) (hx : 0 ≤ x ∧ x < 256) :
    (callFunc 49 #[.slice A n c, .int .u8 x]).run Try.prog w = .ok (.value (.int .i64 (findV L x))) w := by
  rw [run_callFunc_extern Try.func49 (by kernel_rfl) (by kernel_rfl) (by kernel_rfl) (e := Extern.BytealgIndexByte.indexByte) (by kernel_rfl)]
  have h3 : (Extern.BytealgIndexByte.indexByte #[.slice A n c, .int .u8 x]).run Try.prog w = .ok (.int .i64 (findV L x)) w := by
    rw [← idx_place L x hl hx]
    have h1 := bytes_load w A n c L hL ha
    have hs := Lib.run_indexByteString (P := Try.prog) ⟨(Lib.bytesOf L).toArray⟩ x w
    change Sem.run Try.prog (do
      let b ← Extern.Bytes.bytesOf (.slice A n c)
      let c ← Extern.Bytes.asByte (.int .u8 x)
      match (List.range b.size).find? fun i => b[i]! == c with
      | some i => pure (goInt i)
      | none => pure (goInt (-1))) w = _
    change Sem.run Try.prog (do
      let b ← Extern.Bytes.bytesOf (.string ⟨(Lib.bytesOf L).toArray⟩)
      let c ← Extern.Bytes.asByte (.int .u8 x)
      match (List.range b.size).find? fun i => b[i]! == c with
      | some i => pure (goInt i)
      | none => pure (goInt (-1))) w = _ at hs
    rw [Sem.run_bind, h1]
    rw [Sem.run_bind] at hs
    exact hs
  rw [h3]
  rfl

theorem diff_any (w : World) (A B : Option Addr) (n m c d : Nat) (L M : List Int) (hL : L.length = n) (hM : M.length = m) (ha : BytesAt w A L) (hb : BytesAt w B M) (hl : Byt L) (hm : Byt M) :
    Calls Try.prog 27 #[.slice A n c, .slice B m d] w fun e w' => e = .returned (.int .i64 (diffV L M)) ∧ w = w' := by
  have hr := compare_run w A B n m c d L M hL hM ha hb hl hm
  clear hL hM ha hb hl hm
  go_enter Try.func27, Try.ntmps27
  go_wp2
  go_ret
  exact ⟨rfl, rfl⟩
theorem find_any (w : World) (A : Option Addr) (n c : Nat) (L : List Int) (x : Int) (hL : L.length = n) (ha : BytesAt w A L) (hl : Byt L) :
    Calls Try.prog 29 #[.slice A n c, .int .i64 x] w fun e w' => e = .returned (.int .i64 (findV L (x % 256))) ∧ w = w' := by
  have hr := index_run w A n c L (x % 256) hL ha hl (by omega)
  clear hL ha hl
  go_enter Try.func29, Try.ntmps29
  go_wp2
  go_ret
  exact ⟨rfl, rfl⟩

theorem right_any (z : Int) (k : Nat) (hk : k ≤ 64) (hz : 0 ≤ z ∧ z < 18446744073709551616) (w : World) :
    Calls Try.prog 45 #[.int .u64 z, .int .i64 k] w fun e w' => e = .returned (.int .u64 (z / 2 ^ k)) ∧ w = w' := by
  go_enter Try.func45, Try.ntmps45
  go_wp2_with fail
  go_loopw [0, 5] (fun a i wr => ∃ j : Nat, j ≤ k ∧ i = .int .i64 j ∧ a = .int .u64 (z / 2 ^ j) ∧ wr = w) (fun _ i _ => (k - intOf i).toNat)
  case atStart => exact ⟨0, Nat.zero_le _, rfl, by simp, rfl⟩
  case round =>
    obtain ⟨j, hj, rfl, rfl, rfl⟩ := hrel
    have HS := Lib.hid (show z / 2 ^ j / 2 = z / 2 ^ (j + 1) by rw [Int.pow_succ, Int.ediv_ediv_of_nonneg (Int.le_of_lt (pow_pos' j))])
    have h0 : 0 ≤ z / 2 ^ j := Int.ediv_nonneg hz.1 (Int.le_of_lt (pow_pos' j))
    have h1 : z / 2 ^ j < 18446744073709551616 := Int.lt_of_le_of_lt (Int.ediv_le_self _ hz.1) hz.2
    by_cases hlt : j < k
    · generalize z / 2 ^ j = y at *
      go_wp2_with fail
      go_roundw
      case rel => exact ⟨j + 1, by omega, by go_num, by rw [← HS.out], trivial⟩
      case measure => simp [intOf]; omega
    · obtain rfl : j = k := by omega
      go_wp2_with fail
      go_ret
      exact ⟨rfl, rfl⟩
theorem right_n (z k : Int) (n : Nat) (hn : (n : Int) = k) (hk : n ≤ 64) (hz : 0 ≤ z ∧ z < 18446744073709551616) (w : World) :
    Calls Try.prog 45 #[.int .u64 z, .int .i64 k] w fun e w' => e = .returned (.int .u64 (z / 2 ^ n)) ∧ w = w' := by
  subst hn; exact right_any z n hk hz w
def xorU (a b : Int) : Int := bits BinOp.xor IntKind.u64 a b
theorem xorU_nat (a b : Nat) (ha : a < 18446744073709551616) (hb : b < 18446744073709551616) : xorU (a : Int) (b : Int) = ((a ^^^ b : Nat) : Int) := xor_u64 a b ha hb
theorem mulU (a K : Nat) : IntKind.u64.wrap ((a : Int) * (K : Int)) = ((a * K % 18446744073709551616 : Nat) : Int) := by rw [IntKind.wrap_u64]; simp
def z1V (x y : Int) : Int := xorU (IntKind.u64.wrap x) (IntKind.u64.wrap (IntKind.u64.wrap y * 14437167314951722571))
def z2V (z : Int) : Int := xorU z (z / 536870912)
def z3V (z : Int) : Int := IntKind.u64.wrap (z * 10320681969465668653)
def z4V (z : Int) : Int := xorU z (z / 4294967296)
theorem z1_nat (x y : Int) : z1V x y = ((u64N x ^^^ (u64N y * kA % 18446744073709551616) : Nat) : Int) := by
  unfold z1V
  rw [u64N_eq x, u64N_eq y, show (14437167314951722571 : Int) = (kA : Int) from rfl, mulU, xorU_nat _ _ (u64N_lt x) (mod_lt64 _)]
theorem z2_nat (a : Nat) (ha : a < 18446744073709551616) : z2V (a : Int) = ((a ^^^ a / 2 ^ 29 : Nat) : Int) := by
  unfold z2V
  rw [show (a : Int) / 536870912 = ((a / 2 ^ 29 : Nat) : Int) from rfl, xorU_nat _ _ ha (Nat.lt_of_le_of_lt (Nat.div_le_self _ _) ha)]
theorem z3_nat (a : Nat) : z3V (a : Int) = ((a * kB % 18446744073709551616 : Nat) : Int) := by
  unfold z3V
  rw [show (10320681969465668653 : Int) = (kB : Int) from rfl, mulU]
theorem z4_nat (a : Nat) (ha : a < 18446744073709551616) : z4V (a : Int) = ((a ^^^ a / 2 ^ 32 : Nat) : Int) := by
  unfold z4V
  rw [show (a : Int) / 4294967296 = ((a / 2 ^ 32 : Nat) : Int) from rfl, xorU_nat _ _ ha (Nat.lt_of_le_of_lt (Nat.div_le_self _ _) ha)]
theorem mix_form (x y : Int) : wrap64 (z4V (z3V (z2V (z1V x y)))) = mixV x y := by
  rw [z1_nat, z2_nat _ (xor_lt _ _ (u64N_lt x) (mod_lt64 _)), z3_nat, z4_nat _ (mod_lt64 _)]
  rfl
theorem z1_rng (x y : Int) : 0 ≤ z1V x y ∧ z1V x y < 18446744073709551616 := by
  rw [z1_nat]
  have := xor_lt (u64N x) (u64N y * kA % 18446744073709551616) (u64N_lt x) (mod_lt64 _)
  omega
theorem z3_rng (z : Int) : 0 ≤ z3V z ∧ z3V z < 18446744073709551616 := by
  unfold z3V; rw [IntKind.wrap_u64]; omega

theorem mix_any (x y : Int) (w : World) :
    Calls Try.prog 31 #[.int .i64 x, .int .i64 y] w fun e w' => e = .returned (.int .i64 (mixV x y)) ∧ w = w' := by
  have HM := Lib.hid (mix_form x y)
  go_enter Try.func31, Try.ntmps31
  go_wp2_with fail
  go_ret
  exact ⟨by rw [← HM.out]; rfl, rfl⟩
theorem refMix_any (x y : Int) (w : World) :
    Calls Try.prog 32 #[.int .i64 x, .int .i64 y] w fun e w' => e = .returned (.int .i64 (mixV x y)) ∧ w = w' := by
  have HM := Lib.hid (mix_form x y)
  have h1 : ∀ w, Calls Try.prog 45 #[.int .u64 (z1V x y), .int .i64 29] w fun e w' => e = .returned (.int .u64 (z1V x y / 536870912)) ∧ w = w' := fun w => right_n (z1V x y) 29 29 rfl (by decide) (z1_rng x y) w
  have h2 : ∀ w, Calls Try.prog 45 #[.int .u64 (z3V (z2V (z1V x y))), .int .i64 32] w fun e w' => e = .returned (.int .u64 (z3V (z2V (z1V x y)) / 4294967296)) ∧ w = w' := fun w => right_n (z3V (z2V (z1V x y))) 32 32 rfl (by decide) (z3_rng _) w
  go_enter Try.func32, Try.ntmps32
  go_upto_region 2 with (fail)
  rw [show bits BinOp.xor IntKind.u64 (IntKind.u64.wrap x) (IntKind.u64.wrap (IntKind.u64.wrap y * 14437167314951722571)) = z1V x y from rfl]
  have HZ := Lib.hid (show ∀ z, bits BinOp.xor IntKind.u64 z (z / 536870912) = z2V z from fun _ => rfl)
  have HY := Lib.hid (show ∀ z, IntKind.u64.wrap (z * 10320681969465668653) = z3V z from fun _ => rfl)
  generalize z1V x y = z1 at *
  go_wp2_with fail
  refine (h1 _).mono ?_
  rintro e w' ⟨rfl, rfl⟩
  go_upto_region 4 with (fail)
  rw [HZ.out]
  rw [HY.out]
  generalize z3V (z2V z1) = z3 at *
  go_wp2_with fail
  refine (h2 _).mono ?_
  rintro e w' ⟨rfl, rfl⟩
  go_wp2_with fail
  go_ret
  exact ⟨by rw [← HM.out]; rfl, rfl⟩

/-- the document's order of bytes -/
theorem diff_drop (L M : List Int) (k : Nat) (h1 : k < L.length) (h2 : k < M.length) :
    diffV (L.drop k) (M.drop k) = if L[k]?.getD 0 < M[k]?.getD 0 then -1 else if M[k]?.getD 0 < L[k]?.getD 0 then 1 else diffV (L.drop (k + 1)) (M.drop (k + 1)) := by
  rw [List.drop_eq_getElem_cons h1, List.drop_eq_getElem_cons h2, diffV, List.getElem?_eq_getElem h1, List.getElem?_eq_getElem h2]
  rfl
theorem diff_short (L M : List Int) (k : Nat) (h1 : L.length ≤ k) (h2 : k < M.length) : diffV (L.drop k) (M.drop k) = -1 := by
  rw [List.drop_eq_nil_of_le h1, List.drop_eq_getElem_cons h2, diffV]
theorem diff_long (L M : List Int) (k : Nat) (h1 : k < L.length) (h2 : M.length ≤ k) : diffV (L.drop k) (M.drop k) = 1 := by
  rw [List.drop_eq_nil_of_le h2, List.drop_eq_getElem_cons h1, diffV]
theorem diff_end (L M : List Int) (k : Nat) (h1 : L.length ≤ k) (h2 : M.length ≤ k) : diffV (L.drop k) (M.drop k) = 0 := by
  rw [List.drop_eq_nil_of_le h2, List.drop_eq_nil_of_le h1, diffV]

theorem refDiff_any (w : World) (A B : Option Addr) (n m c d : Nat) (L M : List Int) (hL : L.length = n) (hM : M.length = m) (hn : n ≤ 140737488355328) (hm : m ≤ 140737488355328) (ha : BytesAt w A L) (hb : BytesAt w B M) (hl : Byt L) (hbm : Byt M) :
    Calls Try.prog 28 #[.slice A n c, .slice B m d] w fun e w' => e = .returned (.int .i64 (diffV L M)) ∧ w = w' := by
  have HA := Lib.hid ha
  have HB := Lib.hid hb
  have HL := Lib.hid hl
  have HM := Lib.hid hbm
  have GL := Lib.hid hL
  have GM := Lib.hid hM
  clear ha hb hl hbm hL hM
  go_enter Try.func28, Try.ntmps28
  go_wp2_with fail
  go_loopw [5, 6, 7] (fun i _ _ wr => ∃ k : Nat, k ≤ n ∧ k ≤ m ∧ i = .int .i64 k ∧ Hid (diffV (L.drop k) (M.drop k) = diffV L M) ∧ wr = w) (fun i _ _ _ => (n - intOf i).toNat)
  case atStart => exact ⟨0, Nat.zero_le _, Nat.zero_le _, rfl, Lib.hid rfl, rfl⟩
  case round =>
    obtain ⟨k, hk1, hk2, rfl, HD, rfl⟩ := hrel
    by_cases h1 : k < n
    · obtain ⟨b, off, rfl, hlt, hcell⟩ := HA.out (by have := GL.out; omega)
      have hc := hcell k (by have := GL.out; omega)
      have hx := byt_at HL.out k
      have f1 : (k : Int) < n := by omega
      have g1 : k < n := h1
      clear hcell
      by_cases h2 : k < m
      · obtain ⟨b', off', rfl, hlt', hcell'⟩ := HB.out (by have := GM.out; omega)
        have hc' := hcell' k (by have := GM.out; omega)
        have hy := byt_at HM.out k
        have HS := Lib.hid ((diff_drop L M k (by have := GL.out; omega) (by have := GM.out; omega)).symm.trans HD.out)
        have f2 : (k : Int) < m := by omega
        clear hcell' HD HL HM HA HB
        obtain ⟨hx0, hx1⟩ := hx
        obtain ⟨hy0, hy1⟩ := hy
        generalize L[k]?.getD 0 = x at *
        generalize M[k]?.getD 0 = y at *
        rcases Int.lt_trichotomy x y with hxy | hxy | hxy
        · have HR := Lib.hid (show diffV L M = -1 by rw [← HS.out, if_pos hxy])
          clear HS
          go_wp2_with fail
          go_ret
          exact ⟨by rw [HR.out]; rfl, rfl⟩
        · have HR := Lib.hid (show diffV (L.drop (k + 1)) (M.drop (k + 1)) = diffV L M by rw [← HS.out, if_neg (by omega), if_neg (by omega)])
          subst hxy
          clear HS
          go_wp2_with fail
          go_roundw
          case rel => exact ⟨k + 1, by omega, by omega, by go_num, HR, trivial⟩
          case measure => simp [intOf]; omega
        · have HR := Lib.hid (show diffV L M = 1 by rw [← HS.out, if_neg (by omega), if_pos hxy])
          clear HS
          go_wp2_with fail
          go_ret
          exact ⟨by rw [HR.out]; rfl, rfl⟩
      · have HR := Lib.hid ((diff_long L M k (by have := GL.out; omega) (by have := GM.out; omega)).symm.trans HD.out)
        have f2 : decide ((k : Int) < m) = false := by simp; omega
        clear HD HL HM HA HB
        obtain ⟨hx0, hx1⟩ := hx
        generalize L[k]?.getD 0 = x at *
        go_wp2_with fail
        go_ret
        exact ⟨by rw [← HR.out]; rfl, rfl⟩
    · have f1 : decide ((k : Int) < n) = false := by simp; omega
      by_cases h2 : k < m
      · obtain ⟨b', off', rfl, hlt', hcell'⟩ := HB.out (by have := GM.out; omega)
        have hc' := hcell' k (by have := GM.out; omega)
        have hy := byt_at HM.out k
        have HR := Lib.hid ((diff_short L M k (by have := GL.out; omega) (by have := GM.out; omega)).symm.trans HD.out)
        have f2 : (k : Int) < m := by omega
        clear HD HL HM HA HB hcell'
        obtain ⟨hy0, hy1⟩ := hy
        generalize M[k]?.getD 0 = y at *
        go_wp2_with fail
        go_ret
        exact ⟨by rw [← HR.out]; rfl, rfl⟩
      · have HR := Lib.hid ((diff_end L M k (by have := GL.out; omega) (by have := GM.out; omega)).symm.trans HD.out)
        have f2 : decide ((k : Int) < m) = false := by simp; omega
        clear HD HL HM HA HB
        go_wp2_with fail
        go_ret
        exact ⟨by rw [← HR.out]; rfl, rfl⟩

/-- the first place of a byte from k on -/
def fromV (L : List Int) (c : Int) (k : Nat) : Int := if placeN (L.drop k) c < (L.drop k).length then (k : Int) + placeN (L.drop k) c else -1
theorem from_zero (L : List Int) (c : Int) : fromV L c 0 = findV L c := by
  unfold fromV findV
  simp
theorem from_end (L : List Int) (c : Int) : fromV L c L.length = -1 := by
  unfold fromV
  rw [List.drop_eq_nil_of_le (Nat.le_refl _)]
  rfl
theorem from_step (L : List Int) (c : Int) (k : Nat) (h : k < L.length) : fromV L c k = if L[k]?.getD 0 = c then (k : Int) else fromV L c (k + 1) := by
  have e : L.drop k = L[k]?.getD 0 :: L.drop (k + 1) := by
    rw [List.drop_eq_getElem_cons h, List.getElem?_eq_getElem h]; rfl
  unfold fromV
  rw [e, placeN]
  split
  · simp
  · simp only [List.length_cons, Nat.add_lt_add_iff_right]
    split <;> omega

theorem refFind_any (w : World) (A : Option Addr) (n c : Nat) (L : List Int) (x : Int) (hL : L.length = n) (hn : n ≤ 140737488355328) (ha : BytesAt w A L) (hl : Byt L) :
    Calls Try.prog 30 #[.slice A n c, .int .i64 x] w fun e w' => e = .returned (.int .i64 (findV L (x % 256))) ∧ w = w' := by
  have hx := and8 x
  have HZ := Lib.hid (from_zero L (x % 256))
  have HE := Lib.hid (from_end L (x % 256))
  generalize x % 256 = z at *
  go_enter Try.func30, Try.ntmps30
  go_wp2_with fail
  go_loopw [5, 6] (fun a i wr => ∃ k : Nat, k ≤ n ∧ i = .int .i64 ((k : Int) - 1) ∧ a = .int .i64 (fromV L z k) ∧ wr = w) (fun _ i _ => (intOf i + 1).toNat)
  case atStart => exact ⟨n, Nat.le_refl _, rfl, by rw [← HE.out, hL], rfl⟩
  case round =>
    obtain ⟨k, hk, rfl, rfl, rfl⟩ := hrel
    rcases k with _ | k
    · rw [show (((0 : Nat) : Int) - 1) = -1 by omega]
      go_wp2_with fail
      go_ret
      exact ⟨by rw [← HZ.out]; rfl, rfl⟩
    · rw [show (((k + 1 : Nat) : Int) - 1) = (k : Int) by omega]
      obtain ⟨b, off, rfl, hlt, hcell⟩ := ha (by omega)
      have hc := hcell k (by omega)
      have hy := byt_at hl k
      have HS := Lib.hid (from_step L z k (by omega))
      obtain ⟨hy0, hy1⟩ := hy
      have g1 : k < n := by omega
      clear hcell ha hl
      generalize L[k]?.getD 0 = y at *
      generalize fromV L z (k + 1) = F at *
      rcases hyz : (y == z) with _ | _
      · have e : fromV L z k = F := by rw [HS.out, if_neg (by simpa using hyz)]
        have HR := Lib.hid e
        clear HS e
        go_wp2_with fail
        go_roundw
        case rel => exact ⟨k, by omega, by go_num, by rw [HR.out], trivial⟩
        case measure => simp [intOf]
      · have e : fromV L z k = k := by rw [HS.out, if_pos (by simpa using hyz)]
        have HR := Lib.hid e
        clear HS e
        go_wp2_with fail
        go_roundw
        case rel => exact ⟨k, by omega, by go_num, by rw [HR.out], trivial⟩
        case measure => simp [intOf]
end Go.Proofs.Ytmdblhgnncfooaa
