/- Package help: contracts of Diff, Find, Mix, and of the document's Diff, Find, Mix. -/
import Derived.Test.YtjjoblomfjfgfaaHA
import Derived.Lib.BytesEntry
namespace Go.Proofs.Ytjjoblomfjfgfaa
open Go.ChangeShapes Go.WideShapes Go.ChangeAt Go.RowKit
open Bits HM
set_option linter.unusedVariables false
set_option linter.unusedSimpArgs false

theorem u8_nat (x : Int) (hx : 0 ≤ x ∧ x < 256) : x.toNat.toUInt8.toNat = x.toNat := by
  simp; omega
theorem u8_inj (x y : Int) (hx : 0 ≤ x ∧ x < 256) (hy : 0 ≤ y ∧ y < 256) : x.toNat.toUInt8 = y.toNat.toUInt8 ↔ x = y := by
  constructor
  · intro h
    have := congrArg UInt8.toNat h
    rw [u8_nat x hx, u8_nat y hy] at this
    omega
  · rintro rfl; rfl
theorem u8_lt (x y : Int) (hx : 0 ≤ x ∧ x < 256) (hy : 0 ≤ y ∧ y < 256) : x.toNat.toUInt8 < y.toNat.toUInt8 ↔ x < y := by
  rw [UInt8.lt_iff_toNat_lt, u8_nat x hx, u8_nat y hy]
  omega
theorem cmp_diff (a b : List Int) (ha : Byt a) (hb : Byt b) : Lib.compareBytes (Lib.bytesOf a) (Lib.bytesOf b) = diffV a b := by
  induction a generalizing b with
  | nil => cases b <;> rfl
  | cons x a ih =>
    cases b with
    | nil => rfl
    | cons y b =>
      have hx := ha x (by simp)
      have hy := hb y (by simp)
      have h := ih b (fun z hz => ha z (by simp [hz])) (fun z hz => hb z (by simp [hz]))
      show (if x.toNat.toUInt8 < y.toNat.toUInt8 then (-1 : Int) else if y.toNat.toUInt8 < x.toNat.toUInt8 then 1 else Lib.compareBytes (Lib.bytesOf a) (Lib.bytesOf b)) = _
      rw [h, diffV]
      simp only [u8_lt x y hx hy, u8_lt y x hy hx]
theorem idx_place (a : List Int) (c : Int) (ha : Byt a) (hc : 0 ≤ c ∧ c < 256) : Lib.indexByte (Lib.bytesOf a) c.toNat.toUInt8 = findV a c := by
  induction a with
  | nil => rfl
  | cons x a ih =>
    have hx := ha x (by simp)
    have h := ih (fun z hz => ha z (by simp [hz]))
    show (if (x.toNat.toUInt8 == c.toNat.toUInt8) = true then (0 : Int) else if (Lib.indexByte (Lib.bytesOf a) c.toNat.toUInt8 == -1) = true then -1 else Lib.indexByte (Lib.bytesOf a) c.toNat.toUInt8 + 1) = _
    rw [h]
    unfold findV
    rw [placeN]
    by_cases e : x = c
    · rw [if_pos (by rw [e]; simp), if_pos e, if_pos (by simp)]; rfl
    · rw [if_neg (by rw [beq_iff_eq, u8_inj x c hx hc]; exact e), if_neg e]
      simp only [List.length_cons, Nat.add_lt_add_iff_right]
      have := placeN_le a c
      split
      · rw [if_neg (by simp)]; rfl
      · rw [if_pos (by simp)]

theorem bytes_load (w : World) (A : Option Addr) (n c : Nat) (L : List Int) (hL : L.length = n) (h : BytesAt w A L) :
    (Extern.Bytes.bytesOf (.slice A n c)).run Try.prog w = .ok ⟨(Lib.bytesOf L).toArray⟩ w := by
  rcases A with _ | ⟨b, off, p⟩
  · have hn : L = [] := by
      rcases Nat.eq_zero_or_pos L.length with h0 | h0
      · exact List.eq_nil_of_length_eq_zero h0
      · obtain ⟨b, off, e, _⟩ := h h0; cases e
    subst hn
    rfl
  · have hl := Lib.run_loadBytesX (P := Try.prog) w L ⟨b, off, p⟩ .empty (fun j x hj => by
      have hjl : j < L.length := (List.getElem?_eq_some_iff.1 hj).1
      obtain ⟨b', off', e, hlt, hc⟩ := h (by omega)
      injection e with e
      rw [e]
      have e2 : (⟨b', off', none⟩ : Addr).add j = ⟨b', off' + j, none⟩ := by unfold Addr.add; split <;> simp_all
      rw [e2, hc j hjl, hj]
      rfl)
    rw [hL] at hl
    have he : (⟨ByteArray.empty.data ++ (Lib.bytesOf L).toArray⟩ : ByteArray) = ⟨(Lib.bytesOf L).toArray⟩ := by
      apply ByteArray.ext
      show (#[] : Array UInt8) ++ (Lib.bytesOf L).toArray = (Lib.bytesOf L).toArray
      simp
    rw [he] at hl
    exact hl
theorem compare_run (w : World) (A B : Option Addr) (n m c d : Nat) (L M : List Int) (hL : L.length = n) (hM : M.length = m) (ha : BytesAt w A L) (hb : BytesAt w B M) (hl : Byt L) (hm : Byt M) :
    (callFunc 37 #[.slice A n c, .slice B m d]).run Try.prog w = .ok (.value (.int .i64 (diffV L M))) w := by
  rw [run_callFunc_extern Try.func37 (by kernel_rfl) (by kernel_rfl) (by kernel_rfl) (e := Extern.BytealgCompare.compare) (by kernel_rfl)]
  have h1 := bytes_load w A n c L hL ha
  have h2 := bytes_load w B m d M hM hb
  have h3 : (Extern.BytealgCompare.compare #[.slice A n c, .slice B m d]).run Try.prog w = .ok (.int .i64 (diffV L M)) w := by
    change Sem.run Try.prog (do pure (goInt (Extern.BytealgCompare.cmp (← Extern.Bytes.bytesOf (.slice A n c)) (← Extern.Bytes.bytesOf (.slice B m d))))) w = _
    simp only [Sem.run_bind, Sem.run_pure, h1, h2, Result.andThen]
    rw [Lib.cmp_eq]
    show Result.ok (Value.int .i64 (Lib.compareBytes (Lib.bytesOf L) (Lib.bytesOf M))) w = _
    rw [cmp_diff L M hl hm]
  rw [h3]
  rfl
theorem index_run (w : World) (A : Option Addr) (n c : Nat) (L : List Int) (x : Int) (hL : L.length = n) (ha : BytesAt w A L) (hl : Byt L) (hx : 0 ≤ x ∧ x < 256) :
    (callFunc 38 #[.slice A n c, .int .u8 x]).run Try.prog w = .ok (.value (.int .i64 (findV L x))) w := by
  rw [run_callFunc_extern Try.func38 (by kernel_rfl) (by kernel_rfl) (by kernel_rfl) (e := Extern.BytealgIndexByte.indexByte) (by kernel_rfl)]
  have h3 : (Extern.BytealgIndexByte.indexByte #[.slice A n c, .int .u8 x]).run Try.prog w = .ok (.int .i64 (findV L x)) w := by
    rw [← idx_place L x hl hx]
    have h1 := bytes_load w A n c L hL ha
    have hs := Lib.run_indexByteString (P := Try.prog) ⟨(Lib.bytesOf L).toArray⟩ x w
    change Sem.run Try.prog (do
      let b ← Extern.Bytes.bytesOf (.slice A n c)
      let c ← Extern.Bytes.asByte (.int .u8 x)
      match (List.range b.size).find? fun i => b[i]! == c with
      | some i => pure (goInt i)
      | none => pure (goInt (-1))) w = _
    change Sem.run Try.prog (do
      let b ← Extern.Bytes.bytesOf (.string ⟨(Lib.bytesOf L).toArray⟩)
      let c ← Extern.Bytes.asByte (.int .u8 x)
      match (List.range b.size).find? fun i => b[i]! == c with
      | some i => pure (goInt i)
      | none => pure (goInt (-1))) w = _ at hs
    rw [Sem.run_bind, h1]
    rw [Sem.run_bind] at hs
    exact hs
  rw [h3]
  rfl

theorem diff_any (w : World) (A B : Option Addr) (n m c d : Nat) (L M : List Int) (hL : L.length = n) (hM : M.length = m) (ha : BytesAt w A L) (hb : BytesAt w B M) (hl : Byt L) (hm : Byt M) :
    Calls Try.prog 22 #[.slice A n c, .slice B m d] w fun e w' => e = .returned (.int .i64 (diffV L M)) ∧ w = w' := by
  have hr := compare_run w A B n m c d L M hL hM ha hb hl hm
  clear hL hM ha hb hl hm
  go_enter Try.func22, Try.ntmps22
  go_wp2
  go_ret
  exact ⟨rfl, rfl⟩
theorem find_any (w : World) (A : Option Addr) (n c : Nat) (L : List Int) (x : Int) (hL : L.length = n) (ha : BytesAt w A L) (hl : Byt L) :
    Calls Try.prog 23 #[.slice A n c, .int .i64 x] w fun e w' => e = .returned (.int .i64 (findV L (x % 256))) ∧ w = w' := by
  have hr := index_run w A n c L (x % 256) hL ha hl (by omega)
  clear hL ha hl
  go_enter Try.func23, Try.ntmps23
  go_wp2
  go_ret
  exact ⟨rfl, rfl⟩

def xorU (a b : Int) : Int := bits BinOp.xor IntKind.u64 a b
theorem xorU_nat (a b : Nat) (ha : a < 18446744073709551616) (hb : b < 18446744073709551616) : xorU (a : Int) (b : Int) = ((a ^^^ b : Nat) : Int) := xor_u64 a b ha hb
theorem mulU (a K : Nat) : IntKind.u64.wrap ((a : Int) * (K : Int)) = ((a * K % 18446744073709551616 : Nat) : Int) := by rw [IntKind.wrap_u64]; simp
def z1V (x y : Int) : Int := xorU (IntKind.u64.wrap x) (IntKind.u64.wrap (IntKind.u64.wrap y * 14437167314951722571))
def z2V (z : Int) : Int := xorU z (z / 536870912)
def z3V (z : Int) : Int := IntKind.u64.wrap (z * 10320681969465668653)
def z4V (z : Int) : Int := xorU z (z / 4294967296)
theorem z1_nat (x y : Int) : z1V x y = ((u64N x ^^^ (u64N y * kA % 18446744073709551616) : Nat) : Int) := by
  unfold z1V
  rw [u64N_eq x, u64N_eq y, show (14437167314951722571 : Int) = (kA : Int) from rfl, mulU, xorU_nat _ _ (u64N_lt x) (mod_lt64 _)]
theorem z2_nat (a : Nat) (ha : a < 18446744073709551616) : z2V (a : Int) = ((a ^^^ a / 2 ^ 29 : Nat) : Int) := by
  unfold z2V
  rw [show (a : Int) / 536870912 = ((a / 2 ^ 29 : Nat) : Int) from rfl, xorU_nat _ _ ha (Nat.lt_of_le_of_lt (Nat.div_le_self _ _) ha)]
theorem z3_nat (a : Nat) : z3V (a : Int) = ((a * kB % 18446744073709551616 : Nat) : Int) := by
  unfold z3V
  rw [show (10320681969465668653 : Int) = (kB : Int) from rfl, mulU]
theorem z4_nat (a : Nat) (ha : a < 18446744073709551616) : z4V (a : Int) = ((a ^^^ a / 2 ^ 32 : Nat) : Int) := by
  unfold z4V
  rw [show (a : Int) / 4294967296 = ((a / 2 ^ 32 : Nat) : Int) from rfl, xorU_nat _ _ ha (Nat.lt_of_le_of_lt (Nat.div_le_self _ _) ha)]
theorem mix_form (x y : Int) : wrap64 (z4V (z3V (z2V (z1V x y)))) = mixV x y := by
  rw [z1_nat, z2_nat _ (xor_lt _ _ (u64N_lt x) (mod_lt64 _)), z3_nat, z4_nat _ (mod_lt64 _)]
  rfl
theorem z1_rng (x y : Int) : 0 ≤ z1V x y ∧ z1V x y < 18446744073709551616 := by
  rw [z1_nat]
  have := xor_lt (u64N x) (u64N y * kA % 18446744073709551616) (u64N_lt x) (mod_lt64 _)
  omega
theorem z3_rng (z : Int) : 0 ≤ z3V z ∧ z3V z < 18446744073709551616 := by
  unfold z3V; rw [IntKind.wrap_u64]; omega

theorem mix_any (x y : Int) (w : World) :
    Calls Try.prog 24 #[.int .i64 x, .int .i64 y] w fun e w' => e = .returned (.int .i64 (mixV x y)) ∧ w = w' := by
  have HM := Lib.hid (mix_form x y)
  go_enter Try.func24, Try.ntmps24
  go_wp2_with fail
  go_ret
  exact ⟨by rw [← HM.out]; rfl, rfl⟩
/-- the document's order of bytes -/
theorem diff_drop (L M : List Int) (k : Nat) (h1 : k < L.length) (h2 : k < M.length) :
    diffV (L.drop k) (M.drop k) = if L[k]?.getD 0 < M[k]?.getD 0 then -1 else if M[k]?.getD 0 < L[k]?.getD 0 then 1 else diffV (L.drop (k + 1)) (M.drop (k + 1)) := by
  rw [List.drop_eq_getElem_cons h1, List.drop_eq_getElem_cons h2, diffV, List.getElem?_eq_getElem h1, List.getElem?_eq_getElem h2]
  rfl
theorem diff_short (L M : List Int) (k : Nat) (h1 : L.length ≤ k) (h2 : k < M.length) : diffV (L.drop k) (M.drop k) = -1 := by
  rw [List.drop_eq_nil_of_le h1, List.drop_eq_getElem_cons h2, diffV]
theorem diff_long (L M : List Int) (k : Nat) (h1 : k < L.length) (h2 : M.length ≤ k) : diffV (L.drop k) (M.drop k) = 1 := by
  rw [List.drop_eq_nil_of_le h2, List.drop_eq_getElem_cons h1, diffV]
theorem diff_end (L M : List Int) (k : Nat) (h1 : L.length ≤ k) (h2 : M.length ≤ k) : diffV (L.drop k) (M.drop k) = 0 := by
  rw [List.drop_eq_nil_of_le h2, List.drop_eq_nil_of_le h1, diffV]

/-- the first place of a byte from k on -/
def fromV (L : List Int) (c : Int) (k : Nat) : Int := if placeN (L.drop k) c < (L.drop k).length then (k : Int) + placeN (L.drop k) c else -1
theorem from_zero (L : List Int) (c : Int) : fromV L c 0 = findV L c := by
  unfold fromV findV
  simp
theorem from_end (L : List Int) (c : Int) : fromV L c L.length = -1 := by
  unfold fromV
  rw [List.drop_eq_nil_of_le (Nat.le_refl _)]
  rfl
theorem from_step (L : List Int) (c : Int) (k : Nat) (h : k < L.length) : fromV L c k = if L[k]?.getD 0 = c then (k : Int) else fromV L c (k + 1) := by
  have e : L.drop k = L[k]?.getD 0 :: L.drop (k + 1) := by
    rw [List.drop_eq_getElem_cons h, List.getElem?_eq_getElem h]; rfl
  unfold fromV
  rw [e, placeN]
  split
  · simp
  · simp only [List.length_cons, Nat.add_lt_add_iff_right]
    split <;> omega

end Go.Proofs.Ytjjoblomfjfgfaa
