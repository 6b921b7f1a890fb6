/- Package pack: a container made, turned in one byte, and read. -/
import Derived.Test.YtkfcfoidaalnlaaPkV
namespace Go.Proofs.Ytkfcfoidaalnlaa.Pak
open Go.ChangeShapes Go.WideShapes Go.ChangeAt Go.RowKit
set_option linter.unusedVariables false
set_option linter.unusedSimpArgs false
set_option maxRecDepth 100000
structure Small (k : Pk) : Prop where
  data : k.data.length ≤ 140737488355328
  code : k.code.length ≤ 140737488355328
  tabs : k.tabs.length ≤ 8796093022208
  bd : Bytes k.data
  bc : Bytes k.code
theorem enc_form {w : World} {w0 : Nat} {k : Pk} {v : Value} (h : if encE k = 0 then OwnB w w0 v (encW k) else v = .slice none 0 0) :
    ∃ A n c, v = .slice A n c ∧ (encE k = 0 → Sl w A n c (encW k)) ∧ (encE k ≠ 0 → n = 0) := by
  by_cases he : encE k = 0
  · rw [if_pos he] at h
    obtain ⟨A, n, c, hv, hs⟩ := own_full h
    exact ⟨A, n, c, hv, fun _ => hs, fun h0 => absurd he h0⟩
  · rw [if_neg he] at h
    exact ⟨none, 0, 0, h, fun h0 => absurd h0 he, fun _ => rfl⟩
/-- A container copied and made: what both laws begin with. -/
def MadeAt (w : World) (k : Pk) (A : Option Addr) (n c : Nat) : Prop := (encE k = 0 → Sl w A n c (encW k)) ∧ (encE k ≠ 0 → n = 0)
theorem MadeAt.up {w w' : World} {k : Pk} {A : Option Addr} {n c : Nat} (h : MadeAt w k A n c) (hb : Below w.heap.size w w') : MadeAt w' k A n c := ⟨fun h0 => (h.1 h0).up hb, h.2⟩
theorem and62 (a : Int) : ∃ m : Nat, bits BinOp.and IntKind.i64 a 4611686018427387903 = (m : Int) ∧ m ≤ 4611686018427387903 := by
  refine ⟨(BitVec.ofInt 64 a &&& BitVec.ofInt 64 4611686018427387903).toNat, ?_, ?_⟩
  · show IntKind.i64.wrap (((BitVec.ofInt 64 a &&& BitVec.ofInt 64 4611686018427387903).toNat : Nat) : Int) = _
    have h : (BitVec.ofInt 64 a &&& BitVec.ofInt 64 4611686018427387903).toNat ≤ 4611686018427387903 := by
      rw [BitVec.toNat_and]
      exact Nat.le_trans Nat.and_le_right (by decide)
    generalize (BitVec.ofInt 64 a &&& BitVec.ofInt 64 4611686018427387903).toNat = m at *
    simp [IntKind.wrap, IntKind.bits, IntKind.signed]
    omega
  · rw [BitVec.toNat_and]
    exact Nat.le_trans Nat.and_le_right (by decide)
theorem xor_u8 (a b : Nat) (ha : a < 256) (hb : b < 256) : bits BinOp.xor IntKind.u8 (a : Int) (b : Int) = ((a ^^^ b : Nat) : Int) := by
  show IntKind.u8.wrap (((BitVec.ofInt 8 (a : Int) ^^^ BitVec.ofInt 8 (b : Int)).toNat : Nat) : Int) = _
  rw [BitVec.toNat_xor, BitVec.toNat_ofInt, BitVec.toNat_ofInt, u8_wrap]
  have e1 : ((a : Int) % ((2 ^ 8 : Nat) : Int)).toNat = a := by omega
  have e2 : ((b : Int) % ((2 ^ 8 : Nat) : Int)).toNat = b := by omega
  rw [e1, e2]
  have h := Nat.xor_lt_two_pow (n := 8) ha hb
  omega
theorem flip_u8 (x : Int) (z : Nat) (hx : 0 ≤ x ∧ x < 256) (hz : 1 ≤ z ∧ z ≤ 255) : IsB (bits BinOp.xor IntKind.u8 x (z : Int)) ∧ bits BinOp.xor IntKind.u8 x (z : Int) ≠ x := by
  obtain ⟨a, rfl⟩ : ∃ a : Nat, x = a := ⟨x.toNat, by omega⟩
  rw [xor_u8 a z (by omega) (by omega)]
  have h := Nat.xor_lt_two_pow (n := 8) (x := a) (y := z) (by omega) (by omega)
  refine ⟨⟨by omega, by omega⟩, fun e => ?_⟩
  have e2 : a ^^^ z = a := by omega
  have e3 : a ^^^ (a ^^^ z) = 0 := by rw [e2, Nat.xor_self]
  rw [← Nat.xor_assoc, Nat.xor_self, Nat.zero_xor] at e3
  omega
theorem own_new {w : World} {base : Nat} {v : Value} {L : List Int} (h : OwnB w base v L) (hL : 0 < L.length) : ∃ g c, v = .slice (some ⟨g, 0, none⟩) L.length c ∧ base ≤ g ∧ Sl w (some ⟨g, 0, none⟩) L.length c L ∧ ∀ i, w.frozen? ⟨g, i, none⟩ = false := by
  obtain ⟨A, n, c, hv, hs⟩ := own_full h
  have hn := hs.len.out
  subst hn
  rcases h.2 with ⟨hv', hn⟩ | ⟨g, cap, cur, hv', hg, hh, -⟩
  · omega
  · subst hv
    injection hv' with h1 h2 h3
    subst h1
    exact ⟨g, c, rfl, hg, hs, fun i => by simp [World.frozen?, hh]⟩
theorem sl_set {w : World} {g n c : Nat} {L : List Int} (h : Sl w (some ⟨g, 0, none⟩) n c L) (i : Nat) (y : Int) (hi : i < n) : Sl (w.setCell ⟨g, i, none⟩ (.int .u8 y)) (some ⟨g, 0, none⟩) n c (L.set i y) := by
  have hl := h.len.out
  obtain ⟨b, off, e, hb, hc⟩ := h.byt (by omega)
  injection e with e
  injection e with e1 e2
  subst e1 e2
  refine ⟨Lib.hid (by rw [List.length_set]; exact hl), h.cap, fun hp => ⟨g, 0, rfl, by simpa [World.setCell] using hb, fun j => ?_⟩, fun b off e => by injection e with e; injection e with e1 e2; subst e1; simpa [World.setCell] using hb⟩
  intro hj
  rw [List.length_set] at hj
  by_cases hji : j = i
  · subst hji
    rw [Nat.zero_add]
    have h0 := hc j (by omega)
    rw [Nat.zero_add] at h0
    rw [World.cell?_setCell_same' _ _ _ (by rw [h0]; rfl)]
    simp [hj]
  · rw [World.cell?_setCell_other _ _ _ _ (by intro e; injection e with e1 e2; omega), hc j hj]
    rw [List.getElem?_set_ne (fun e => hji e.symm)]
theorem none_at (w : World) : PkAt w (.slice none 0 0) (.slice none 0 0) (.slice none 0 0) Pk.none :=
  ⟨⟨none, 0, 0, rfl, ⟨Lib.hid rfl, Nat.le_refl _, fun hp => absurd hp (by simp [Pk.none]), fun b off e => by cases e⟩⟩,
   ⟨none, 0, 0, rfl, ⟨Lib.hid rfl, Nat.le_refl _, fun hp => absurd hp (by simp [Pk.none])⟩⟩,
   ⟨none, 0, 0, rfl, ⟨Lib.hid rfl, Nat.le_refl _, fun hp => absurd hp (by simp [Pk.none]), fun b off e => by cases e⟩⟩⟩
theorem sameNone_any (w : World) : Calls Try.prog 11 #[.agg #[.int .i64 0, .int .i64 0, .slice none 0 0, .slice none 0 0, .slice none 0 0], .agg #[.int .i64 0, .int .i64 0, .slice none 0 0, .slice none 0 0, .slice none 0 0]] w (RetB w (.bool true)) :=
  samePack_any w Pk.none Pk.none _ _ _ _ _ _ (none_at w) (none_at w) Bytes.nil Bytes.nil Bytes.nil Bytes.nil (by simp [Pk.none]) (by simp [Pk.none])
end Go.Proofs.Ytkfcfoidaalnlaa.Pak
