/- What Swap, Extend and Low tell holds what the arithmetic makes: plain mathematics. -/
import Derived.Test.YtjhgjplhhhgfcaaSpU
namespace Go.Proofs.Ytjhgjplhhhgfcaa
open Go.ChangeShapes Go.WideShapes Go.ChangeAt Go.RowKit
open Bits Spn
namespace Spc
set_option linter.unusedVariables false
set_option maxRecDepth 100000
theorem r16_ok (l h : Int) (hl : l ≤ h) : (r16 l h).ok := by
  unfold r16
  split
  · rename_i hw
    unfold withinB at hw
    simp only [Bool.and_eq_true, decide_eq_true_eq] at hw
    exact ok_small' hw.1 hl (by omega)
  · exact ⟨by decide, by decide, by decide⟩
where
  ok_small' {l h : Int} (h0 : 0 ≤ l) (h1 : l ≤ h) (h2 : h ≤ 9223372036854775807) : (⟨l, h⟩ : E).ok := ⟨h1, by unfold LEAST; show _ ≤ l; omega, h2⟩
theorem low_ok (r : E) (h : r.lo ≤ r.hi) : (lowE r).ok := by
  obtain ⟨h1, h2, h3⟩ := lowE_ok r h
  exact ⟨h1, by unfold LEAST; omega, by unfold TOP; omega⟩
theorem bot_ok (k : Int) (r : E) (h : r.ok) : (botX k r.lo r.hi).ok := by
  unfold botX
  split
  · exact h
  · split
    · exact low_ok r h.1
    · exact r16_ok _ _ h.1
theorem bot_has (k : Int) (hk : k = 16 ∨ k = 32 ∨ k = 64) (r : E) (h : r.ok) {v : Int} (hv : r.has v) : (botX k r.lo r.hi).has (swapI k false v) := by
  have e : ∀ n : Nat, n ≤ 8 → swapV n false v = wrap64 (v % 2 ^ (8 * n)) := fun n _ => rfl
  have i64 := has64 h hv
  unfold I64 LEAST TOP at i64
  rcases hk with rfl | rfl | rfl
  · have e2 : swapI 16 false v = v % 65536 := by
      unfold swapI
      rw [if_pos (by decide)]
      show wrap64 (v % 65536) = v % 65536
      exact IntWalk.wrap64_in _ (by omega)
    rw [e2]
    unfold botX
    rw [if_neg (by decide), if_neg (by decide)]
    unfold r16
    split
    · rename_i hw
      unfold withinB at hw
      simp only [Bool.and_eq_true, decide_eq_true_eq] at hw
      obtain ⟨v1, v2⟩ := hv
      have : v % 65536 = v := by omega
      rw [this]
      exact ⟨v1, v2⟩
    · exact ⟨by show 0 ≤ v % 65536; omega, by show v % 65536 ≤ 65535; omega⟩
  · have e2 : swapI 32 false v = v % 4294967296 := by
      unfold swapI
      rw [if_pos (by decide)]
      show wrap64 (v % 4294967296) = v % 4294967296
      exact IntWalk.wrap64_in _ (by omega)
    rw [e2]
    unfold botX
    rw [if_neg (by decide), if_pos rfl]
    exact lowE_has r hv
  · have e2 : swapI 64 false v = v := by
      unfold swapI
      rw [if_pos (by decide)]
      show wrap64 (v % 18446744073709551616) = v
      unfold wrap64; omega
    rw [e2]
    exact hv
theorem rev_bound (n x : Nat) (m : Nat) (hm : 256 ^ n = m) : revN n x < m := by rw [← hm]; exact revN_lt n x
theorem swapV_t (n : Nat) (a : Int) : swapV n true a = wrap64 (revN n (un a) : Int) := rfl
theorem swapI_16 (v : Int) : swapI 16 true v = wrap64 (revN 2 (un v) : Int) := by rw [← swapV_t]; exact swapI_yes 2 true v (.inl rfl)
theorem swapI_32 (v : Int) : swapI 32 true v = wrap64 (revN 4 (un v) : Int) := by rw [← swapV_t]; exact swapI_yes 4 true v (.inr (.inl rfl))
theorem swapI_64t (v : Int) : swapI 64 true v = wrap64 (revN 8 (un v) : Int) := by rw [← swapV_t]; exact swapI_yes 8 true v (.inr (.inr rfl))
theorem r16_all : r16 LEAST TOP = ⟨0, 65535⟩ := by unfold r16; rw [if_neg (by decide)]
theorem low_all : lowE ⟨LEAST, TOP⟩ = ⟨0, 4294967295⟩ := by unfold lowE; rw [if_neg (by decide)]
theorem botX_16 (l h : Int) : botX 16 l h = r16 l h := by unfold botX; rw [if_neg (by decide), if_neg (by decide)]
theorem botX_32 (l h : Int) : botX 32 l h = lowE ⟨l, h⟩ := by unfold botX; rw [if_neg (by decide), if_pos rfl]
theorem botX_64 (l h : Int) : botX 64 l h = ⟨l, h⟩ := by unfold botX; rw [if_pos rfl]
theorem turn_has (k : Int) (hk : k = 16 ∨ k = 32 ∨ k = 64) (v : Int) : (botX k LEAST TOP).has (swapI k true v) := by
  rcases hk with rfl | rfl | rfl
  · have h := rev_bound 2 (un v) 65536 (by decide)
    rw [swapI_16, botX_16, r16_all]
    generalize revN 2 (un v) = z at *
    have e : wrap64 (z : Int) = z := IntWalk.wrap64_in _ (by omega)
    rw [e]
    exact ⟨by show (0 : Int) ≤ z; omega, by show (z : Int) ≤ 65535; omega⟩
  · have h := rev_bound 4 (un v) 4294967296 (by decide)
    rw [swapI_32, botX_32, low_all]
    generalize revN 4 (un v) = z at *
    have e : wrap64 (z : Int) = z := IntWalk.wrap64_in _ (by omega)
    rw [e]
    exact ⟨by show (0 : Int) ≤ z; omega, by show (z : Int) ≤ 4294967295; omega⟩
  · rw [swapI_64t, botX_64]
    generalize revN 8 (un v) = z
    exact w64_in _
theorem swap_ok (k : Int) (t : Bool) (r : E) (h : r.ok) (hs : I64 (swapI k t r.lo)) : (swapE k t r).ok := by
  unfold swapE
  split
  · exact ⟨Int.le_refl _, hs.1, hs.2⟩
  · split
    · exact bot_ok k allE allE_ok
    · exact bot_ok k r h
theorem swapI_64 (k : Int) (t : Bool) (v : Int) : I64 (swapI k t v) := by
  unfold swapI
  split
  · exact w64_in _
  · exact ⟨by decide, by decide⟩
theorem swap_has (k : Int) (t : Bool) (hk : k = 16 ∨ k = 32 ∨ k = 64) (r : E) (h : r.ok) {v : Int} (hv : r.has v) : (swapE k t r).has (swapI k t v) := by
  unfold swapE
  split
  · rename_i he
    obtain ⟨v1, v2⟩ := hv
    obtain rfl : v = r.lo := by omega
    exact ⟨Int.le_refl _, Int.le_refl _⟩
  · cases t
    · exact bot_has k hk r h hv
    · exact turn_has k hk v
theorem within_of {r : E} {v : Int} (h : r.has v) : withinB ⟨v, v⟩ r = true := by
  unfold withinB
  rw [Bool.and_eq_true]
  exact ⟨decide_eq_true h.1, decide_eq_true h.2⟩
theorem full_has (v : Int) (hv : I64 v) : (rd fullS).has v := by rw [rd_full]; exact ⟨hv.1, hv.2⟩
theorem swapS_sound (k : Int) (t : Bool) (s : Sp) : soundB (swapS k t s) = true := by
  unfold swapS
  split
  · exact sp_sound _ (swap_ok k t _ (rd_ok s) (swapI_64 _ _ _)).1
  · rfl
theorem swapS_has (k : Int) (t : Bool) (s : Sp) {v : Int} (hv : (rd s).has v) : withinB ⟨swapI k t v, swapI k t v⟩ (rd (swapS k t s)) = true := by
  apply within_of
  unfold swapS
  split
  · rename_i hk
    exact rd_sp_has _ (swap_ok k t _ (rd_ok s) (swapI_64 _ _ _)) (swap_has k t hk _ (rd_ok s) hv)
  · exact full_has _ (swapI_64 _ _ _)
/-! ### Extend -/
theorem sx_8 (x : Int) : sx 8 x = if x % 256 < 128 then x % 256 else x % 256 - 256 := rfl
theorem sx_16 (x : Int) : sx 16 x = if x % 65536 < 32768 then x % 65536 else x % 65536 - 65536 := rfl
theorem sx_32 (x : Int) : sx 32 x = if x % 4294967296 < 2147483648 then x % 4294967296 else x % 4294967296 - 4294967296 := rfl
theorem room_ok (k : Int) : (roomE k).ok := by
  unfold roomE
  split
  · exact ⟨by decide, by decide, by decide⟩
  · split
    · exact ⟨by decide, by decide, by decide⟩
    · exact ⟨by decide, by decide, by decide⟩
theorem ext_room (k : Int) (hk : k = 8 ∨ k = 16 ∨ k = 32) (v : Int) : (roomE k).has (sx k.toNat v) ∧ ((roomE k).has v → sx k.toNat v = v) := by
  rcases hk with rfl | rfl | rfl
  · rw [show (8 : Int).toNat = 8 from rfl, sx_8]
    refine ⟨⟨by show (-128 : Int) ≤ _; split <;> omega, by show _ ≤ (127 : Int); split <;> omega⟩, fun ⟨h1, h2⟩ => ?_⟩
    replace h1 : (-128 : Int) ≤ v := h1
    replace h2 : v ≤ (127 : Int) := h2
    split <;> omega
  · rw [show (16 : Int).toNat = 16 from rfl, sx_16]
    refine ⟨⟨by show (-32768 : Int) ≤ _; split <;> omega, by show _ ≤ (32767 : Int); split <;> omega⟩, fun ⟨h1, h2⟩ => ?_⟩
    replace h1 : (-32768 : Int) ≤ v := h1
    replace h2 : v ≤ (32767 : Int) := h2
    split <;> omega
  · rw [show (32 : Int).toNat = 32 from rfl, sx_32]
    refine ⟨⟨by show (-2147483648 : Int) ≤ _; split <;> omega, by show _ ≤ (2147483647 : Int); split <;> omega⟩, fun ⟨h1, h2⟩ => ?_⟩
    replace h1 : (-2147483648 : Int) ≤ v := h1
    replace h2 : v ≤ (2147483647 : Int) := h2
    split <;> omega
theorem extI_at (k : Int) (n : Bool) (hk : k = 8 ∨ k = 16 ∨ (k = 32 ∧ n = false)) (v : Int) : extI k n v = if n then sx k.toNat v % 4294967296 else sx k.toNat v := by
  unfold extI
  rw [if_pos hk]
  rfl
theorem ext_ok (k : Int) (n : Bool) (hk : k = 8 ∨ k = 16 ∨ (k = 32 ∧ n = false)) (r : E) (h : r.ok) : (extE k n r).ok ∧ ∀ v, r.has v → (extE k n r).has (extI k n v) := by
  have hk3 : k = 8 ∨ k = 16 ∨ k = 32 := by omega
  have h64 : ∀ v, I64 (extI k n v) := by
    intro v
    have h1 := (ext_room k hk3 v).1
    have h2 := has64 (room_ok k) h1
    rw [extI_at k n hk]
    cases n
    · exact h2
    · unfold I64 LEAST TOP; simp only [if_true]; omega
  unfold extE
  split
  · rename_i he
    refine ⟨⟨Int.le_refl _, (h64 _).1, (h64 _).2⟩, fun v hv => ?_⟩
    obtain ⟨v1, v2⟩ := hv
    obtain rfl : v = r.lo := by omega
    exact ⟨Int.le_refl _, Int.le_refl _⟩
  · have hq : (if withinB r (roomE k) then r else roomE k).ok ∧ ∀ v, r.has v → (if withinB r (roomE k) then r else roomE k).has (sx k.toNat v) := by
      split
      · rename_i hw
        unfold withinB at hw
        simp only [Bool.and_eq_true, decide_eq_true_eq] at hw
        refine ⟨h, fun v hv => ?_⟩
        obtain ⟨v1, v2⟩ := hv
        rw [(ext_room k hk3 v).2 ⟨by omega, by omega⟩]
        exact ⟨v1, v2⟩
      · exact ⟨room_ok k, fun v _ => (ext_room k hk3 v).1⟩
    generalize (if withinB r (roomE k) then r else roomE k) = q at *
    cases n
    · exact ⟨hq.1, fun v hv => by rw [extI_at k false hk]; exact hq.2 v hv⟩
    · exact ⟨low_ok q hq.1.1, fun v hv => by rw [extI_at k true hk]; exact lowE_has q (hq.2 v hv)⟩
theorem extI_64 (k : Int) (n : Bool) (v : Int) : I64 (extI k n v) := by
  by_cases hk : k = 8 ∨ k = 16 ∨ (k = 32 ∧ n = false)
  · have := (ext_ok k n hk allE allE_ok)
    have h1 : I64 (extI k n v) := by
      have hk3 : k = 8 ∨ k = 16 ∨ k = 32 := by omega
      have h1 := (ext_room k hk3 v).1
      have h2 := has64 (room_ok k) h1
      rw [extI_at k n hk]
      cases n
      · exact h2
      · unfold I64 LEAST TOP; simp only [if_true]; omega
    exact h1
  · unfold extI
    rw [if_neg hk]
    exact ⟨by decide, by decide⟩
theorem extS_sound (k : Int) (n : Bool) (s : Sp) : soundB (extS k n s) = true := by
  unfold extS
  split
  · rename_i hk
    exact sp_sound _ (ext_ok k n hk _ (rd_ok s)).1.1
  · rfl
theorem extS_has (k : Int) (n : Bool) (s : Sp) {v : Int} (hv : (rd s).has v) : withinB ⟨extI k n v, extI k n v⟩ (rd (extS k n s)) = true := by
  apply within_of
  unfold extS
  split
  · rename_i hk
    exact rd_sp_has _ (ext_ok k n hk _ (rd_ok s)).1 ((ext_ok k n hk _ (rd_ok s)).2 v hv)
  · exact full_has _ (extI_64 _ _ _)
theorem lowS_sound (s : Sp) : soundB (sp (lowE (rd s))) = true := sp_sound _ (lowE_ok _ (rd_ok s).1).1
theorem lowS_has (s : Sp) {v : Int} (hv : (rd s).has v) : withinB ⟨v % 4294967296, v % 4294967296⟩ (rd (sp (lowE (rd s)))) = true :=
  within_of (rd_sp_has _ (low_ok _ (rd_ok s).1) (lowE_has _ hv))
end Spc
end Go.Proofs.Ytjhgjplhhhgfcaa
