/- Contracts of the document's rows of bits, more: signed, width. -/
import Derived.Test.YtjhgjplhhhgfcaaGreatRow
import Derived.Deep.QuietTactic
import Derived.BigQuiet
namespace Go.Proofs.YtjhgjplhhhgfcaaGreat
open Go.ChangeShapes Go.WideShapes Go.ChangeAt Go.RowKit
open Bits

theorem width_any (n : Bool) (w : World) : Calls Tryz.prog 65 #[.bool n] w fun e w' => e = .returned (.int .i64 (if n = true then 32 else 64)) ∧ w = w' := by
  cases n
  all_goals
    go_enter Tryz.func65, Tryz.ntmps65
    go_wp2
    go_ret
    exact ⟨rfl, rfl⟩

/-- the number of a row of at most 64 bits, the highest as its sign -/
def sgnL (L : List Int) : Int :=
  if L.length = 64 then wrap64 (valL L) else if L.length = 0 then 0 else if L[L.length - 1]?.getD 0 = 0 then valL L else valL L - 2 ^ L.length

theorem pow_le_of {a b : Nat} (h : a ≤ b) : (2 : Int) ^ a ≤ 2 ^ b := by exact_mod_cast Nat.pow_le_pow_right (by decide : 0 < 2) h

theorem valL_w64 {L : List Int} (h : Bit L) (hl : L.length < 64) : wrap64 (valL L) = valL L := by
  have h1 := valL_nonneg h
  have h2 : (2 : Int) ^ L.length ≤ 2 ^ 63 := pow_le_of (by omega)
  have h3 : (2 : Int) ^ 63 = 9223372036854775808 := by decide
  exact IntWalk.wrap64_in _ (by omega)

theorem IntsAt.drewN {w : World} {A : Option Addr} {L : List Int} (h : IntsAt w A L) (n : Nat) : IntsAt (w.drewN n) A L := h
theorem number_q (A : Option Addr) (c : Nat) (L : List Int) (w : World) (n : Nat) (hlen : L.length ≤ 1099511627776) (h : IntsAt w A L) :
    Calls Tryz.prog 60 #[.slice A L.length c] (w.drewN n) fun e w' => e = .returned (.int .i64 (wrap64 (valL L))) ∧ w' = w.drewN n :=
  (number_any A c L (w.drewN n) hlen (h.drewN n)).mono fun _ _ ⟨a, b⟩ => ⟨a, b.symm⟩

set_option maxHeartbeats 1000000 in
theorem signed_any (A : Option Addr) (c : Nat) (L : List Int) (w : World) (hbit : Bit L) (hlen : L.length ≤ 64) (h : IntsAt w A L) :
    Calls Tryz.prog 64 #[.slice A L.length c] w fun e w' => e = .returned (.int .i64 (sgnL L)) ∧ ∃ n, w' = w.drewN n := by
  have hnum := fun w' h' => number_any A c L w' (by omega) h'
  have hv := @valL_w64 L hbit
  by_cases h64 : L.length = 64
  · have hs : sgnL L = wrap64 (valL L) := by unfold sgnL; rw [if_pos h64]
    have HS := Lib.hid hs
    have HN := Lib.hid hnum
    clear hs hnum hv hbit
    have t1 : ((L.length : Int) == 64) = true := by simp [h64]
    have H64 := Lib.hid h64
    clear h64
    go_enter Tryz.func64, Tryz.ntmps64
    go_wp2_with (go_at_call 60; refine (number_any _ _ _ _ (by omega) h).mono ?_; rintro e w' ⟨rfl, rfl⟩)
    go_ret
    exact ⟨by rw [HS.out]; rfl, 0, rfl⟩
  · by_cases h0 : L.length = 0
    · have hs : sgnL L = wrap64 (valL L) := by
        have : L = [] := List.eq_nil_of_length_eq_zero h0
        subst this; simp [sgnL, valL, wrap64]
      have HS := Lib.hid hs
      have t1 : ((L.length : Int) == 64) = false := by simp [h0]
      have t2 : ((L.length : Int) == 0) = true := by simp [h0]
      clear hs hnum hv hbit h64 h0
      go_enter Tryz.func64, Tryz.ntmps64
      go_wp2_with (go_at_call 60; refine (number_any _ _ _ _ (by omega) h).mono ?_; rintro e w' ⟨rfl, rfl⟩)
      go_ret
      exact ⟨by rw [HS.out]; rfl, 0, rfl⟩
    · have t1 : ((L.length : Int) == 64) = false := by rw [beq_eq_false_iff_ne]; omega
      have t2 : ((L.length : Int) == 0) = false := by rw [beq_eq_false_iff_ne]; omega
      have hp : 0 < L.length := by omega
      have hp1 : L.length - 1 < L.length := by omega
      obtain ⟨b, off, rfl, hb, hc⟩ := id h hp
      have hx := hc (L.length - 1) hp1
      by_cases hz : L[L.length - 1]?.getD 0 = 0
      · have hs : sgnL L = wrap64 (valL L) := by
          unfold sgnL; rw [if_neg h64, if_neg h0, if_pos hz, hv (by omega)]
        have HS := Lib.hid hs
        rw [hz] at hx
        clear hs hnum hv hbit h64 h0 hz hc
        go_enter Tryz.func64, Tryz.ntmps64
        go_wp2_with (go_at_call 60; refine (number_any _ _ _ _ (by omega) h).mono ?_; rintro e w' ⟨rfl, rfl⟩)
        go_ret
        exact ⟨by rw [HS.out]; rfl, 0, rfl⟩
      · have t3 : (L[L.length - 1]?.getD 0 == 0) = false := by rw [beq_eq_false_iff_ne]; exact hz
        have hs : sgnL L = valL L - 2 ^ L.length := by
          unfold sgnL; rw [if_neg h64, if_neg h0, if_neg hz]
        have HS := Lib.hid hs
        clear hs hnum hv h64 h0 hz hc
        generalize L[L.length - 1]?.getD 0 = x at *
        go_enter Tryz.func64, Tryz.ntmps64
        go_wp2_with fail
        go_quiet ((go_at_call 60; exact Calls.quiet_of_same (number_q _ _ _ _ _ (by omega) h)))
        go_wp2
        go_ret
        refine ⟨?_, _, rfl⟩
        rw [HS.out]
        have h1 := valL_nonneg hbit
        have h2 : (2 : Int) ^ L.length ≤ 2 ^ 63 := pow_le_of (by have := beq_eq_false_iff_ne.1 t1; omega)
        have h3 : (2 : Int) ^ 63 = 9223372036854775808 := by decide
        refine congrArg (fun x => Ending.returned (.int .i64 x)) ?_
        generalize (2 : Int) ^ L.length = q at *
        rw [h3] at h2
        unfold wrap64
        omega
end Go.Proofs.YtjhgjplhhhgfcaaGreat
