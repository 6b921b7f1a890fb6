/- The document's 'joined': two rows of bits, every operation. -/
import Derived.Test.YtjhgjplhhhgfcaaOver
namespace Go.Proofs.Ytjhgjplhhhgfcaa
open Go.ChangeShapes Go.WideShapes Go.ChangeAt Go.RowKit
open Bits
set_option linter.unusedVariables false

/-- how far a row of k bits is shifted -/
def shk (k : Nat) (b : Int) : Nat := (b % (k : Int)).toNat
theorem num_5 (Q : Option Addr) (k : Nat) (b : Int) (w : World) (hk : 6 ≤ k) (hb : IntsAt w Q (bitsL b k)) :
    Calls Try.prog 56 #[.slice Q 5 k] w fun e w' => e = .returned (.int .i64 (b % 32)) ∧ w = w' := by
  have h := number_n Q 5 k (bitsL b 5) w (bitsL_length _ _) (by decide) (hb.prefix_ (by omega))
  rw [valL_bits, show (2 : Int) ^ 5 = 32 from rfl, IntWalk.wrap64_in _ (by omega)] at h
  exact h
theorem num_6 (Q : Option Addr) (k : Nat) (b : Int) (w : World) (hk : 6 ≤ k) (hb : IntsAt w Q (bitsL b k)) :
    Calls Try.prog 56 #[.slice Q 6 k] w fun e w' => e = .returned (.int .i64 (b % 64)) ∧ w = w' := by
  have h := number_n Q 6 k (bitsL b 6) w (bitsL_length _ _) (by decide) (hb.prefix_ (by omega))
  rw [valL_bits, show (2 : Int) ^ 6 = 64 from rfl, IntWalk.wrap64_in _ (by omega)] at h
  exact h
theorem row_facts {k : Nat} (hk : k = 32 ∨ k = 64) (b : Int) : (((k : Int) == 64) = true ∧ ((shk k b : Nat) : Int) = b % 64) ∨ (((k : Int) == 64) = false ∧ ((shk k b : Nat) : Int) = b % 32) := by
  unfold shk
  rcases hk with rfl | rfl
  · exact .inr ⟨by decide, by omega⟩
  · exact .inl ⟨by decide, by omega⟩
theorem shk_le {k : Nat} (hk : k = 32 ∨ k = 64) (b : Int) : shk k b ≤ k := by
  unfold shk
  rcases hk with rfl | rfl <;> omega
def JOut (w : World) (k : Nat) (x : Int) (e : Ending) (w' : World) : Prop := ∃ P c, e = .returned (.slice P k c) ∧ IntsAt w' P (bitsL x k) ∧ Below w.heap.size w w'

set_option maxRecDepth 100000 in
set_option maxHeartbeats 2000000 in
theorem joined_1 (k : Nat) (hk : k = 32 ∨ k = 64) (P Q : Option Addr) (a b : Int) (w : World) (ha : IntsAt w P (bitsL a k)) (hb : IntsAt w Q (bitsL b k)) :
    Calls Try.prog 57 #[.int .i64 1, .slice P k k, .slice Q k k] w (JOut w k (a + b + 0)) := by
  have hk6 : 6 ≤ k := by omega
  have hk5 : 5 ≤ k := by omega
  have hk6i : (6 : Int) ≤ k := by omega
  have hk5i : (5 : Int) ≤ k := by omega
  have hk65 : k ≤ 65 := by omega
  have N5 := Lib.hid (num_5 Q k b w hk6 hb)
  have N6 := Lib.hid (num_6 Q k b w hk6 hb)
  have HA := Lib.hid ha
  have HB := Lib.hid hb
  have HK := Lib.hid hk
  have HSL := Lib.hid (shk_le hk b)
  rcases row_facts hk b with ⟨t1, hs⟩ | ⟨t1, hs⟩
  all_goals
    have HS := Lib.hid hs
    clear hs ha hb hk
    go_enter Try.func57, Try.ntmps57
    go_wp2_with fail
    refine N5.out.mono ?_
    rintro e w' ⟨rfl, rfl⟩
    go_wp2_with fail
    try (refine N6.out.mono ?_; rintro e w' ⟨rfl, rfl⟩; go_wp2_with fail)
    refine (plus_b P Q k k k a b 0 w w hk65 (.inl rfl) HA.out HB.out (Below.refl _ _)).mono ?_
    rintro e w1 ⟨P1, c1, rfl, hi, hB⟩
    go_wp2_with fail
    go_ret
    exact ⟨_, _, rfl, hi, hB⟩

set_option maxRecDepth 100000 in
set_option maxHeartbeats 2000000 in
theorem joined_2 (k : Nat) (hk : k = 32 ∨ k = 64) (P Q : Option Addr) (a b : Int) (w : World) (ha : IntsAt w P (bitsL a k)) (hb : IntsAt w Q (bitsL b k)) :
    Calls Try.prog 57 #[.int .i64 2, .slice P k k, .slice Q k k] w (JOut w k (a + (-b - 1) + 1)) := by
  have hk6 : 6 ≤ k := by omega
  have hk5 : 5 ≤ k := by omega
  have hk6i : (6 : Int) ≤ k := by omega
  have hk5i : (5 : Int) ≤ k := by omega
  have hk65 : k ≤ 65 := by omega
  have N5 := Lib.hid (num_5 Q k b w hk6 hb)
  have N6 := Lib.hid (num_6 Q k b w hk6 hb)
  have HA := Lib.hid ha
  have HB := Lib.hid hb
  have HK := Lib.hid hk
  have HSL := Lib.hid (shk_le hk b)
  rcases row_facts hk b with ⟨t1, hs⟩ | ⟨t1, hs⟩
  all_goals
    have HS := Lib.hid hs
    clear hs ha hb hk
    go_enter Try.func57, Try.ntmps57
    go_wp2_with fail
    refine N5.out.mono ?_
    rintro e w' ⟨rfl, rfl⟩
    go_wp2_with fail
    try (refine N6.out.mono ?_; rintro e w' ⟨rfl, rfl⟩; go_wp2_with fail)
    refine (not_b Q k k b w w hk65 HB.out (Below.refl _ _)).mono ?_
    rintro e w1 ⟨P1, c1, rfl, hi1, hb1, hB1⟩
    go_wp2_with fail
    refine (plus_b P P1 k c1 k a (-b - 1) 1 w w1 hk65 (.inr rfl) (HA.out.below hb1) hi1 hB1).mono ?_
    rintro e w2 ⟨P2, c2, rfl, hi, hB⟩
    go_wp2_with fail
    go_ret
    exact ⟨_, _, rfl, hi, hB⟩

set_option maxRecDepth 100000 in
set_option maxHeartbeats 2000000 in
theorem joined_3 (k : Nat) (hk : k = 32 ∨ k = 64) (P Q : Option Addr) (a b : Int) (w : World) (ha : IntsAt w P (bitsL a k)) (hb : IntsAt w Q (bitsL b k)) :
    Calls Try.prog 57 #[.int .i64 3, .slice P k k, .slice Q k k] w (JOut w k (a * b)) := by
  have hk6 : 6 ≤ k := by omega
  have hk5 : 5 ≤ k := by omega
  have hk6i : (6 : Int) ≤ k := by omega
  have hk5i : (5 : Int) ≤ k := by omega
  have hk65 : k ≤ 65 := by omega
  have N5 := Lib.hid (num_5 Q k b w hk6 hb)
  have N6 := Lib.hid (num_6 Q k b w hk6 hb)
  have HA := Lib.hid ha
  have HB := Lib.hid hb
  have HK := Lib.hid hk
  have HSL := Lib.hid (shk_le hk b)
  rcases row_facts hk b with ⟨t1, hs⟩ | ⟨t1, hs⟩
  all_goals
    have HS := Lib.hid hs
    clear hs ha hb hk
    go_enter Try.func57, Try.ntmps57
    go_wp2_with fail
    refine N5.out.mono ?_
    rintro e w' ⟨rfl, rfl⟩
    go_wp2_with fail
    try (refine N6.out.mono ?_; rintro e w' ⟨rfl, rfl⟩; go_wp2_with fail)
    refine (times_any P Q k k k a b w hk65 HA.out HB.out).mono ?_
    rintro e w1 ⟨P1, c1, rfl, hi, hB⟩
    go_wp2_with fail
    go_ret
    exact ⟨_, _, rfl, hi, hB⟩

set_option maxRecDepth 100000 in
set_option maxHeartbeats 2000000 in
theorem joined_4 (k : Nat) (hk : k = 32 ∨ k = 64) (P Q : Option Addr) (a b : Int) (w : World) (ha : IntsAt w P (bitsL a k)) (hb : IntsAt w Q (bitsL b k)) (hb0 : 0 < b % 2 ^ k) :
    Calls Try.prog 57 #[.int .i64 4, .slice P k k, .slice Q k k] w (JOut w k (a % 2 ^ k / (b % 2 ^ k))) := by
  have hk6 : 6 ≤ k := by omega
  have hk5 : 5 ≤ k := by omega
  have hk6i : (6 : Int) ≤ k := by omega
  have hk5i : (5 : Int) ≤ k := by omega
  have hk65 : k ≤ 65 := by omega
  have N5 := Lib.hid (num_5 Q k b w hk6 hb)
  have N6 := Lib.hid (num_6 Q k b w hk6 hb)
  have HA := Lib.hid ha
  have HB := Lib.hid hb
  have H0 := Lib.hid hb0
  have HK := Lib.hid hk
  have HSL := Lib.hid (shk_le hk b)
  rcases row_facts hk b with ⟨t1, hs⟩ | ⟨t1, hs⟩
  all_goals
    have HS := Lib.hid hs
    clear hs ha hb hk hb0
    go_enter Try.func57, Try.ntmps57
    go_wp2_with fail
    refine N5.out.mono ?_
    rintro e w' ⟨rfl, rfl⟩
    go_wp2_with fail
    try (refine N6.out.mono ?_; rintro e w' ⟨rfl, rfl⟩; go_wp2_with fail)
    refine (divided_any P Q k k k a b w (by omega) (by have := HK.out; omega) HA.out HB.out H0.out).mono ?_
    rintro e w1 ⟨P1, c1, P2, c2, rfl, hi1, hi2, hB⟩
    go_wp2_with fail
    have hi := hi1
    go_ret
    exact ⟨_, _, rfl, hi, hB⟩

set_option maxRecDepth 100000 in
set_option maxHeartbeats 2000000 in
theorem joined_5 (k : Nat) (hk : k = 32 ∨ k = 64) (P Q : Option Addr) (a b : Int) (w : World) (ha : IntsAt w P (bitsL a k)) (hb : IntsAt w Q (bitsL b k)) (hb0 : 0 < b % 2 ^ k) :
    Calls Try.prog 57 #[.int .i64 5, .slice P k k, .slice Q k k] w (JOut w k (a % 2 ^ k % (b % 2 ^ k))) := by
  have hk6 : 6 ≤ k := by omega
  have hk5 : 5 ≤ k := by omega
  have hk6i : (6 : Int) ≤ k := by omega
  have hk5i : (5 : Int) ≤ k := by omega
  have hk65 : k ≤ 65 := by omega
  have N5 := Lib.hid (num_5 Q k b w hk6 hb)
  have N6 := Lib.hid (num_6 Q k b w hk6 hb)
  have HA := Lib.hid ha
  have HB := Lib.hid hb
  have H0 := Lib.hid hb0
  have HK := Lib.hid hk
  have HSL := Lib.hid (shk_le hk b)
  rcases row_facts hk b with ⟨t1, hs⟩ | ⟨t1, hs⟩
  all_goals
    have HS := Lib.hid hs
    clear hs ha hb hk hb0
    go_enter Try.func57, Try.ntmps57
    go_wp2_with fail
    refine N5.out.mono ?_
    rintro e w' ⟨rfl, rfl⟩
    go_wp2_with fail
    try (refine N6.out.mono ?_; rintro e w' ⟨rfl, rfl⟩; go_wp2_with fail)
    refine (divided_any P Q k k k a b w (by omega) (by have := HK.out; omega) HA.out HB.out H0.out).mono ?_
    rintro e w1 ⟨P1, c1, P2, c2, rfl, hi1, hi2, hB⟩
    go_wp2_with fail
    have hi := hi2
    go_ret
    exact ⟨_, _, rfl, hi, hB⟩

set_option maxRecDepth 100000 in
set_option maxHeartbeats 2000000 in
theorem joined_6 (k : Nat) (hk : k = 32 ∨ k = 64) (P Q : Option Addr) (a b : Int) (w : World) (ha : IntsAt w P (bitsL a k)) (hb : IntsAt w Q (bitsL b k)) (hb0 : 0 < b % 2 ^ k) :
    Calls Try.prog 57 #[.int .i64 6, .slice P k k, .slice Q k k] w (JOut w k ((sx k a).tdiv (sx k b))) := by
  have hk6 : 6 ≤ k := by omega
  have hk5 : 5 ≤ k := by omega
  have hk6i : (6 : Int) ≤ k := by omega
  have hk5i : (5 : Int) ≤ k := by omega
  have hk65 : k ≤ 65 := by omega
  have N5 := Lib.hid (num_5 Q k b w hk6 hb)
  have N6 := Lib.hid (num_6 Q k b w hk6 hb)
  have HA := Lib.hid ha
  have HB := Lib.hid hb
  have H0 := Lib.hid hb0
  have HK := Lib.hid hk
  have HSL := Lib.hid (shk_le hk b)
  rcases row_facts hk b with ⟨t1, hs⟩ | ⟨t1, hs⟩
  all_goals
    have HS := Lib.hid hs
    clear hs ha hb hk hb0
    go_enter Try.func57, Try.ntmps57
    go_wp2_with fail
    refine N5.out.mono ?_
    rintro e w' ⟨rfl, rfl⟩
    go_wp2_with fail
    try (refine N6.out.mono ?_; rintro e w' ⟨rfl, rfl⟩; go_wp2_with fail)
    refine (over_any P Q k k k a b w (by omega) (by have := HK.out; omega) HA.out HB.out H0.out).mono ?_
    rintro e w1 ⟨P1, c1, P2, c2, rfl, hi1, hi2, hB⟩
    go_wp2_with fail
    have hi := hi1
    go_ret
    exact ⟨_, _, rfl, hi, hB⟩

set_option maxRecDepth 100000 in
set_option maxHeartbeats 2000000 in
theorem joined_7 (k : Nat) (hk : k = 32 ∨ k = 64) (P Q : Option Addr) (a b : Int) (w : World) (ha : IntsAt w P (bitsL a k)) (hb : IntsAt w Q (bitsL b k)) (hb0 : 0 < b % 2 ^ k) :
    Calls Try.prog 57 #[.int .i64 7, .slice P k k, .slice Q k k] w (JOut w k ((sx k a).tmod (sx k b))) := by
  have hk6 : 6 ≤ k := by omega
  have hk5 : 5 ≤ k := by omega
  have hk6i : (6 : Int) ≤ k := by omega
  have hk5i : (5 : Int) ≤ k := by omega
  have hk65 : k ≤ 65 := by omega
  have N5 := Lib.hid (num_5 Q k b w hk6 hb)
  have N6 := Lib.hid (num_6 Q k b w hk6 hb)
  have HA := Lib.hid ha
  have HB := Lib.hid hb
  have H0 := Lib.hid hb0
  have HK := Lib.hid hk
  have HSL := Lib.hid (shk_le hk b)
  rcases row_facts hk b with ⟨t1, hs⟩ | ⟨t1, hs⟩
  all_goals
    have HS := Lib.hid hs
    clear hs ha hb hk hb0
    go_enter Try.func57, Try.ntmps57
    go_wp2_with fail
    refine N5.out.mono ?_
    rintro e w' ⟨rfl, rfl⟩
    go_wp2_with fail
    try (refine N6.out.mono ?_; rintro e w' ⟨rfl, rfl⟩; go_wp2_with fail)
    refine (over_any P Q k k k a b w (by omega) (by have := HK.out; omega) HA.out HB.out H0.out).mono ?_
    rintro e w1 ⟨P1, c1, P2, c2, rfl, hi1, hi2, hB⟩
    go_wp2_with fail
    have hi := hi2
    go_ret
    exact ⟨_, _, rfl, hi, hB⟩

set_option maxRecDepth 100000 in
set_option maxHeartbeats 2000000 in
theorem joined_8 (k : Nat) (hk : k = 32 ∨ k = 64) (P Q : Option Addr) (a b : Int) (w : World) (ha : IntsAt w P (bitsL a k)) (hb : IntsAt w Q (bitsL b k)) (X : Int) (hX : ∀ j, j < k → X / 2 ^ j % 2 = bw 8 (a / 2 ^ j % 2 + b / 2 ^ j % 2)) :
    Calls Try.prog 57 #[.int .i64 8, .slice P k k, .slice Q k k] w (JOut w k (X)) := by
  have hk6 : 6 ≤ k := by omega
  have hk5 : 5 ≤ k := by omega
  have hk6i : (6 : Int) ≤ k := by omega
  have hk5i : (5 : Int) ≤ k := by omega
  have hk65 : k ≤ 65 := by omega
  have N5 := Lib.hid (num_5 Q k b w hk6 hb)
  have N6 := Lib.hid (num_6 Q k b w hk6 hb)
  have HA := Lib.hid ha
  have HB := Lib.hid hb
  have HX := Lib.hid hX
  have HK := Lib.hid hk
  have HSL := Lib.hid (shk_le hk b)
  rcases row_facts hk b with ⟨t1, hs⟩ | ⟨t1, hs⟩
  all_goals
    have HS := Lib.hid hs
    clear hs ha hb hk hX
    go_enter Try.func57, Try.ntmps57
    go_wp2_with fail
    refine N5.out.mono ?_
    rintro e w' ⟨rfl, rfl⟩
    go_wp2_with fail
    try (refine N6.out.mono ?_; rintro e w' ⟨rfl, rfl⟩; go_wp2_with fail)
    refine (bitwise_any 8 (by decide) P Q k k k a b X w hk65 HA.out HB.out HX.out).mono ?_
    rintro e w1 ⟨P1, c1, _, rfl, hi, hB⟩
    go_wp2_with fail
    go_ret
    exact ⟨_, _, rfl, hi, hB⟩

set_option maxRecDepth 100000 in
set_option maxHeartbeats 2000000 in
theorem joined_9 (k : Nat) (hk : k = 32 ∨ k = 64) (P Q : Option Addr) (a b : Int) (w : World) (ha : IntsAt w P (bitsL a k)) (hb : IntsAt w Q (bitsL b k)) (X : Int) (hX : ∀ j, j < k → X / 2 ^ j % 2 = bw 9 (a / 2 ^ j % 2 + b / 2 ^ j % 2)) :
    Calls Try.prog 57 #[.int .i64 9, .slice P k k, .slice Q k k] w (JOut w k (X)) := by
  have hk6 : 6 ≤ k := by omega
  have hk5 : 5 ≤ k := by omega
  have hk6i : (6 : Int) ≤ k := by omega
  have hk5i : (5 : Int) ≤ k := by omega
  have hk65 : k ≤ 65 := by omega
  have N5 := Lib.hid (num_5 Q k b w hk6 hb)
  have N6 := Lib.hid (num_6 Q k b w hk6 hb)
  have HA := Lib.hid ha
  have HB := Lib.hid hb
  have HX := Lib.hid hX
  have HK := Lib.hid hk
  have HSL := Lib.hid (shk_le hk b)
  rcases row_facts hk b with ⟨t1, hs⟩ | ⟨t1, hs⟩
  all_goals
    have HS := Lib.hid hs
    clear hs ha hb hk hX
    go_enter Try.func57, Try.ntmps57
    go_wp2_with fail
    refine N5.out.mono ?_
    rintro e w' ⟨rfl, rfl⟩
    go_wp2_with fail
    try (refine N6.out.mono ?_; rintro e w' ⟨rfl, rfl⟩; go_wp2_with fail)
    refine (bitwise_any 9 (by decide) P Q k k k a b X w hk65 HA.out HB.out HX.out).mono ?_
    rintro e w1 ⟨P1, c1, _, rfl, hi, hB⟩
    go_wp2_with fail
    go_ret
    exact ⟨_, _, rfl, hi, hB⟩

set_option maxRecDepth 100000 in
set_option maxHeartbeats 2000000 in
theorem joined_10 (k : Nat) (hk : k = 32 ∨ k = 64) (P Q : Option Addr) (a b : Int) (w : World) (ha : IntsAt w P (bitsL a k)) (hb : IntsAt w Q (bitsL b k)) (X : Int) (hX : ∀ j, j < k → X / 2 ^ j % 2 = bw 10 (a / 2 ^ j % 2 + b / 2 ^ j % 2)) :
    Calls Try.prog 57 #[.int .i64 10, .slice P k k, .slice Q k k] w (JOut w k (X)) := by
  have hk6 : 6 ≤ k := by omega
  have hk5 : 5 ≤ k := by omega
  have hk6i : (6 : Int) ≤ k := by omega
  have hk5i : (5 : Int) ≤ k := by omega
  have hk65 : k ≤ 65 := by omega
  have N5 := Lib.hid (num_5 Q k b w hk6 hb)
  have N6 := Lib.hid (num_6 Q k b w hk6 hb)
  have HA := Lib.hid ha
  have HB := Lib.hid hb
  have HX := Lib.hid hX
  have HK := Lib.hid hk
  have HSL := Lib.hid (shk_le hk b)
  rcases row_facts hk b with ⟨t1, hs⟩ | ⟨t1, hs⟩
  all_goals
    have HS := Lib.hid hs
    clear hs ha hb hk hX
    go_enter Try.func57, Try.ntmps57
    go_wp2_with fail
    refine N5.out.mono ?_
    rintro e w' ⟨rfl, rfl⟩
    go_wp2_with fail
    try (refine N6.out.mono ?_; rintro e w' ⟨rfl, rfl⟩; go_wp2_with fail)
    refine (bitwise_any 10 (by decide) P Q k k k a b X w hk65 HA.out HB.out HX.out).mono ?_
    rintro e w1 ⟨P1, c1, _, rfl, hi, hB⟩
    go_wp2_with fail
    go_ret
    exact ⟨_, _, rfl, hi, hB⟩

set_option maxRecDepth 100000 in
set_option maxHeartbeats 2000000 in
theorem joined_11 (k : Nat) (hk : k = 32 ∨ k = 64) (P Q : Option Addr) (a b : Int) (w : World) (ha : IntsAt w P (bitsL a k)) (hb : IntsAt w Q (bitsL b k)) :
    Calls Try.prog 57 #[.int .i64 11, .slice P k k, .slice Q k k] w (JOut w k (a * 2 ^ shk k b)) := by
  have hk6 : 6 ≤ k := by omega
  have hk5 : 5 ≤ k := by omega
  have hk6i : (6 : Int) ≤ k := by omega
  have hk5i : (5 : Int) ≤ k := by omega
  have hk65 : k ≤ 65 := by omega
  have N5 := Lib.hid (num_5 Q k b w hk6 hb)
  have N6 := Lib.hid (num_6 Q k b w hk6 hb)
  have HA := Lib.hid ha
  have HB := Lib.hid hb
  have HK := Lib.hid hk
  have HSL := Lib.hid (shk_le hk b)
  rcases row_facts hk b with ⟨t1, hs⟩ | ⟨t1, hs⟩
  all_goals
    have HS := Lib.hid hs
    clear hs ha hb hk
    go_enter Try.func57, Try.ntmps57
    go_wp2_with fail
    refine N5.out.mono ?_
    rintro e w' ⟨rfl, rfl⟩
    go_wp2_with fail
    try (refine N6.out.mono ?_; rintro e w' ⟨rfl, rfl⟩; go_wp2_with fail)
    refine (up_b P k k (shk k b) _ a HS.out w w hk65 HSL.out HA.out (Below.refl _ _)).mono ?_
    rintro e w1 ⟨P1, c1, rfl, hi, _, hB⟩
    go_wp2_with fail
    go_ret
    exact ⟨_, _, rfl, hi, hB⟩

set_option maxRecDepth 100000 in
set_option maxHeartbeats 2000000 in
theorem joined_12 (k : Nat) (hk : k = 32 ∨ k = 64) (P Q : Option Addr) (a b : Int) (w : World) (ha : IntsAt w P (bitsL a k)) (hb : IntsAt w Q (bitsL b k)) :
    Calls Try.prog 57 #[.int .i64 12, .slice P k k, .slice Q k k] w (JOut w k ((a % 2 ^ k - 0 * 2 ^ k) / 2 ^ shk k b)) := by
  have hk6 : 6 ≤ k := by omega
  have hk5 : 5 ≤ k := by omega
  have hk6i : (6 : Int) ≤ k := by omega
  have hk5i : (5 : Int) ≤ k := by omega
  have hk65 : k ≤ 65 := by omega
  have N5 := Lib.hid (num_5 Q k b w hk6 hb)
  have N6 := Lib.hid (num_6 Q k b w hk6 hb)
  have HA := Lib.hid ha
  have HB := Lib.hid hb
  have HK := Lib.hid hk
  have HSL := Lib.hid (shk_le hk b)
  rcases row_facts hk b with ⟨t1, hs⟩ | ⟨t1, hs⟩
  all_goals
    have HS := Lib.hid hs
    clear hs ha hb hk
    go_enter Try.func57, Try.ntmps57
    go_wp2_with fail
    refine N5.out.mono ?_
    rintro e w' ⟨rfl, rfl⟩
    go_wp2_with fail
    try (refine N6.out.mono ?_; rintro e w' ⟨rfl, rfl⟩; go_wp2_with fail)
    refine (down_any P k k (shk k b) _ a 0 HS.out (.inl rfl) w hk65 HSL.out HA.out).mono ?_
    rintro e w1 ⟨P1, c1, _, rfl, hi, hB⟩
    go_wp2_with fail
    go_ret
    exact ⟨_, _, rfl, hi, hB⟩

set_option maxRecDepth 100000 in
set_option maxHeartbeats 2000000 in
theorem joined_13 (k : Nat) (hk : k = 32 ∨ k = 64) (P Q : Option Addr) (a b : Int) (w : World) (ha : IntsAt w P (bitsL a k)) (hb : IntsAt w Q (bitsL b k)) :
    Calls Try.prog 57 #[.int .i64 13, .slice P k k, .slice Q k k] w (JOut w k ((a % 2 ^ k - (a / 2 ^ (k - 1) % 2) * 2 ^ k) / 2 ^ shk k b)) := by
  have hk6 : 6 ≤ k := by omega
  have hk5 : 5 ≤ k := by omega
  have hk6i : (6 : Int) ≤ k := by omega
  have hk5i : (5 : Int) ≤ k := by omega
  have hk65 : k ≤ 65 := by omega
  have N5 := Lib.hid (num_5 Q k b w hk6 hb)
  have N6 := Lib.hid (num_6 Q k b w hk6 hb)
  have HA := Lib.hid ha
  have HB := Lib.hid hb
  have HK := Lib.hid hk
  have HSL := Lib.hid (shk_le hk b)
  obtain ⟨bb, oo, hP, hcell⟩ := ha.bit (Below.refl _ _) (k - 1) (by omega)
  have hP := Lib.hid hP
  have hk1 : (0 : Int) ≤ (k : Int) - 1 := by omega
  have hk2 : ((k : Int) - 1).toNat = k - 1 := by omega
  have hk3 : (k : Int) - 1 < k := by omega
  have hf01 : a / 2 ^ (k - 1) % 2 = 0 ∨ a / 2 ^ (k - 1) % 2 = 1 := by omega
  generalize a / 2 ^ (k - 1) % 2 = f at *
  have HF := Lib.hid hf01
  clear hf01
  rcases row_facts hk b with ⟨t1, hs⟩ | ⟨t1, hs⟩
  all_goals
    have HS := Lib.hid hs
    clear hs ha hb hk
    have hPP := hP.out
    subst hPP
    obtain ⟨m1, hm1⟩ : ∃ m1, k - 1 = m1 := ⟨_, rfl⟩
    rw [hm1] at hcell hk2
    clear hm1
    go_enter Try.func57, Try.ntmps57
    go_wp2_with fail
    refine N5.out.mono ?_
    rintro e w' ⟨rfl, rfl⟩
    go_wp2_with fail
    try (refine N6.out.mono ?_; rintro e w' ⟨rfl, rfl⟩; go_wp2_with fail)
    refine (down_any _ k k (shk k b) _ a f HS.out HF.out w hk65 HSL.out HA.out).mono ?_
    rintro e w1 ⟨P1, c1, _, rfl, hi, hB⟩
    go_wp2_with fail
    go_ret
    exact ⟨_, _, rfl, hi, hB⟩

set_option maxRecDepth 100000 in
set_option maxHeartbeats 2000000 in
theorem joined_14 (k : Nat) (hk : k = 32 ∨ k = 64) (P Q : Option Addr) (a b : Int) (w : World) (ha : IntsAt w P (bitsL a k)) (hb : IntsAt w Q (bitsL b k)) :
    Calls Try.prog 57 #[.int .i64 14, .slice P k k, .slice Q k k] w (JOut w k (-a)) := by
  have hk6 : 6 ≤ k := by omega
  have hk5 : 5 ≤ k := by omega
  have hk6i : (6 : Int) ≤ k := by omega
  have hk5i : (5 : Int) ≤ k := by omega
  have hk65 : k ≤ 65 := by omega
  have N5 := Lib.hid (num_5 Q k b w hk6 hb)
  have N6 := Lib.hid (num_6 Q k b w hk6 hb)
  have HA := Lib.hid ha
  have HB := Lib.hid hb
  have HK := Lib.hid hk
  have HSL := Lib.hid (shk_le hk b)
  rcases row_facts hk b with ⟨t1, hs⟩ | ⟨t1, hs⟩
  all_goals
    have HS := Lib.hid hs
    clear hs ha hb hk
    go_enter Try.func57, Try.ntmps57
    go_wp2_with fail
    refine N5.out.mono ?_
    rintro e w' ⟨rfl, rfl⟩
    go_wp2_with fail
    try (refine N6.out.mono ?_; rintro e w' ⟨rfl, rfl⟩; go_wp2_with fail)
    refine (negative_any P k k a w hk65 HA.out).mono ?_
    rintro e w1 ⟨P1, c1, rfl, hi, hB⟩
    go_wp2_with fail
    go_ret
    exact ⟨_, _, rfl, hi, hB⟩

set_option maxRecDepth 100000 in
set_option maxHeartbeats 2000000 in
theorem joined_15 (k : Nat) (hk : k = 32 ∨ k = 64) (P Q : Option Addr) (a b : Int) (w : World) (ha : IntsAt w P (bitsL a k)) (hb : IntsAt w Q (bitsL b k)) :
    Calls Try.prog 57 #[.int .i64 15, .slice P k k, .slice Q k k] w (JOut w k (b)) := by
  have hk6 : 6 ≤ k := by omega
  have hk5 : 5 ≤ k := by omega
  have hk6i : (6 : Int) ≤ k := by omega
  have hk5i : (5 : Int) ≤ k := by omega
  have hk65 : k ≤ 65 := by omega
  have N5 := Lib.hid (num_5 Q k b w hk6 hb)
  have N6 := Lib.hid (num_6 Q k b w hk6 hb)
  have HA := Lib.hid ha
  have HB := Lib.hid hb
  have HK := Lib.hid hk
  have HSL := Lib.hid (shk_le hk b)
  rcases row_facts hk b with ⟨t1, hs⟩ | ⟨t1, hs⟩
  all_goals
    have HS := Lib.hid hs
    clear hs ha hb hk
    go_enter Try.func57, Try.ntmps57
    go_wp2_with fail
    refine N5.out.mono ?_
    rintro e w' ⟨rfl, rfl⟩
    go_wp2_with fail
    try (refine N6.out.mono ?_; rintro e w' ⟨rfl, rfl⟩; go_wp2_with fail)
    have hi := HB.out
    have hB := Below.refl w.heap.size w
    go_ret
    exact ⟨_, _, rfl, hi, hB⟩

end Go.Proofs.Ytjhgjplhhhgfcaa
