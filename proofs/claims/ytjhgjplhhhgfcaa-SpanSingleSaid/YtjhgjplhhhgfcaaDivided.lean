/- The document's long division of rows of bits. -/
import Derived.Test.YtjhgjplhhhgfcaaRowOps4
namespace Go.Proofs.Ytjhgjplhhhgfcaa
open Go.ChangeShapes Go.WideShapes Go.ChangeAt Go.RowKit
open Bits
set_option linter.unusedVariables false

theorem OwnI.form2 {w : World} {base : Nat} {v : Value} {L : List Int} (h : OwnI w base v L) (hp : 0 < L.length) :
    ∃ g c, v = .slice (some ⟨g, 0, none⟩) L.length c ∧ L.length ≤ c ∧ base ≤ g ∧ g < w.heap.size ∧ IntsAt w (some ⟨g, 0, none⟩) L := by
  obtain ⟨A, c, hv, hat⟩ := h.form
  rcases h.2 with ⟨hv', hn⟩ | ⟨g, cap, cur, hv', hg, hh, hnc, _⟩
  · omega
  · have hlt : g < w.heap.size := by
      rcases Nat.lt_or_ge g w.heap.size with h1 | h1
      · exact h1
      · rw [Array.getElem?_eq_none h1] at hh; cases hh
    rw [hv'] at hv
    injection hv with e1 e2 e3
    exact ⟨g, cap, hv', hnc, hg, hlt, by rw [e1]; exact hat⟩
theorem IntsAt.far {w : World} {g : Nat} {L : List Int} (h : IntsAt w (some ⟨g, 0, none⟩) L) {p : Addr} (hp : g ≠ p.block) (u : Value) : IntsAt (w.setCell p u) (some ⟨g, 0, none⟩) L := fun h0 => by
  obtain ⟨b, off, e, hlt, hc⟩ := h h0
  injection e with e; injection e with e1 e2
  refine ⟨g, 0, rfl, by simp [World.setCell]; omega, fun i hi => ?_⟩
  rw [World.cell?_setCell_other _ _ _ _ (fun e => hp (congrArg Addr.block e).symm), ← hc i hi, ← e1, ← e2]
theorem IntBlk.far {w : World} {g : Nat} {L : List Int} (h : IntBlk w g L) {p : Addr} (hp : g ≠ p.block) (u : Value) : IntBlk (w.setCell p u) g L := (Below.heap_setCell w p u g hp).trans h

theorem IntsAt.prefix_ {w : World} {P : Option Addr} {x : Int} {m k : Nat} (h : IntsAt w P (bitsL x m)) (hk : k ≤ m) : IntsAt w P (bitsL x k) := fun hp => by
  rw [bitsL_length] at hp
  obtain ⟨b, off, e, hlt, hc⟩ := h (by rw [bitsL_length]; omega)
  refine ⟨b, off, e, hlt, fun i hi => ?_⟩
  rw [bitsL_length] at hi
  rw [hc i (by rw [bitsL_length]; omega), bits_at x m i (by omega), bits_at x k i hi]
theorem wide_eq (b : Int) (k : Nat) : bitsL b k ++ [0] = bitsL (b % 2 ^ k) (k + 1) := by
  have h1 := Int.emod_nonneg b (Int.ne_of_gt (pow_pos' k))
  have h2 := Int.emod_lt_of_pos b (pow_pos' k)
  have e : bitsL b k = bitsL (b % 2 ^ k) k := bitsL_congr (by rw [Int.emod_emod])
  rw [e]
  have : bitsL (b % 2 ^ k) (k + 1) = bitsL (b % 2 ^ k) k ++ [b % 2 ^ k / 2 ^ k % 2] := by
    unfold bitsL; rw [List.range_succ, List.map_append]; rfl
  rw [this, Int.ediv_eq_zero_of_lt h1 h2]
  rfl
theorem set_low (x y : Int) (hy : y = 0 ∨ y = 1) (m : Nat) : (bitsL (x * 2 ^ 1) (m + 1)).set 0 y = bitsL (2 * x + y) (m + 1) := by
  rw [bitsL_succ, bitsL_succ, List.set_cons_zero, show (2 : Int) ^ 1 = 2 from rfl]
  rw [show x * 2 / 2 = x by omega, show (2 * x + y) % 2 = y by omega, show (2 * x + y) / 2 = x by omega]
/-- the quotient's row with its places below j not yet written -/
def qL (Q : Int) (k j : Nat) : List Int := (List.range k).map fun i => if i < j then 0 else Q / 2 ^ i % 2
theorem qL_length (Q : Int) (k j : Nat) : (qL Q k j).length = k := by simp [qL]
theorem qL_start (Q : Int) (k : Nat) : qL Q k k = zerosL k := by
  refine List.ext_getElem (by simp [qL, zerosL]) fun i h1 h2 => ?_
  have hi : i < k := by rw [qL_length] at h1; exact h1
  simp [qL, zerosL, hi]
theorem qL_end (Q : Int) (k : Nat) : qL Q k 0 = bitsL Q k := by
  refine List.ext_getElem (by simp [qL, bitsL]) fun i h1 h2 => ?_
  simp [qL, bitsL]
theorem qL_step (Q : Int) (k j : Nat) (h : j < k) : (qL Q k (j + 1)).set j (Q / 2 ^ j % 2) = qL Q k j := by
  refine List.ext_getElem (by simp [qL]) fun i h1 h2 => ?_
  have hi : i < k := by rw [qL_length] at h2; exact h2
  rw [List.getElem_set]
  simp only [qL, List.getElem_map, List.getElem_range]
  by_cases e : j = i
  · subst e; simp
  · by_cases h3 : i < j
    · simp [e, h3, show i < j + 1 by omega]
    · simp [e, h3, show ¬ i < j + 1 by omega]
theorem qL_keep (Q : Int) (k j : Nat) (h : j < k) (h0 : Q / 2 ^ j % 2 = 0) : qL Q k (j + 1) = qL Q k j := by
  rw [← qL_step Q k j h, h0]
  refine List.ext_getElem (by simp [qL]) fun i h1 h2 => ?_
  rw [List.getElem_set]
  simp only [qL, List.getElem_map, List.getElem_range]
  by_cases e : j = i
  · subst e; simp
  · simp [e]

/-- one place of the division -/
theorem div_place (A B : Int) (hA : 0 ≤ A) (hB : 0 < B) (j : Nat) (x : Int) (hx : A / 2 ^ j % 2 = x) (R' : Int) (hR : 2 * (A / 2 ^ (j + 1) % B) + x = R') :
    (R' < B → A / 2 ^ j % B = R' ∧ A / B / 2 ^ j % 2 = 0) ∧ (¬ R' < B → A / 2 ^ j % B = R' + (-B - 1) + 1 ∧ A / B / 2 ^ j % 2 = 1) ∧ 0 ≤ R' ∧ R' < 2 * B := by
  have hp := pow_pos' j
  have e1 : A / 2 ^ (j + 1) = A / 2 ^ j / 2 := by rw [Int.pow_succ, ← Int.ediv_ediv_of_nonneg (Int.le_of_lt hp)]
  have e2 : A / B / 2 ^ j = A / 2 ^ j / B := by
    rw [Int.ediv_ediv_of_nonneg (Int.le_of_lt hB), Int.ediv_ediv_of_nonneg (Int.le_of_lt hp), Int.mul_comm]
  have hu : 0 ≤ A / 2 ^ j := Int.ediv_nonneg hA (Int.le_of_lt hp)
  rw [e1] at hR
  rw [e2]
  generalize A / 2 ^ j = u at *
  have h1 := Int.emod_add_mul_ediv (u / 2) B
  have h2 := Int.emod_nonneg (u / 2) (show B ≠ 0 by omega)
  have h3 := Int.emod_lt_of_pos (u / 2) hB
  have h4 : u = R' + B * (2 * (u / 2 / B)) := by
    rw [Int.mul_left_comm]; omega
  generalize u / 2 / B = v at *
  refine ⟨fun h => ?_, fun h => ?_, by omega, by omega⟩
  · rw [h4, Int.add_mul_emod_self_left, Int.add_mul_ediv_left _ _ (by omega), Int.emod_eq_of_lt (by omega) h, Int.ediv_eq_zero_of_lt (by omega) h]
    exact ⟨rfl, by omega⟩
  · have e3 : R' = (R' - B) + B * 1 := by omega
    have e4 : R' + B * (2 * v) = (R' - B) + B * (1 + 2 * v) := by rw [Int.mul_add]; omega
    rw [h4, e4, Int.add_mul_emod_self_left, Int.add_mul_ediv_left _ _ (by omega), Int.emod_eq_of_lt (by omega) (by omega), Int.ediv_eq_zero_of_lt (by omega) (by omega)]
    exact ⟨by omega, by omega⟩

theorem less_w (P Q : Option Addr) (c d m : Nat) (x y : Int) (w : World) (hm : m ≤ 65) (hx : 0 ≤ x ∧ x < 2 ^ m) (hy : 0 ≤ y ∧ y < 2 ^ m) (ha : IntsAt w P (bitsL x m)) (hb : IntsAt w Q (bitsL y m)) :
    Calls Try.prog 70 #[.slice P m c, .slice Q m d] w fun e w' => e = .returned (.bool (decide (x < y))) ∧ ∃ q, w' = w.drewN q := by
  have h := less_65 P Q c d m (bitsL x m) (bitsL y m) w (bitsL_length _ _) (bitsL_length _ _) hm (bit_bits _ _) (bit_bits _ _) ha hb
  rw [valL_bits, valL_bits, Int.emod_eq_of_lt hx.1 hx.2, Int.emod_eq_of_lt hy.1 hy.2] at h
  exact h

theorem own_room {w wa w1 : World} {v' : Value} {b : Int} {k : Nat} (h1 : w.heap.size ≤ wa.heap.size) (hB : Below w.heap.size wa w1) (hk : k ≤ 64) (h : OwnI w1 w.heap.size v' ([] ++ bitsL b k)) :
    OwnI (w1.alloc (.cells #[.int .i64 0] 3)) w.heap.size v' ([] ++ bitsL b k) ∧ ([] ++ bitsL b k).length + 1 ≤ 1099511627776 ∧ w.heap.size ≤ (w1.alloc (.cells #[.int .i64 0] 3)).heap.size :=
  ⟨World.ownsRow.alloc h _, by rw [List.nil_append, bitsL_length]; omega, by have := hB.size; simp; omega⟩

theorem wide_form {w2 : World} {base k m : Nat} {v2 : Value} {b B : Int} (h : OwnI w2 base v2 (([] ++ bitsL b k) ++ [0])) (hW : bitsL b k ++ [0] = bitsL B (k + 1)) (hm : k + 1 = m) :
    ∃ gw cw, v2 = .slice (some ⟨gw, 0, none⟩) m cw ∧ base ≤ gw ∧ gw < w2.heap.size ∧ IntsAt w2 (some ⟨gw, 0, none⟩) (bitsL B m) := by
  rw [List.nil_append, hW, hm] at h
  obtain ⟨g, c, hv, _, hb, hl, hat⟩ := h.form2 (by rw [bitsL_length]; omega)
  rw [bitsL_length] at hv
  exact ⟨g, c, hv, hb, hl, hat⟩

set_option maxRecDepth 100000 in
set_option maxHeartbeats 4000000 in
theorem divided_any (P Q : Option Addr) (c d k : Nat) (a b : Int) (w : World) (hk1 : 1 ≤ k) (hk : k ≤ 64) (ha : IntsAt w P (bitsL a k)) (hb : IntsAt w Q (bitsL b k)) (hb0 : 0 < b % 2 ^ k) :
    Calls Try.prog 74 #[.slice P k c, .slice Q k d] w fun e w' => ∃ P1 c1 P2 c2, e = .returned (.tuple #[.slice P1 k c1, .slice P2 k c2]) ∧
      IntsAt w' P1 (bitsL (a % 2 ^ k / (b % 2 ^ k)) k) ∧ IntsAt w' P2 (bitsL (a % 2 ^ k % (b % 2 ^ k)) k) ∧ Below w.heap.size w w' := by
  have ha0 := Int.emod_nonneg a (Int.ne_of_gt (pow_pos' k))
  have ha1 := Int.emod_lt_of_pos a (pow_pos' k)
  have hb1 := Int.emod_lt_of_pos b (pow_pos' k)
  have hA : bitsL a k = bitsL (a % 2 ^ k) k := bitsL_congr (by rw [Int.emod_emod])
  have hW := wide_eq b k
  have ha' := ha
  rw [hA] at ha'
  have HA := Lib.hid ha'
  have HB := Lib.hid hb
  have HW := Lib.hid hW
  obtain ⟨A, hAe⟩ : ∃ A, a % 2 ^ k = A := ⟨_, rfl⟩
  obtain ⟨B, hBe⟩ : ∃ B, b % 2 ^ k = B := ⟨_, rfl⟩
  rw [hBe] at HW hb0 hb1
  rw [hAe] at HA ha0 ha1
  rw [hAe, hBe]
  have HA0 := Lib.hid ha0
  have HA1 := Lib.hid ha1
  have HB0 := Lib.hid hb0
  have HB1 := Lib.hid hb1
  obtain ⟨m, hm⟩ : ∃ m, k + 1 = m := ⟨_, rfl⟩
  have hmi : (k : Int) + 1 = (m : Int) := by omega
  have HM := Lib.hid hm
  have hmk := make_ints m (by omega)
  have hmk2 := make_ints k (by omega)
  clear ha hb hA hW ha' hAe hBe ha0 ha1 hb0 hb1
  have hownN : OwnI (w.alloc (.cells #[] 3)) w.heap.size (.slice (some ⟨w.heap.size, 0, none⟩) 0 0) [] := by
    have := World.ownsRow_lit (e := 3) (size := 1) (base := w.heap.size) w #[] 0 (Nat.le_refl _) (by unfold maxLen; omega) rfl
    exact this
  have HON := Lib.hid hownN
  have hl1 : ([] : List Int).length + k ≤ 1099511627776 := by simp only [List.length_nil]; omega
  have hl2 : w.heap.size ≤ (w.alloc (.cells #[] 3)).heap.size := by simp
  have HB' := Lib.hid (HB.out.below ((Below.refl _ _).alloc (Nat.le_refl _) (.cells #[] 3)))
  clear hownN hm
  go_enter Try.func74, Try.ntmps74
  go_wp2_with (first
    | (at_builtin; (refine append_ints Try.underlying63 int_info _ rfl (.tmp 10) (.tmp 11) rfl w.heap.size _ _ rfl HON.out _ k _ _ rfl (bitsL_length b k) HB'.out hl1 hl2 ?_; intro v' w1 hown1 hB1; have HL3 := Lib.hid (own_room hl2 hB1 hk hown1)))
    | (at_builtin; (refine append_ints Try.underlying63 int_info _ rfl (.tmp 12) (.tmp 13) rfl w.heap.size _ _ rfl HL3.out.1 _ 1 _ [0] rfl rfl (IntBlk.new _ [0]).at_ HL3.out.2.1 HL3.out.2.2 ?_; intro v2 w2 hown2 hB2; obtain ⟨gw, cw, rfl, hgb, hgl, hatw⟩ := wide_form hown2 HW.out HM.out)))
  have hz0 : A / 2 ^ k % B = 0 := by rw [Int.ediv_eq_zero_of_lt HA0.out HA1.out]; simp
  have hrest : IntBlk ((w2.alloc (.cells ((zerosL m).map (Value.int .i64)).toArray 3)).alloc (.cells ((zerosL k).map (Value.int .i64)).toArray 3)) w2.heap.size (bitsL (A / 2 ^ k % B) m) := by
    rw [hz0, ← zeros_bits]
    exact (IntBlk.new w2 (zerosL m)).below ((Below.refl _ _).alloc (Nat.le_refl _) _) (by simp)
  have hq : IntBlk ((w2.alloc (.cells ((zerosL m).map (Value.int .i64)).toArray 3)).alloc (.cells ((zerosL k).map (Value.int .i64)).toArray 3)) (w2.heap.size + 1) (qL (A / B) k k) := by
    rw [qL_start]
    have := IntBlk.new (w2.alloc (.cells ((zerosL m).map (Value.int .i64)).toArray 3)) (zerosL k)
    simpa using this
  have hBw : Below w.heap.size w ((w2.alloc (.cells ((zerosL m).map (Value.int .i64)).toArray 3)).alloc (.cells ((zerosL k).map (Value.int .i64)).toArray 3)) := by
    have h1 : Below w.heap.size w w1 := ((Below.refl _ _).alloc (Nat.le_refl _) _).trans hB1
    have h2 : Below w.heap.size w w2 := (h1.alloc h1.size _).trans hB2
    exact (h2.alloc h2.size _).alloc (by have := h2.size; simp; omega) _
  have hwd : IntsAt ((w2.alloc (.cells ((zerosL m).map (Value.int .i64)).toArray 3)).alloc (.cells ((zerosL k).map (Value.int .i64)).toArray 3)) (some ⟨gw, 0, none⟩) (bitsL B m) :=
    (hatw.below ((Below.refl _ _).alloc (Nat.le_refl _) _)).below ((Below.refl _ _).alloc (Nat.le_refl _) _)
  have hgq : gw < w2.heap.size + 1 := by omega
  have hgq2 : w.heap.size ≤ w2.heap.size + 1 := by
    have h1 := hB1.size
    have h2 := hB2.size
    simp at h1 h2; omega
  clear hatw hgl hz0 hown1 hB1 hB2 hown2 HL3 hl1 hl2 HON HB' hmk hmk2 HB HW
  generalize ((w2.alloc (.cells ((zerosL m).map (Value.int .i64)).toArray 3)).alloc (.cells ((zerosL k).map (Value.int .i64)).toArray 3)) = w3 at *
  generalize w2.heap.size = gr0 at *
  generalize gr0 + 1 = gq at *
  go_loopw [7, 9] (fun v i wr => ∃ (j gr : Nat), j ≤ k ∧ i = .int .i64 ((j : Int) - 1) ∧ v = .slice (some ⟨gr, 0, none⟩) m m ∧ IntBlk wr gr (bitsL (A / 2 ^ j % B) m) ∧ IntBlk wr gq (qL (A / B) k j) ∧ IntsAt wr (some ⟨gw, 0, none⟩) (bitsL B m) ∧ Below w.heap.size w wr) (fun _ i _ => (intOf i + 1).toNat)
  case atStart => exact ⟨k, gr0, Nat.le_refl _, rfl, rfl, hrest, hq, hwd, hBw⟩
  case round =>
    clear hrest hq hwd hBw
    obtain ⟨j, gr, hj, rfl, rfl, hrest, hq, hwd, hB⟩ := hrel
    rcases j with _ | j
    · rw [show (((0 : Nat) : Int) - 1) = -1 by omega]
      rw [qL_end] at hq
      have h6 : IntsAt wr (some ⟨gr, 0, none⟩) (bitsL (A % B) k) := by
        have h7 := hrest.at_
        rw [Int.pow_zero, Int.ediv_one] at h7
        exact h7.prefix_ (by omega)
      have hkm : (k : Int) ≤ m := by omega
      have hkm' : k ≤ m := by omega
      have H6 := Lib.hid h6
      have HQ := Lib.hid hq
      clear h6 hrest hq
      go_wp2_with fail
      go_quiet (fail)
      go_wp2_with fail
      go_ret2
      exact ⟨_, _, _, _, rfl, HQ.out.at_, H6.out, below_drewN hB nq⟩
    · rw [show (((j + 1 : Nat) : Int) - 1) = (j : Int) by omega]
      obtain ⟨x, hx⟩ : ∃ x, A / 2 ^ j % 2 = x := ⟨_, rfl⟩
      obtain ⟨R, hR⟩ : ∃ R, A / 2 ^ (j + 1) % B = R := ⟨_, rfl⟩
      obtain ⟨R', hR'⟩ : ∃ R', 2 * R + x = R' := ⟨_, rfl⟩
      have hpl := div_place A B HA0.out HB0.out j x hx R' (by rw [hR]; exact hR')
      have hx01 : x = 0 ∨ x = 1 := by omega
      rw [hR] at hrest
      have hset := set_low R x hx01 k
      rw [HM.out, hR'] at hset
      have HSet := Lib.hid hset
      have HPl := Lib.hid hpl
      have HX := Lib.hid hx
      have HX01 := Lib.hid hx01
      have hm1 : 1 ≤ m := by omega
      have hm65 : m ≤ 65 := by omega
      have hj0 : (0 : Int) ≤ (j : Int) := by omega
      have C1 := Lib.hid (up_blk (some ⟨gr, 0, none⟩) m m 1 1 R rfl wr hm65 hm1 hrest.at_)
      have hlt := hrest.lt
      have hqlt := hq.lt
      clear hpl hset hx hR hR' hx01 hrest
      go_wp2_with fail
      refine C1.out.mono ?_
      rintro e w4 ⟨rfl, hb4, hB4⟩
      obtain ⟨b1, o1, rfl, hcell⟩ := HA.out.bit (hB.trans (hB4.mono hB.size)) j (by omega)
      rw [HX.out] at hcell
      have hc4 := hb4.cell 0 (by rw [bitsL_length]; omega)
      have hf4 := hb4.frozen 0
      have hb5 := hb4.set_ 0 x
      rw [HSet.out] at hb5
      generalize (bitsL (R * 2 ^ 1) m)[0]?.getD 0 = old at hc4
      have hq5 := (hq.below hB4 hqlt).far (p := ⟨wr.heap.size, 0, none⟩) (by show gq ≠ wr.heap.size; omega) (.int .i64 x)
      have hw5 := (hwd.below hB4).far (p := ⟨wr.heap.size, 0, none⟩) (by show gw ≠ wr.heap.size; omega) (.int .i64 x)
      have hB5 := (hB.trans (hB4.mono hB.size)).setCell (p := ⟨wr.heap.size, 0, none⟩) hB.size (.int .i64 x)
      have hs5 : wr.heap.size < (w4.setCell ⟨wr.heap.size, 0, none⟩ (.int .i64 x)).heap.size := hb5.lt
      have HB5 := Lib.hid hb5
      have HQ5 := Lib.hid hq5
      have HW5 := Lib.hid hw5
      have HBB5 := Lib.hid hB5
      clear C1 hb4 hB4 hq hwd hB hb5 hq5 hw5 hB5
      go_wp2_with fail
      generalize (w4.setCell ⟨wr.heap.size, 0, none⟩ (.int .i64 x)) = w5 at *
      have hp2 : (2 : Int) ^ m = 2 * 2 ^ k := by rw [← HM.out, Int.pow_succ]; omega
      have CL := Lib.hid (less_w (some ⟨wr.heap.size, 0, none⟩) (some ⟨gw, 0, none⟩) m cw m R' B w5 hm65 (by have := HPl.out.2.2; have := HB1.out; omega) (by have := HB0.out; have := HB1.out; omega) HB5.out.at_ HW5.out)
      clear hp2 hc4 hf4 hcell
      refine CL.out.mono ?_
      rintro e w6 ⟨rfl, q6, hw6⟩
      have HB6 := Lib.hid (show IntBlk w6 wr.heap.size (bitsL R' m) by rw [hw6]; exact HB5.out)
      have HQ6 := Lib.hid (show IntBlk w6 gq (qL (A / B) k (j + 1)) by rw [hw6]; exact HQ5.out)
      have HW6 := Lib.hid (show IntsAt w6 (some ⟨gw, 0, none⟩) (bitsL B m) by rw [hw6]; exact HW5.out)
      have HBB6 := Lib.hid (show Below w.heap.size w w6 by rw [hw6]; exact below_drewN HBB5.out q6)
      clear hw6 HB5 HQ5 HW5 HBB5 CL
      by_cases hlt2 : R' < B
      · have t1 : decide (R' < B) = true := by simp [hlt2]
        have HE := Lib.hid (HPl.out.1 hlt2)
        have hj' : j < k := by omega
        have HQ7 := Lib.hid (show IntBlk w6 gq (qL (A / B) k j) by rw [← qL_keep (A / B) k j hj' HE.out.2]; exact HQ6.out)
        clear hlt2
        go_wp2_with fail
        go_roundw
        case rel => exact ⟨j, _, by omega, by go_num, rfl, by rw [HE.out.1]; exact HB6.out, HQ7.out, HW6.out, HBB6.out⟩
        case measure => simp [intOf]
      · have t1 : decide (R' < B) = false := by simp; omega
        have HE := Lib.hid (HPl.out.2.1 (by omega))
        have C2 := Lib.hid (not_any (some ⟨gw, 0, none⟩) cw m B w6 hm65 HW6.out)
        clear hlt2
        go_wp2_with fail
        refine C2.out.mono ?_
        rintro e w7 ⟨P7, c7, _, rfl, hi7, hB7⟩
        have C3 := Lib.hid (plus_blk (some ⟨wr.heap.size, 0, none⟩) P7 m c7 m R' (-B - 1) 1 w7 hm65 (.inr rfl) (HB6.out.at_.below hB7) hi7)
        have HQ7 := Lib.hid (HQ6.out.below hB7 HQ6.out.lt)
        have HW7 := Lib.hid (HW6.out.below hB7)
        have HBB7 := Lib.hid (HBB6.out.trans (hB7.mono HBB6.out.size))
        clear C2 hi7 hB7
        go_wp2_with fail
        refine C3.out.mono ?_
        rintro e w8 ⟨rfl, hb8, hB8⟩
        have hq8 := HQ7.out.below hB8 HQ7.out.lt
        have hc8 := hq8.cell j (by rw [qL_length]; omega)
        have hf8 := hq8.frozen j
        have hq9 := hq8.set_ j 1
        rw [← HE.out.2, qL_step (A / B) k j (by omega), HE.out.2] at hq9
        have HQ9 := Lib.hid hq9
        have hne8 : w7.heap.size ≠ gq := by have := HQ7.out.lt; omega
        have HB9 := Lib.hid (hb8.far (p := ⟨gq, j, none⟩) hne8 (.int .i64 1))
        have hne9 : gw ≠ gq := by omega
        have HW9 := Lib.hid ((HW7.out.below hB8).far (p := ⟨gq, j, none⟩) hne9 (.int .i64 1))
        have HBB9 := Lib.hid ((HBB7.out.trans (hB8.mono HBB7.out.size)).setCell (p := ⟨gq, j, none⟩) hgq2 (.int .i64 1))
        have hjk : (j : Int) < k := by omega
        generalize (qL (A / B) k (j + 1))[j]?.getD 0 = old2 at hc8
        clear hq8 hq9 hb8 hB8 C3
        go_wp2_with fail
        go_roundw
        case rel => exact ⟨j, _, by omega, by go_num, rfl, by rw [HE.out.1]; exact HB9.out, HQ9.out, HW9.out, HBB9.out⟩
        case measure => simp [intOf]
end Go.Proofs.Ytjhgjplhhhgfcaa
