/- Package deed: a loop and a tag are written. Laid by wip/tools/mkdeq.py. -/
import Derived.Test.YtbomihdnnidelaaDeP
namespace Go.Proofs.Ytbomihdnnidelaa
open Go.ChangeShapes Go.WideShapes Go.ChangeAt Go.RowKit
open Dee
set_option linter.unusedVariables false
set_option linter.unusedSimpArgs false
set_option maxRecDepth 100000
theorem num_small (n : Nat) (h : n < 9223372036854775808) : (num n).length ≤ 9 := num_len10 n h
theorem loopB_parts {l : Lp} (h : loopB l = true) : (0 ≤ l.h ∧ l.h ≤ 511) ∧ (0 ≤ l.a ∧ l.a ≤ 59) ∧ (0 ≤ l.b ∧ l.b ≤ 59) ∧ (-1099511627776 ≤ l.k ∧ l.k ≤ 1099511627776) ∧ (0 ≤ l.d ∧ l.d ≤ 1099511627776) := by
  unfold loopB at h
  simp only [Bool.and_eq_true] at h
  obtain ⟨h1, h2, h3, h4, h5⟩ := h
  exact ⟨(headB_iff _).1 h1, (varB_iff _).1 h2, (varB_iff _).1 h3, (constB_iff _).1 h4, (fallB_iff _).1 h5⟩
theorem zig_lt (n : Int) (h : -1152921504606846976 ≤ n ∧ n ≤ 1152921504606846976) : zig n < 9223372036854775808 := by unfold zig; split <;> omega
theorem loopW_len {l : Lp} (h : loopB l = true) : (loopW l).length ≤ 45 := by
  obtain ⟨h1, h2, h3, h4, h5⟩ := loopB_parts h
  unfold loopW
  simp only [List.length_append]
  have a1 := num_len10 l.h.toNat (by omega)
  have a2 := num_len10 l.a.toNat (by omega)
  have a3 := num_len10 l.b.toNat (by omega)
  have a4 := num_len10 (zig l.k) (zig_lt _ (by omega))
  have a5 := num_len10 l.d.toNat (by omega)
  omega
set_option maxHeartbeats 2000000 in
theorem loop_w (w : World) (g base B : Nat) (L : List Int) (l : Lp) (h : Wr w g base L) (hB : B ≤ g ∧ B ≤ base) (hl : loopB l = true) (hlen : L.length ≤ 1099511627600) :
    Calls Try.prog 52 #[.pointer (some ⟨g, 0, none⟩), loV l] w (WrEnd w g base B (L ++ loopW l)) := by
  obtain ⟨⟨h00, h01⟩, ⟨h10, h11⟩, ⟨h20, h21⟩, ⟨h30, h31⟩, ⟨h40, h41⟩⟩ := loopB_parts hl
  obtain ⟨xh, xa, xb, xk, xd⟩ := l
  simp only at h00 h01 h10 h11 h20 h21 h30 h31 h40 h41
  have HLW := Lib.hid (show L ++ loopW ⟨xh, xa, xb, xk, xd⟩ = ((((L ++ num xh.toNat) ++ num xa.toNat) ++ num xb.toNat) ++ num (zig xk)) ++ num xd.toNat by unfold loopW; simp only [List.append_assoc])
  obtain ⟨nh, hnh⟩ := Int.eq_ofNat_of_zero_le h00
  obtain ⟨na, hna⟩ := Int.eq_ofNat_of_zero_le h10
  obtain ⟨nb, hnb⟩ := Int.eq_ofNat_of_zero_le h20
  obtain ⟨nd, hnd⟩ := Int.eq_ofNat_of_zero_le h40
  subst hnh hna hnb hnd
  rw [show (((nh : Nat) : Int)).toNat = nh by omega, show (((na : Nat) : Int)).toNat = na by omega, show (((nb : Nat) : Int)).toNat = nb by omega, show (((nd : Nat) : Int)).toNat = nd by omega] at HLW
  have HN := Lib.hid (And.intro (num_len10 nh (by omega)) (And.intro (num_len10 na (by omega)) (And.intro (num_len10 nb (by omega)) (num_len10 (zig xk) (zig_lt _ (by omega))))))
  have HW0 := Lib.hid h
  have HB := Lib.hid hB
  have HL := Lib.hid hlen
  clear h hB hl hlen
  unfold loV
  go_enter Try.func52, Try.ntmps52
  go_upto_region 1 with (refine wpList_box_seg rfl _ (.tmp 1) rfl 5 (loF ⟨nh, na, nb, xk, nd⟩) rfl ?_; intro w1 h1 hB1 hs1)
  obtain ⟨gb, hgb⟩ : ∃ gb, gb = w.heap.size := ⟨_, rfl⟩
  rw [← hgb] at h1 ⊢
  have HF0 := Lib.hid h1
  have HT0 := Lib.hid (WT.of_below hB1 (Nat.le_trans HB.out.2 HW0.out.base))
  have HW1 := Lib.hid (HW0.out.up hB1)
  clear h1 hB1 hs1 hgb HW0
  have x0 : w1.cell? ⟨gb, 0, none⟩ = some (.int .i64 ((nh : Nat) : Int)) := HF0.out.cell 0 (by decide)
  go_wp2_with fail
  refine (number_w w1 g base B L nh HW1.out HB.out (by omega) (by have := HL.out; obtain ⟨n1, n2, n3, n4⟩ := HN.out; (try simp only [List.length_append]); omega)).mono ?_
  rintro e v0 ⟨rfl, h2, hT2⟩
  have HV0 := Lib.hid h2
  have HF1 := Lib.hid (hT2.fb HF0.out (by decide) (by decide))
  have HT1 := Lib.hid (HT0.out.trans hT2)
  clear h2 hT2 x0 HF0 HT0 HW1
  have x1 : v0.cell? ⟨gb, 1, none⟩ = some (.int .i64 ((na : Nat) : Int)) := HF1.out.cell 1 (by decide)
  go_wp2_with fail
  refine (number_w v0 g base B (L ++ num nh) na HV0.out HB.out (by omega) (by have := HL.out; obtain ⟨n1, n2, n3, n4⟩ := HN.out; (try simp only [List.length_append]); omega)).mono ?_
  rintro e v1 ⟨rfl, h2, hT2⟩
  have HV1 := Lib.hid h2
  have HF2 := Lib.hid (hT2.fb HF1.out (by decide) (by decide))
  have HT2 := Lib.hid (HT1.out.trans hT2)
  clear h2 hT2 x1 HF1 HT1 HV0
  have x2 : v1.cell? ⟨gb, 2, none⟩ = some (.int .i64 ((nb : Nat) : Int)) := HF2.out.cell 2 (by decide)
  go_wp2_with fail
  refine (number_w v1 g base B ((L ++ num nh) ++ num na) nb HV1.out HB.out (by omega) (by have := HL.out; obtain ⟨n1, n2, n3, n4⟩ := HN.out; (try simp only [List.length_append]); omega)).mono ?_
  rintro e v2 ⟨rfl, h2, hT2⟩
  have HV2 := Lib.hid h2
  have HF3 := Lib.hid (hT2.fb HF2.out (by decide) (by decide))
  have HT3 := Lib.hid (HT2.out.trans hT2)
  clear h2 hT2 x2 HF2 HT2 HV1
  have x3 : v2.cell? ⟨gb, 3, none⟩ = some (.int .i64 xk) := HF3.out.cell 3 (by decide)
  go_wp2_with fail
  refine (signed_wr v2 g base B (((L ++ num nh) ++ num na) ++ num nb) xk HV2.out HB.out (by omega) (by have := HL.out; obtain ⟨n1, n2, n3, n4⟩ := HN.out; (try simp only [List.length_append]); omega)).mono ?_
  rintro e v3 ⟨rfl, h2, hT2⟩
  have HV3 := Lib.hid h2
  have HF4 := Lib.hid (hT2.fb HF3.out (by decide) (by decide))
  have HT4 := Lib.hid (HT3.out.trans hT2)
  clear h2 hT2 x3 HF3 HT3 HV2
  have x4 : v3.cell? ⟨gb, 4, none⟩ = some (.int .i64 ((nd : Nat) : Int)) := HF4.out.cell 4 (by decide)
  go_wp2_with fail
  refine (number_w v3 g base B ((((L ++ num nh) ++ num na) ++ num nb) ++ num (zig xk)) nd HV3.out HB.out (by omega) (by have := HL.out; obtain ⟨n1, n2, n3, n4⟩ := HN.out; (try simp only [List.length_append]); omega)).mono ?_
  rintro e v4 ⟨rfl, h2, hT2⟩
  have HV4 := Lib.hid h2
  have HF5 := Lib.hid (hT2.fb HF4.out (by decide) (by decide))
  have HT5 := Lib.hid (HT4.out.trans hT2)
  clear h2 hT2 x4 HF4 HT4 HV3
  go_wp2_with fail
  go_end0
  exact ⟨rfl, by rw [HLW.out]; exact HV4.out, HT5.out⟩
theorem toldB_parts {slot : Bool} {t : Tag} (h : toldB slot t = true) : (0 ≤ t.k ∧ t.k ≤ 6) ∧ (tabledB t.k = true → 0 ≤ t.t ∧ t.t ≤ 7) ∧ (tabledB t.k = false → (slot && decide (t.k = 0)) = true → 1 ≤ t.m ∧ t.m ≤ 255) := by
  unfold toldB at h
  rw [Bool.and_eq_true] at h
  refine ⟨(kindB_iff _).1 h.1, fun h1 => ?_, fun h1 h2 => ?_⟩
  · have h3 := h.2
    rw [if_pos h1, Bool.and_eq_true] at h3
    exact (tableB_iff _).1 h3.1
  · have h3 := h.2
    rw [if_neg (by rw [h1]; decide), if_pos h2, Bool.and_eq_true] at h3
    exact (writB_iff _).1 h3.2
theorem tagW_len (slot : Bool) (t : Tag) : (tagW slot t).length ≤ 2 := by
  unfold tagW
  split
  · simp
  · split <;> simp
set_option maxHeartbeats 2000000 in
theorem tag_w (w : World) (g base B : Nat) (L : List Int) (t : Tag) (slot : Bool) (h : Wr w g base L) (hB : B ≤ g ∧ B ≤ base) (hl : toldB slot t = true) (hlen : L.length ≤ 1099511627600) :
    Calls Try.prog 76 #[.pointer (some ⟨g, 0, none⟩), tgV t, .bool slot] w (WrEnd w g base B (L ++ tagW slot t)) := by
  obtain ⟨⟨p0, p1⟩, pt, pm⟩ := toldB_parts hl
  obtain ⟨k, tt, m⟩ := t
  simp only at p0 p1 pt pm
  have HW0 := Lib.hid h
  have HB := Lib.hid hB
  have HL := Lib.hid hlen
  have PT := Lib.hid pt
  have PM := Lib.hid pm
  clear h hB hl hlen pt pm
  unfold tgV
  go_enter Try.func76, Try.ntmps76
  go_upto_region 1 with (refine wpList_box_seg rfl _ (.tmp 1) rfl 3 (tgF ⟨k, tt, m⟩) rfl ?_; intro w1 h1 hB1 hs1)
  obtain ⟨gb, hgb⟩ : ∃ gb, gb = w.heap.size := ⟨_, rfl⟩
  rw [← hgb] at h1 ⊢
  have HF0 := Lib.hid h1
  have HT0 := Lib.hid (WT.of_below hB1 (Nat.le_trans HB.out.2 HW0.out.base))
  have HW1 := Lib.hid (HW0.out.up hB1)
  clear h1 hB1 hs1 hgb HW0
  have x0 : w1.cell? ⟨gb, 0, none⟩ = some (.int .i64 k) := HF0.out.cell 0 (by decide)
  go_wp2_with fail
  refine (byte_w w1 g base B L k HW1.out HB.out (by omega) (by have := HL.out; omega)).mono ?_
  rintro e w2 ⟨rfl, h2, hT2⟩
  have HW2 := Lib.hid h2
  have HF1 := Lib.hid (hT2.fb HF0.out (by decide) (by decide))
  have HT1 := Lib.hid (HT0.out.trans hT2)
  clear h2 hT2 x0 HF0 HT0 HW1
  have x0 : w2.cell? ⟨gb, 0, none⟩ = some (.int .i64 k) := HF1.out.cell 0 (by decide)
  have x1 : w2.cell? ⟨gb, 1, none⟩ = some (.int .i64 tt) := HF1.out.cell 1 (by decide)
  have x2 : w2.cell? ⟨gb, 2, none⟩ = some (.int .i64 m) := HF1.out.cell 2 (by decide)
  go_wp2_with fail
  refine (tabled_any k _).mono ?_
  rintro e u0 ⟨rfl, rfl⟩
  cases ht : tabledB k
  · by_cases hsl : slot = true
    · subst hsl
      by_cases hk0 : k = 0
      · have hm := PM.out ht (by rw [decide_eq_true hk0]; rfl)
        have HE := Lib.hid (show L ++ tagW true ⟨k, tt, m⟩ = (L ++ [k]) ++ [m] by unfold tagW; simp only; rw [if_neg (by rw [ht]; decide), if_pos (by rw [decide_eq_true hk0]; rfl), List.append_assoc]; rfl)
        subst hk0
        clear ht
        go_wp2_with fail
        refine (byte_w _ g base B (L ++ [0]) m HW2.out HB.out (by omega) (by have := HL.out; simp; omega)).mono ?_
        rintro e w3 ⟨rfl, h3, hT3⟩
        have H3 := Lib.hid h3
        have HT3 := Lib.hid (HT1.out.trans hT3)
        clear h3 hT3
        go_wp2_with fail
        go_end0
        exact ⟨rfl, by rw [HE.out]; exact H3.out, HT3.out⟩
      · have tk : (k == 0) = false := by rw [beq_eq_false_iff_ne]; exact hk0
        have HE := Lib.hid (show L ++ tagW true ⟨k, tt, m⟩ = L ++ [k] by unfold tagW; simp only; rw [if_neg (by rw [ht]; decide), if_neg (by rw [decide_eq_false hk0]; decide)])
        clear ht hk0
        go_wp2_with fail
        go_end0
        exact ⟨rfl, by rw [HE.out]; exact HW2.out, HT1.out⟩
    · have hs2 : slot = false := by simpa using hsl
      subst hs2
      have HE := Lib.hid (show L ++ tagW false ⟨k, tt, m⟩ = L ++ [k] by unfold tagW; simp only; rw [if_neg (by rw [ht]; decide), if_neg (by simp)])
      clear ht hsl
      go_wp2_with fail
      go_end0
      exact ⟨rfl, by rw [HE.out]; exact HW2.out, HT1.out⟩
  · have hm := PT.out ht
    have HE := Lib.hid (show L ++ tagW slot ⟨k, tt, m⟩ = (L ++ [k]) ++ [tt] by unfold tagW; simp only; rw [if_pos ht, List.append_assoc]; rfl)
    clear ht
    go_wp2_with fail
    refine (byte_w _ g base B (L ++ [k]) tt HW2.out HB.out (by omega) (by have := HL.out; simp; omega)).mono ?_
    rintro e w3 ⟨rfl, h3, hT3⟩
    have H3 := Lib.hid h3
    have HT3 := Lib.hid (HT1.out.trans hT3)
    clear h3 hT3
    go_wp2_with fail
    go_end0
    exact ⟨rfl, by rw [HE.out]; exact H3.out, HT3.out⟩
end Go.Proofs.Ytbomihdnnidelaa
