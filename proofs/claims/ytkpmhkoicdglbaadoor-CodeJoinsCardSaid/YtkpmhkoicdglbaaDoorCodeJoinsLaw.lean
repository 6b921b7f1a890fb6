/- CodeJoins: its walk. -/
import Derived.Test.YtkpmhkoicdglbaaDoorCodeJ1
namespace Go.Proofs.YtkpmhkoicdglbaaDoor
open Go.ChangeShapes Go.WideShapes Go.ChangeAt Go.RowKit
open Cod Bits
set_option linter.unusedVariables false

set_option maxHeartbeats 4000000 in
theorem codeJoins_bad (w : World) (A : Option Addr) (n c : Nat) (L : List Int) (hl : Left w w.heap.size A n c L) (hn : n ≤ 140737488355328) (A' : Option Addr) (n' c' : Nat) (M : List Int) (hl' : Left w w.heap.size A' n' c' M) (hn' : n' ≤ 140737488355328) (ht : Tabs w) (h0 : (D L 0 0).1 ≠ 0) :
    Calls Tryd.prog 5 #[.slice A n c, .slice A' n' c'] w fun e w' => e = .returned (.bool true) ∧ Below w.heap.size w w' := by
  have h1 := (D_norm L 0 0).2 h0
  have HK := Lib.hid (known_any w ht)
  have HD := Lib.hid (fun w1 (hB : Below w.heap.size w w1) => decode_any w1 A n c L (hl.up hB) (by omega) (ht.below hB))
  unfold Decoded at HD
  rw [h1] at HD
  generalize D L 0 0 = r at *
  obtain ⟨er, u, M0⟩ := r
  simp only at h0 HD
  have t0 : (er != 0) = true := by rw [bne_iff_ne]; exact h0
  clear hl hl' ht h0 h1
  go_enter Tryd.func5, Tryd.ntmps5
  go_wp2_with fail
  refine HK.out.mono ?_
  rintro e w1 ⟨rfl, hB1⟩
  have HD1 := Lib.hid (HD.out w1 hB1)
  have HB1 := Lib.hid hB1
  clear HD HK hB1
  go_wp2_with fail
  go_at_call 13
  refine HD1.out.mono ?_
  rintro e w2 ⟨v, rfl, hown, hB2⟩
  obtain ⟨A2, c2, rfl, _⟩ := hown.codeAt
  have HB2 := Lib.hid (HB1.out.trans (hB2.mono HB1.out.size))
  clear hown hB2 HB1 HD1
  go_wp2_with fail
  go_ret
  exact ⟨rfl, HB2.out⟩
set_option maxHeartbeats 4000000 in
theorem codeJoins_many (w : World) (A : Option Addr) (n c : Nat) (L : List Int) (hl : Left w w.heap.size A n c L) (hn : n ≤ 140737488355328) (A' : Option Addr) (n' c' : Nat) (M : List Int) (hl' : Left w w.heap.size A' n' c' M) (hn' : n' ≤ 140737488355328) (ht : Tabs w) (h0 : (D L 0 0).1 = 0) (h1 : (D (L ++ M) 0 0).1 = 25) :
    Calls Tryd.prog 5 #[.slice A n c, .slice A' n' c'] w fun e w' => e = .returned (.bool true) ∧ Below w.heap.size w w' := by
  obtain ⟨hg, hle, hen, hu⟩ := D_forth hl.2.1 h0
  obtain ⟨j1, j2, j3⟩ := D_joins hl.2.1 hl'.2.1 h0
  have hlen := encB_len (D L 0 0).2.2
  rw [hen, hl.1] at hlen
  have hun := unitsN_le (D L 0 0).2.2
  have h16 := encB_length (D L 0 0).2.2
  rw [hen, hl.1] at h16
  have HK := Lib.hid (known_any w ht)
  have HD := Lib.hid (fun w1 (hB : Below w.heap.size w w1) => decode_any w1 A n c L (hl.up hB) (by omega) (ht.below hB))
  have HE := Lib.hid (fun w1 (hB : Below w.heap.size w w1) => decode_any w1 A' n' c' M (hl'.up hB) (by omega) (ht.below hB))
  have HF := Lib.hid (fun w1 (hB : Below w.heap.size w w1) A5 c5 (h5 : Left w1 w1.heap.size A5 (n + n') c5 (L ++ M)) => decode_any w1 A5 (n + n') c5 (L ++ M) h5 (by omega) (ht.below hB))
  unfold Decoded at HD HE HF
  rw [h0, hu] at HD
  generalize (D L 0 0).2.2 = LL at *
  obtain ⟨k1, k2⟩ := j1 h1
  rw [hl.1, hl'.1] at k2
  rw [h1, k1] at HF
  generalize hr : D M 0 0 = r at *
  obtain ⟨f, u, MM⟩ := r
  simp only at HE
  generalize (D (L ++ M) 0 0).2.1 = u2 at *
  have t0 : decide ((32768 : Int) < (n : Int) + (n' : Int)) = true := decide_eq_true (by omega)
  clear hr k1 k2 h1
  have HLL := Lib.hid (unitsL_last LL)
  have HBY := Lib.hid (show (L.length = n ∧ BytesL L) ∧ (M.length = n' ∧ BytesL M) from ⟨⟨hl.1, hl.2.1⟩, hl'.1, hl'.2.1⟩)
  have HA := Lib.hid hl.bytes
  have HA' := Lib.hid hl'.bytes
  have hn65 : n ≤ 65536 := by omega
  have q0 : (0 : Int) ≤ (n : Int) := by omega
  have q1 : (0 : Int) ≤ (n' : Int) := by omega
  have hl4 : LL.length ≤ 4096 := hle
  have hlen8 : (8 : Int) * (unitsN LL : Int) = (n : Int) := by omega
  have hu8 : unitsN LL ≤ 8192 := by omega
  clear hl hl' ht h0 hg hen hu j1 j2 j3 hlen hun h16 hle
  go_enter Tryd.func5, Tryd.ntmps5
  go_wp2_with fail
  refine HK.out.mono ?_
  rintro e w1 ⟨rfl, hB1⟩
  have HD1 := Lib.hid (HD.out w1 hB1)
  have HB1 := Lib.hid hB1
  clear HD HK hB1
  go_wp2_with fail
  go_at_call 13
  refine HD1.out.mono ?_
  rintro e w2 ⟨v, rfl, hown, hB2⟩
  obtain ⟨A2, c2, rfl, hca⟩ := hown.codeAt
  have hb2 := HB1.out.trans (hB2.mono HB1.out.size)
  have HCA := Lib.hid hca
  have HE1 := Lib.hid (HE.out w2 hb2)
  have HB2 := Lib.hid hb2
  clear hown hB2 HB1 HD1 HE hb2 hca
  go_wp2_with fail
  go_at_call 13
  refine HE1.out.mono ?_
  rintro e w3 ⟨v3, rfl, hown, hB3⟩
  obtain ⟨A3, c3, rfl, hca3⟩ := hown.codeAt
  have hb3 := HB2.out.trans (hB3.mono HB2.out.size)
  have hca := HCA.out.below hB3
  have hoe := ownB_empty w3
  have hbe := below_box w3 (.cells #[] 5)
  have HX := Lib.hid (show CodeAt w3 A2 LL ∧ CodeAt w3 A3 MM ∧ Below w.heap.size w (w3.alloc (.cells #[] 5)) ∧ Below w3.heap.size w3 (w3.alloc (.cells #[] 5)) from ⟨hca, hca3, hb3.trans (hbe.mono hb3.size), hbe⟩)
  have hab := HA.out.below HX.out.2.2.1
  have hsz : w3.heap.size ≤ (w3.alloc (.cells #[] 5)).heap.size := by simp
  have hw3 := hb3.size
  have hlen1 : ([] : List Int).length + n ≤ 200000000000000 := by simp; omega
  have hlen2 : (([] : List Int) ++ L).length + n' ≤ 200000000000000 := by rw [List.nil_append, HBY.out.1.1]; omega
  clear hown hB3 HB2 HE1 hb3 hca hca3 hbe HCA
  go_wp2_with (first | (at_builtin; (refine append_bytes_wide Tryd.underlying24 byte_info _ rfl (.tmp 35) (.tmp 36) rfl w3.heap.size _ _ rfl hoe _ _ _ _ rfl HBY.out.1.1 hab hlen1 hsz ?_; intro v5 w5 hown5 hB5; have hw5 := HX.out.2.2.1.trans (hB5.mono hw3); have hbb := HA'.out.below hw5; have hs5 := Nat.le_trans hsz hB5.size; clear hoe hab)) | (at_builtin; (refine append_bytes_wide Tryd.underlying24 byte_info _ rfl (.tmp 37) (.tmp 38) rfl w3.heap.size _ _ rfl hown5 _ _ _ _ rfl HBY.out.2.1 hbb hlen2 hs5 ?_; intro v6 w6 hown6 hB6; clear hown5 hbb)))
  rw [List.nil_append] at hown6
  have hw6 := hw5.trans (hB6.mono hw3)
  have hb36 := (HX.out.2.2.2.trans hB5).trans hB6
  have hlm : (L ++ M).length = n + n' := by rw [List.length_append, HBY.out.1.1, HBY.out.2.1]
  obtain ⟨A6, c6, hv6, hl6⟩ := ownB_left hown6 (HBY.out.1.2.append HBY.out.2.2)
  rw [hlm] at hv6 hl6
  subst hv6
  have HF1 := Lib.hid (HF.out w6 hw6 A6 c6 hl6)
  have HX6 := Lib.hid (show CodeAt w6 A2 LL ∧ CodeAt w6 A3 MM ∧ Below w.heap.size w w6 from ⟨HX.out.1.below hb36, HX.out.2.1.below hb36, hw6⟩)
  clear hown6 hw6 hb36 hlm hl6 hw5 hB5 hB6 HX HF hlen1 hlen2 hsz hs5 hw3
  go_wp2_with fail
  go_at_call 13
  refine HF1.out.mono ?_
  rintro e w7 ⟨v7, rfl, hown7, hB7⟩
  obtain ⟨A7, c7, rfl, hca7⟩ := hown7.codeAt
  have hca2 := HX6.out.1.below hB7
  have HX7 := Lib.hid (show CodeAt w7 A2 LL ∧ CodeAt w7 A3 MM ∧ CodeAt w7 A7 ([] : List Ins) ∧ Below w.heap.size w w7 from ⟨hca2, HX6.out.2.1.below hB7, hca7, HX6.out.2.2.trans (hB7.mono HX6.out.2.2.size)⟩)
  have HU := Lib.hid (units_any w7 A2 LL.length c2 LL rfl (by omega) hca2)
  clear hown7 hB7 hca7 hca2 HX6 HF1
  rw [show ([] : List Ins).length = 0 from rfl]
  go_wp2_with fail
  go_at_call 14
  refine HU.out.mono ?_
  rintro e w8 ⟨rfl, hblk, hB8⟩
  have hcell : w8.cell? ⟨w7.heap.size, LL.length, none⟩ = some (.int .i64 (unitsN LL)) := by
    have h1 := hblk.cell LL.length (by rw [unitsL_length]; omega)
    rw [HLL.out] at h1
    exact h1
  have HX8 := Lib.hid (show CodeAt w8 A2 LL ∧ CodeAt w8 A3 MM ∧ CodeAt w8 A7 ([] : List Ins) ∧ Below w.heap.size w w8 from ⟨HX7.out.1.below hB8, HX7.out.2.1.below hB8, HX7.out.2.2.1.below hB8, HX7.out.2.2.2.trans (hB8.mono HX7.out.2.2.2.size)⟩)
  clear hblk hB8 HX7 HU HLL
  go_wp2_with fail
  go_ret
  exact ⟨rfl, HX8.out.2.2.2⟩
set_option maxHeartbeats 4000000 in
theorem codeJoins_fault (w : World) (A : Option Addr) (n c : Nat) (L : List Int) (hl : Left w w.heap.size A n c L) (hn : n ≤ 140737488355328) (A' : Option Addr) (n' c' : Nat) (M : List Int) (hl' : Left w w.heap.size A' n' c' M) (hn' : n' ≤ 140737488355328) (ht : Tabs w) (h0 : (D L 0 0).1 = 0) (h1 : (D (L ++ M) 0 0).1 ≠ 25) (h2 : (D M 0 0).1 ≠ 0) :
    Calls Tryd.prog 5 #[.slice A n c, .slice A' n' c'] w fun e w' => e = .returned (.bool true) ∧ Below w.heap.size w w' := by
  obtain ⟨hg, hle, hen, hu⟩ := D_forth hl.2.1 h0
  obtain ⟨j1, j2, j3⟩ := D_joins hl.2.1 hl'.2.1 h0
  have hlen := encB_len (D L 0 0).2.2
  rw [hen, hl.1] at hlen
  have hun := unitsN_le (D L 0 0).2.2
  have h16 := encB_length (D L 0 0).2.2
  rw [hen, hl.1] at h16
  have HK := Lib.hid (known_any w ht)
  have HD := Lib.hid (fun w1 (hB : Below w.heap.size w w1) => decode_any w1 A n c L (hl.up hB) (by omega) (ht.below hB))
  have HE := Lib.hid (fun w1 (hB : Below w.heap.size w w1) => decode_any w1 A' n' c' M (hl'.up hB) (by omega) (ht.below hB))
  have HF := Lib.hid (fun w1 (hB : Below w.heap.size w w1) A5 c5 (h5 : Left w1 w1.heap.size A5 (n + n') c5 (L ++ M)) => decode_any w1 A5 (n + n') c5 (L ++ M) h5 (by omega) (ht.below hB))
  unfold Decoded at HD HE HF
  rw [h0, hu] at HD
  generalize (D L 0 0).2.2 = LL at *
  obtain ⟨k1, k2, k3⟩ := j2 h1 h2
  rw [k1, k2, k3] at HF
  rw [k1] at h1
  rw [(D_norm M 0 0).2 h2] at HE
  generalize hr : D M 0 0 = r at *
  obtain ⟨f, u, MM0⟩ := r
  simp only at HE HF h1 h2
  obtain ⟨MM, hMM⟩ : ∃ MM : List Ins, MM = [] := ⟨_, rfl⟩
  rw [← hMM] at HE
  have t0 : (f == 25) = false := by rw [beq_eq_false_iff_ne]; exact h1
  have t1 : (f != 0) = true := by rw [bne_iff_ne]; exact h2
  have t2 : (f == f) = true := by simp
  have hub : u ≤ 281474976710656 := by
    have := D_fault hl'.2.1 (by rw [hr]; exact h2)
    rw [hr, hl'.1] at this
    have := this.2
    simp only at this
    omega
  clear hr k1 k2 k3 h1 h2
  have HLL := Lib.hid (unitsL_last LL)
  have HBY := Lib.hid (show (L.length = n ∧ BytesL L) ∧ (M.length = n' ∧ BytesL M) from ⟨⟨hl.1, hl.2.1⟩, hl'.1, hl'.2.1⟩)
  have HA := Lib.hid hl.bytes
  have HA' := Lib.hid hl'.bytes
  have hn65 : n ≤ 65536 := by omega
  have q0 : (0 : Int) ≤ (n : Int) := by omega
  have q1 : (0 : Int) ≤ (n' : Int) := by omega
  have hl4 : LL.length ≤ 4096 := hle
  have hlen8 : (8 : Int) * (unitsN LL : Int) = (n : Int) := by omega
  have hu8 : unitsN LL ≤ 8192 := by omega
  clear hl hl' ht h0 hg hen hu j1 j2 j3 hlen hun h16 hle
  go_enter Tryd.func5, Tryd.ntmps5
  go_wp2_with fail
  refine HK.out.mono ?_
  rintro e w1 ⟨rfl, hB1⟩
  have HD1 := Lib.hid (HD.out w1 hB1)
  have HB1 := Lib.hid hB1
  clear HD HK hB1
  go_wp2_with fail
  go_at_call 13
  refine HD1.out.mono ?_
  rintro e w2 ⟨v, rfl, hown, hB2⟩
  obtain ⟨A2, c2, rfl, hca⟩ := hown.codeAt
  have hb2 := HB1.out.trans (hB2.mono HB1.out.size)
  have HCA := Lib.hid hca
  have HE1 := Lib.hid (HE.out w2 hb2)
  have HB2 := Lib.hid hb2
  clear hown hB2 HB1 HD1 HE hb2 hca
  go_wp2_with fail
  go_at_call 13
  refine HE1.out.mono ?_
  rintro e w3 ⟨v3, rfl, hown, hB3⟩
  obtain ⟨A3, c3, rfl, hca3⟩ := hown.codeAt
  have hb3 := HB2.out.trans (hB3.mono HB2.out.size)
  have hca := HCA.out.below hB3
  have hoe := ownB_empty w3
  have hbe := below_box w3 (.cells #[] 5)
  have HX := Lib.hid (show CodeAt w3 A2 LL ∧ CodeAt w3 A3 MM ∧ Below w.heap.size w (w3.alloc (.cells #[] 5)) ∧ Below w3.heap.size w3 (w3.alloc (.cells #[] 5)) from ⟨hca, hca3, hb3.trans (hbe.mono hb3.size), hbe⟩)
  have hab := HA.out.below HX.out.2.2.1
  have hsz : w3.heap.size ≤ (w3.alloc (.cells #[] 5)).heap.size := by simp
  have hw3 := hb3.size
  have hlen1 : ([] : List Int).length + n ≤ 200000000000000 := by simp; omega
  have hlen2 : (([] : List Int) ++ L).length + n' ≤ 200000000000000 := by rw [List.nil_append, HBY.out.1.1]; omega
  clear hown hB3 HB2 HE1 hb3 hca hca3 hbe HCA
  go_wp2_with (first | (at_builtin; (refine append_bytes_wide Tryd.underlying24 byte_info _ rfl (.tmp 35) (.tmp 36) rfl w3.heap.size _ _ rfl hoe _ _ _ _ rfl HBY.out.1.1 hab hlen1 hsz ?_; intro v5 w5 hown5 hB5; have hw5 := HX.out.2.2.1.trans (hB5.mono hw3); have hbb := HA'.out.below hw5; have hs5 := Nat.le_trans hsz hB5.size; clear hoe hab)) | (at_builtin; (refine append_bytes_wide Tryd.underlying24 byte_info _ rfl (.tmp 37) (.tmp 38) rfl w3.heap.size _ _ rfl hown5 _ _ _ _ rfl HBY.out.2.1 hbb hlen2 hs5 ?_; intro v6 w6 hown6 hB6; clear hown5 hbb)))
  rw [List.nil_append] at hown6
  have hw6 := hw5.trans (hB6.mono hw3)
  have hb36 := (HX.out.2.2.2.trans hB5).trans hB6
  have hlm : (L ++ M).length = n + n' := by rw [List.length_append, HBY.out.1.1, HBY.out.2.1]
  obtain ⟨A6, c6, hv6, hl6⟩ := ownB_left hown6 (HBY.out.1.2.append HBY.out.2.2)
  rw [hlm] at hv6 hl6
  subst hv6
  have HF1 := Lib.hid (HF.out w6 hw6 A6 c6 hl6)
  have HX6 := Lib.hid (show CodeAt w6 A2 LL ∧ CodeAt w6 A3 MM ∧ Below w.heap.size w w6 from ⟨HX.out.1.below hb36, HX.out.2.1.below hb36, hw6⟩)
  clear hown6 hw6 hb36 hlm hl6 hw5 hB5 hB6 HX HF hlen1 hlen2 hsz hs5 hw3
  go_wp2_with fail
  go_at_call 13
  refine HF1.out.mono ?_
  rintro e w7 ⟨v7, rfl, hown7, hB7⟩
  obtain ⟨A7, c7, rfl, hca7⟩ := hown7.codeAt
  have hca2 := HX6.out.1.below hB7
  have HX7 := Lib.hid (show CodeAt w7 A2 LL ∧ CodeAt w7 A3 MM ∧ CodeAt w7 A7 ([] : List Ins) ∧ Below w.heap.size w w7 from ⟨hca2, HX6.out.2.1.below hB7, hca7, HX6.out.2.2.trans (hB7.mono HX6.out.2.2.size)⟩)
  have HU := Lib.hid (units_any w7 A2 LL.length c2 LL rfl (by omega) hca2)
  clear hown7 hB7 hca7 hca2 HX6 HF1
  rw [show ([] : List Ins).length = 0 from rfl]
  go_wp2_with fail
  go_at_call 14
  refine HU.out.mono ?_
  rintro e w8 ⟨rfl, hblk, hB8⟩
  have hcell : w8.cell? ⟨w7.heap.size, LL.length, none⟩ = some (.int .i64 (unitsN LL)) := by
    have h1 := hblk.cell LL.length (by rw [unitsL_length]; omega)
    rw [HLL.out] at h1
    exact h1
  have HX8 := Lib.hid (show CodeAt w8 A2 LL ∧ CodeAt w8 A3 MM ∧ CodeAt w8 A7 ([] : List Ins) ∧ Below w.heap.size w w8 from ⟨HX7.out.1.below hB8, HX7.out.2.1.below hB8, HX7.out.2.2.1.below hB8, HX7.out.2.2.2.trans (hB8.mono HX7.out.2.2.2.size)⟩)
  clear hblk hB8 HX7 HU HLL
  have t3 : (((u + unitsN LL : Nat) : Int) == (u : Int) + (unitsN LL : Int)) = true := by rw [beq_iff_eq]; omega
  go_wp2_with fail
  go_ret
  exact ⟨by simp, HX8.out.2.2.2⟩
set_option maxHeartbeats 4000000 in
theorem codeJoins_good (w : World) (A : Option Addr) (n c : Nat) (L : List Int) (hl : Left w w.heap.size A n c L) (hn : n ≤ 140737488355328) (A' : Option Addr) (n' c' : Nat) (M : List Int) (hl' : Left w w.heap.size A' n' c' M) (hn' : n' ≤ 140737488355328) (ht : Tabs w) (h0 : (D L 0 0).1 = 0) (h1 : (D (L ++ M) 0 0).1 ≠ 25) (h2 : (D M 0 0).1 = 0) :
    Calls Tryd.prog 5 #[.slice A n c, .slice A' n' c'] w fun e w' => e = .returned (.bool true) ∧ Below w.heap.size w w' := by
  obtain ⟨hg, hle, hen, hu⟩ := D_forth hl.2.1 h0
  obtain ⟨j1, j2, j3⟩ := D_joins hl.2.1 hl'.2.1 h0
  have hlen := encB_len (D L 0 0).2.2
  rw [hen, hl.1] at hlen
  have hun := unitsN_le (D L 0 0).2.2
  have h16 := encB_length (D L 0 0).2.2
  rw [hen, hl.1] at h16
  have HK := Lib.hid (known_any w ht)
  have HD := Lib.hid (fun w1 (hB : Below w.heap.size w w1) => decode_any w1 A n c L (hl.up hB) (by omega) (ht.below hB))
  have HE := Lib.hid (fun w1 (hB : Below w.heap.size w w1) => decode_any w1 A' n' c' M (hl'.up hB) (by omega) (ht.below hB))
  have HF := Lib.hid (fun w1 (hB : Below w.heap.size w w1) A5 c5 (h5 : Left w1 w1.heap.size A5 (n + n') c5 (L ++ M)) => decode_any w1 A5 (n + n') c5 (L ++ M) h5 (by omega) (ht.below hB))
  unfold Decoded at HD HE HF
  rw [h0, hu] at HD
  generalize (D L 0 0).2.2 = LL at *
  obtain ⟨k1, k2, k3⟩ := j3 h1 h2
  rw [k1, k2, k3] at HF
  have hm4 := (D_forth hl'.2.1 h2).2.1
  rw [h2, (D_norm M 0 0).1 h2] at HE
  generalize (D M 0 0).2.2 = MM at *
  obtain ⟨NN, hNN⟩ : ∃ NN : List Ins, NN = LL ++ MM := ⟨_, rfl⟩
  rw [← hNN] at HF
  have HNN := Lib.hid hNN
  clear k1 k2 k3 h1 h2 hNN
  have HLL := Lib.hid (unitsL_last LL)
  have HBY := Lib.hid (show (L.length = n ∧ BytesL L) ∧ (M.length = n' ∧ BytesL M) from ⟨⟨hl.1, hl.2.1⟩, hl'.1, hl'.2.1⟩)
  have HA := Lib.hid hl.bytes
  have HA' := Lib.hid hl'.bytes
  have hn65 : n ≤ 65536 := by omega
  have q0 : (0 : Int) ≤ (n : Int) := by omega
  have q1 : (0 : Int) ≤ (n' : Int) := by omega
  have hl4 : LL.length ≤ 4096 := hle
  have hlen8 : (8 : Int) * (unitsN LL : Int) = (n : Int) := by omega
  have hu8 : unitsN LL ≤ 8192 := by omega
  clear hl hl' ht h0 hg hen hu j1 j2 j3 hlen hun h16 hle
  go_enter Tryd.func5, Tryd.ntmps5
  go_wp2_with fail
  refine HK.out.mono ?_
  rintro e w1 ⟨rfl, hB1⟩
  have HD1 := Lib.hid (HD.out w1 hB1)
  have HB1 := Lib.hid hB1
  clear HD HK hB1
  go_wp2_with fail
  go_at_call 13
  refine HD1.out.mono ?_
  rintro e w2 ⟨v, rfl, hown, hB2⟩
  obtain ⟨A2, c2, rfl, hca⟩ := hown.codeAt
  have hb2 := HB1.out.trans (hB2.mono HB1.out.size)
  have HCA := Lib.hid hca
  have HE1 := Lib.hid (HE.out w2 hb2)
  have HB2 := Lib.hid hb2
  clear hown hB2 HB1 HD1 HE hb2 hca
  go_wp2_with fail
  go_at_call 13
  refine HE1.out.mono ?_
  rintro e w3 ⟨v3, rfl, hown, hB3⟩
  obtain ⟨A3, c3, rfl, hca3⟩ := hown.codeAt
  have hb3 := HB2.out.trans (hB3.mono HB2.out.size)
  have hca := HCA.out.below hB3
  have hoe := ownB_empty w3
  have hbe := below_box w3 (.cells #[] 5)
  have HX := Lib.hid (show CodeAt w3 A2 LL ∧ CodeAt w3 A3 MM ∧ Below w.heap.size w (w3.alloc (.cells #[] 5)) ∧ Below w3.heap.size w3 (w3.alloc (.cells #[] 5)) from ⟨hca, hca3, hb3.trans (hbe.mono hb3.size), hbe⟩)
  have hab := HA.out.below HX.out.2.2.1
  have hsz : w3.heap.size ≤ (w3.alloc (.cells #[] 5)).heap.size := by simp
  have hw3 := hb3.size
  have hlen1 : ([] : List Int).length + n ≤ 200000000000000 := by simp; omega
  have hlen2 : (([] : List Int) ++ L).length + n' ≤ 200000000000000 := by rw [List.nil_append, HBY.out.1.1]; omega
  clear hown hB3 HB2 HE1 hb3 hca hca3 hbe HCA
  go_wp2_with (first | (at_builtin; (refine append_bytes_wide Tryd.underlying24 byte_info _ rfl (.tmp 35) (.tmp 36) rfl w3.heap.size _ _ rfl hoe _ _ _ _ rfl HBY.out.1.1 hab hlen1 hsz ?_; intro v5 w5 hown5 hB5; have hw5 := HX.out.2.2.1.trans (hB5.mono hw3); have hbb := HA'.out.below hw5; have hs5 := Nat.le_trans hsz hB5.size; clear hoe hab)) | (at_builtin; (refine append_bytes_wide Tryd.underlying24 byte_info _ rfl (.tmp 37) (.tmp 38) rfl w3.heap.size _ _ rfl hown5 _ _ _ _ rfl HBY.out.2.1 hbb hlen2 hs5 ?_; intro v6 w6 hown6 hB6; clear hown5 hbb)))
  rw [List.nil_append] at hown6
  have hw6 := hw5.trans (hB6.mono hw3)
  have hb36 := (HX.out.2.2.2.trans hB5).trans hB6
  have hlm : (L ++ M).length = n + n' := by rw [List.length_append, HBY.out.1.1, HBY.out.2.1]
  obtain ⟨A6, c6, hv6, hl6⟩ := ownB_left hown6 (HBY.out.1.2.append HBY.out.2.2)
  rw [hlm] at hv6 hl6
  subst hv6
  have HF1 := Lib.hid (HF.out w6 hw6 A6 c6 hl6)
  have HX6 := Lib.hid (show CodeAt w6 A2 LL ∧ CodeAt w6 A3 MM ∧ Below w.heap.size w w6 from ⟨HX.out.1.below hb36, HX.out.2.1.below hb36, hw6⟩)
  clear hown6 hw6 hb36 hlm hl6 hw5 hB5 hB6 HX HF hlen1 hlen2 hsz hs5 hw3
  go_wp2_with fail
  go_at_call 13
  refine HF1.out.mono ?_
  rintro e w7 ⟨v7, rfl, hown7, hB7⟩
  obtain ⟨A7, c7, rfl, hca7⟩ := hown7.codeAt
  have hca2 := HX6.out.1.below hB7
  have HX7 := Lib.hid (show CodeAt w7 A2 LL ∧ CodeAt w7 A3 MM ∧ CodeAt w7 A7 NN ∧ Below w.heap.size w w7 from ⟨hca2, HX6.out.2.1.below hB7, hca7, HX6.out.2.2.trans (hB7.mono HX6.out.2.2.size)⟩)
  have HU := Lib.hid (units_any w7 A2 LL.length c2 LL rfl (by omega) hca2)
  clear hown7 hB7 hca7 hca2 HX6 HF1
  have hnn : NN.length = LL.length + MM.length := by rw [HNN.out, List.length_append]
  go_wp2_with fail
  go_at_call 14
  refine HU.out.mono ?_
  rintro e w8 ⟨rfl, hblk, hB8⟩
  have hcell : w8.cell? ⟨w7.heap.size, LL.length, none⟩ = some (.int .i64 (unitsN LL)) := by
    have h1 := hblk.cell LL.length (by rw [unitsL_length]; omega)
    rw [HLL.out] at h1
    exact h1
  have HX8 := Lib.hid (show CodeAt w8 A2 LL ∧ CodeAt w8 A3 MM ∧ CodeAt w8 A7 NN ∧ Below w.heap.size w w8 from ⟨HX7.out.1.below hB8, HX7.out.2.1.below hB8, HX7.out.2.2.1.below hB8, HX7.out.2.2.2.trans (hB8.mono HX7.out.2.2.2.size)⟩)
  clear hblk hB8 HX7 HU HLL
  have hoe := ownI_empty w8
  have hbe := below_box w8 (.cells #[] 39)
  have HY := Lib.hid (show Below w8.heap.size w8 (w8.alloc (.cells #[] 39)) from hbe)
  have hca := HX8.out.1.below hbe
  have hsz : w8.heap.size ≤ (w8.alloc (.cells #[] 39)).heap.size := by simp
  have hlen1 : ([] : List Ins).length + LL.length ≤ 2000000000000 := by simp; omega
  have hlen2 : (([] : List Ins) ++ LL).length + MM.length ≤ 2000000000000 := by rw [List.nil_append]; omega
  clear hbe
  go_wp2_with (first | (at_builtin; (refine append_code Tryd.underlying22 ins_info _ rfl (.tmp 107) (.tmp 108) rfl w8.heap.size _ _ rfl hoe _ _ _ _ rfl rfl hca hlen1 hsz ?_; intro v9 w9 hown9 hB9; have hb9 := HY.out.trans hB9; have hcb := HX8.out.2.1.below hb9; have hs9 := Nat.le_trans hsz hB9.size; clear hoe hca)) | (at_builtin; (refine append_code Tryd.underlying22 ins_info _ rfl (.tmp 109) (.tmp 110) rfl w8.heap.size _ _ rfl hown9 _ _ _ _ rfl rfl hcb hlen2 hs9 ?_; intro v10 w10 hown10 hB10; clear hown9 hcb)))
  rw [List.nil_append] at hown10
  obtain ⟨A10, c10, rfl, hca10⟩ := hown10.codeAt
  have hb10 := hb9.trans hB10
  have HS := Lib.hid (same_both w10 A7 NN.length c7 A10 (LL ++ MM).length c10 NN (LL ++ MM) rfl rfl (by omega) (HX8.out.2.2.1.below hb10) hca10)
  rw [decide_eq_true HNN.out, hnn] at HS
  have HW := Lib.hid (HX8.out.2.2.2.trans (hb10.mono HX8.out.2.2.2.size))
  clear hown10 hca10 hb10 hB10 hB9 hb9 hs9 HX8 HY hsz hlen1 hlen2 HNN hnn
  generalize (LL ++ MM).length = nn2 at *
  go_wp2_with fail
  go_at_call 15
  refine HS.out.mono ?_
  rintro e w11 ⟨rfl, hB11⟩
  have HB11 := Lib.hid (HW.out.trans (hB11.mono HW.out.size))
  clear hB11 HW HS
  go_wp2_with fail
  go_ret
  exact ⟨rfl, HB11.out⟩

theorem codeJoins_walk (w : World) (A : Option Addr) (n c : Nat) (L : List Int) (hl : Left w w.heap.size A n c L) (hn : n ≤ 140737488355328) (A' : Option Addr) (n' c' : Nat) (M : List Int) (hl' : Left w w.heap.size A' n' c' M) (hn' : n' ≤ 140737488355328) (ht : Tabs w) :
    Calls Tryd.prog 5 #[.slice A n c, .slice A' n' c'] w fun e w' => e = .returned (.bool true) ∧ Below w.heap.size w w' := by
  by_cases h0 : (D L 0 0).1 = 0
  · by_cases h1 : (D (L ++ M) 0 0).1 = 25
    · exact codeJoins_many w A n c L hl hn A' n' c' M hl' hn' ht h0 h1
    · by_cases h2 : (D M 0 0).1 = 0
      · exact codeJoins_good w A n c L hl hn A' n' c' M hl' hn' ht h0 h1 h2
      · exact codeJoins_fault w A n c L hl hn A' n' c' M hl' hn' ht h0 h1 h2
  · exact codeJoins_bad w A n c L hl hn A' n' c' M hl' hn' ht h0
end Go.Proofs.YtkpmhkoicdglbaaDoor
