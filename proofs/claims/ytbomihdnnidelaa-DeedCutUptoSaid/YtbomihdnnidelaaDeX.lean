/- Package deed: what is wrong with a claim. Laid by wip/tools/mkdex.py. -/
import Derived.Test.YtbomihdnnidelaaDeW
import Derived.Deep.CutBlock
namespace Go.Proofs.Ytbomihdnnidelaa
open Go.ChangeShapes Go.WideShapes Go.ChangeAt Go.RowKit
open Dee
set_option linter.unusedVariables false
set_option linter.unusedSimpArgs false
set_option maxRecDepth 100000
def consE : List Con → List Con → Int
  | _, [] => 0
  | l, c :: t => if conB c = false then 91 else if risesB l c = false then 111 else consE (l ++ [c]) t
def regsZ (G : Nat → Tag) : Bool := (List.range 10).all fun i => decide (G i = Tag.zero)
def stackZ (G : Nat → Tag) : Bool := (List.range 32).all fun i => decide (G (10 + i) = Tag.zero)
def bareB (x : Mc) : Bool := (regsZ x.G && stackZ x.G) && decide (x.cons.length = 0)
/-- what is wrong with a claim -/
def wrongCl (x : Mc) : Int := if x.dead = true then (if bareB x = true then 0 else 93) else if plainsB x.G = false then 90 else consE [] x.cons
theorem con_split (c : Con) : conB c = (varB c.i && (varB c.j && (!decide (c.i = c.j) && constB c.c))) := rfl
set_option maxHeartbeats 16000000 in
theorem wrongClaim_any (w : World) (x : Mc) (A : Option Addr) (m c : Nat) (hm : x.cons.length = m) (hs : m ≤ 9223372036854775807) (hmc : m ≤ c) (hR : RowsAt w A 3 coF x.cons) :
    Calls Try.prog 50 #[.agg (arr 128 (clF x.dead x.G (.slice A m c)))] w (RetB w (.int .i64 (wrongCl x))) := by
  have HM := Lib.hid hm
  have HR := Lib.hid hR
  clear hm hR
  obtain ⟨T, hT⟩ : ∃ T, T = clF x.dead x.G (.slice A m c) := ⟨_, rfl⟩
  rw [← hT]
  have HTT := Lib.hid hT
  clear hT
  go_enter Try.func50, Try.ntmps50
  go_upto_region 1 with (refine wpList_box_seg rfl _ (.tmp 0) rfl 128 T rfl ?_; intro w1 h1 hB1 hs1)
  obtain ⟨gb, hgb⟩ : ∃ gb, gb = w.heap.size := ⟨_, rfl⟩
  rw [← hgb] at h1 ⊢
  have HF0 := Lib.hid (show FB w1 gb 61 128 (clF x.dead x.G (.slice A m c)) by rw [← HTT.out]; exact h1)
  have HB0 := Lib.hid hB1
  have hX1 : ∀ k, k < 30 → w1.cell? ⟨gb, 1 + k, none⟩ = some (tsF x.G k) := fun k hk => by
    rw [HF0.out.cell (1 + k) (by omega)]
    unfold clF tsF
    rw [if_neg (by omega), if_pos (by omega), show 1 + k - 1 = k by omega]
  have hX2 : ∀ k, k < 96 → w1.cell? ⟨gb, 31 + k, none⟩ = some (tsF (fun i => x.G (10 + i)) k) := fun k hk => by
    rw [HF0.out.cell (31 + k) (by omega)]
    unfold clF tsF
    rw [if_neg (by omega), if_pos (by omega), show (31 + k - 1) / 3 = 10 + k / 3 by omega, show (31 + k - 1) % 3 = k % 3 by omega]
  have hE1 := eq_tags 57 10 Try.underlying57 x.G (fun _ => Tag.zero) w1
  have hE2 := eq_tags 58 32 Try.underlying58 (fun i => x.G (10 + i)) (fun _ => Tag.zero) w1
  obtain ⟨r1, hr1⟩ : ∃ r, r = regsZ x.G := ⟨_, rfl⟩
  obtain ⟨r2, hr2⟩ : ∃ r, r = stackZ x.G := ⟨_, rfl⟩
  obtain ⟨F1, hF1⟩ : ∃ F, F = tsF x.G := ⟨_, rfl⟩
  obtain ⟨F2, hF2⟩ : ∃ F, F = tsF (fun i => x.G (10 + i)) := ⟨_, rfl⟩
  obtain ⟨Z, hZ⟩ : ∃ Z, Z = tsF (fun _ => Tag.zero) := ⟨_, rfl⟩
  have hZ1 := zero10 w1
  have hZ2 := zero32 w1
  rw [← hF1] at hX1 hE1
  rw [← hF2] at hX2 hE2
  rw [← hZ] at hE1 hE2 hZ1 hZ2
  have HE1 := Lib.hid (show (Op.equalIn 10000 57 (.agg (arr 30 F1)) (.agg (arr 30 Z))).run Try.prog w1 = .ok r1 w1 by rw [hr1]; exact hE1)
  have HE2 := Lib.hid (show (Op.equalIn 10000 58 (.agg (arr 96 F2)) (.agg (arr 96 Z))).run Try.prog w1 = .ok r2 w1 by rw [hr2]; exact hE2)
  have HX1 := Lib.hid hX1
  have HX2 := Lib.hid hX2
  have HZ1 := Lib.hid hZ1
  have HZ2 := Lib.hid hZ2
  have x0 : w1.cell? ⟨gb, 0, none⟩ = some (.bool x.dead) := HF0.out.cell 0 (by decide)
  have x127 : w1.cell? ⟨gb, 127, none⟩ = some (.slice A m c) := HF0.out.cell 127 (by decide)
  have HBR := Lib.hid (show bareB x = ((r1 && r2) && decide (m = 0)) by unfold bareB; rw [← hr1, ← hr2, HM.out])
  clear hr1 hr2 hF1 hF2 hZ hZ1 hZ2 hX1 hX2 hE1 hE2 h1 hB1 hs1 hgb
  obtain ⟨wo, hwo⟩ : ∃ wo, wo = w1 := ⟨_, rfl⟩
  have HWO := Lib.hid hwo
  go_cut [3] (fun s3 wx => ∃ b : Bool, s3 = .bool b ∧ Hid (b = bareB x) ∧ w1 = wx)
  case first =>
    clear hwo
    cases r1
    · have HBB := Lib.hid (show false = bareB x by rw [HBR.out]; rfl)
      go_wp2_with (first
        | (refine wpList_load_cells rfl 57 _ rfl gb 1 rfl 30 F1 _ HX1.out Try.underlying57 rfl sizeTags10 ?_)
        | (refine wpList_build_zero w1 rfl 57 rfl _ HZ1.out ?_)
        | (refine wpList_eql_arr w1 rfl 57 _ _ _ rfl (arr 30 F1) (arr 30 Z) _ rfl rfl guard10 HE1.out ?_)
        | (refine wpList_load_cells rfl 58 _ rfl gb 31 rfl 96 F2 _ HX2.out Try.underlying58 rfl sizeTags32 ?_)
        | (refine wpList_build_zero w1 rfl 58 rfl _ HZ2.out ?_)
        | (refine wpList_eql_arr w1 rfl 58 _ _ _ rfl (arr 96 F2) (arr 96 Z) _ rfl rfl guard32 HE2.out ?_))
      go_meet
      case rel => exact ⟨_, rfl, HBB, rfl⟩
    · cases r2
      · have HBB := Lib.hid (show false = bareB x by rw [HBR.out]; rfl)
        go_wp2_with (first
          | (refine wpList_load_cells rfl 57 _ rfl gb 1 rfl 30 F1 _ HX1.out Try.underlying57 rfl sizeTags10 ?_)
          | (refine wpList_build_zero w1 rfl 57 rfl _ HZ1.out ?_)
          | (refine wpList_eql_arr w1 rfl 57 _ _ _ rfl (arr 30 F1) (arr 30 Z) _ rfl rfl guard10 HE1.out ?_)
          | (refine wpList_load_cells rfl 58 _ rfl gb 31 rfl 96 F2 _ HX2.out Try.underlying58 rfl sizeTags32 ?_)
          | (refine wpList_build_zero w1 rfl 58 rfl _ HZ2.out ?_)
          | (refine wpList_eql_arr w1 rfl 58 _ _ _ rfl (arr 96 F2) (arr 96 Z) _ rfl rfl guard32 HE2.out ?_))
        go_meet
        case rel => exact ⟨_, rfl, HBB, rfl⟩
      · by_cases hm0 : m = 0
        · subst hm0
          have HBB := Lib.hid (show true = bareB x by rw [HBR.out]; rfl)
          go_wp2_with (first
            | (refine wpList_load_cells rfl 57 _ rfl gb 1 rfl 30 F1 _ HX1.out Try.underlying57 rfl sizeTags10 ?_)
            | (refine wpList_build_zero w1 rfl 57 rfl _ HZ1.out ?_)
            | (refine wpList_eql_arr w1 rfl 57 _ _ _ rfl (arr 30 F1) (arr 30 Z) _ rfl rfl guard10 HE1.out ?_)
            | (refine wpList_load_cells rfl 58 _ rfl gb 31 rfl 96 F2 _ HX2.out Try.underlying58 rfl sizeTags32 ?_)
            | (refine wpList_build_zero w1 rfl 58 rfl _ HZ2.out ?_)
            | (refine wpList_eql_arr w1 rfl 58 _ _ _ rfl (arr 96 F2) (arr 96 Z) _ rfl rfl guard32 HE2.out ?_))
          go_meet
          case rel => exact ⟨_, rfl, HBB, rfl⟩
        · have tm : ((m : Int) == 0) = false := by rw [beq_eq_false_iff_ne]; omega
          have HBB := Lib.hid (show false = bareB x by rw [HBR.out, decide_eq_false hm0]; rfl)
          clear hm0
          go_wp2_with (first
            | (refine wpList_load_cells rfl 57 _ rfl gb 1 rfl 30 F1 _ HX1.out Try.underlying57 rfl sizeTags10 ?_)
            | (refine wpList_build_zero w1 rfl 57 rfl _ HZ1.out ?_)
            | (refine wpList_eql_arr w1 rfl 57 _ _ _ rfl (arr 30 F1) (arr 30 Z) _ rfl rfl guard10 HE1.out ?_)
            | (refine wpList_load_cells rfl 58 _ rfl gb 31 rfl 96 F2 _ HX2.out Try.underlying58 rfl sizeTags32 ?_)
            | (refine wpList_build_zero w1 rfl 58 rfl _ HZ2.out ?_)
            | (refine wpList_eql_arr w1 rfl 58 _ _ _ rfl (arr 96 F2) (arr 96 Z) _ rfl rfl guard32 HE2.out ?_))
          go_meet
          case rel => exact ⟨_, rfl, HBB, rfl⟩
  case rest =>
    obtain ⟨b, rfl, HBB, rfl⟩ := hcut
    clear hwo HE1 HE2 HX1 HX2 HZ1 HZ2 HBR
    have hW : wrongCl x = if x.dead = true then (if bareB x = true then 0 else 93) else if plainsB x.G = false then 90 else consE [] x.cons := rfl
    rw [← HBB.out] at hW
    have HW := Lib.hid hW
    clear hW
    cases hd : x.dead
    · rw [hd] at x0 HW
      rw [if_neg (by decide)] at HW
      have hall : ∀ k, k < 128 → w1.cell? ⟨gb, 0 + k, none⟩ = some (clF x.dead x.G (.slice A m c) k) := fun k hk => by rw [Nat.zero_add]; exact HF0.out.cell k hk
      rw [← HTT.out] at hall
      have HALL := Lib.hid hall
      clear hall hd
      go_wp2_with (refine wpList_load_cells rfl 61 _ rfl gb 0 rfl 128 T _ HALL.out Try.underlying61 rfl sizeClaim ?_)
      go_at_call 72
      rw [HTT.out]
      refine (plainTags_any w1 x.dead x.G (.slice A m c)).mono ?_
      rintro e w2 ⟨rfl, hB2⟩
      have HF2 := Lib.hid (HF0.out.up hB2)
      have HB2 := Lib.hid (HB0.out.trans (hB2.mono HB0.out.size))
      clear hB2 HF0 HB0 x0 x127 HALL
      cases hp : plainsB x.G
      · rw [hp, if_pos rfl] at HW
        clear hp
        go_wp2_with fail
        go_ret
        exact ⟨ret_i64 (by rw [HW.out]), HB2.out⟩
      · rw [hp, if_neg (by decide)] at HW
        clear hp
        have x127 : w2.cell? ⟨gb, 127, none⟩ = some (.slice A m c) := HF2.out.cell 127 (by decide)
        go_wp2_with fail
        clear x127
        go_loopw [4, 5, 38, 40, 41, 42, 43, 44, 45, 46, 47, 48, 49, 50, 51, 52, 53, 54, 55, 56, 57, 58, 59, 60, 61, 62, 63, 64, 65, 66, 67, 68, 69, 70, 71, 72, 73] (fun _ _ a38 _ _ _ _ _ _ _ _ _ _ _ _ _ _ _ _ _ _ _ _ _ _ _ _ _ _ _ _ _ _ _ _ _ _ wr => ∃ (j : Nat), j ≤ m ∧ a38 = .int .i64 j ∧ FB wr gb 61 128 (clF x.dead x.G (.slice A m c)) ∧ Below w.heap.size w wr ∧ consE (x.cons.take j) (x.cons.drop j) = consE [] x.cons) (fun _ _ a38 _ _ _ _ _ _ _ _ _ _ _ _ _ _ _ _ _ _ _ _ _ _ _ _ _ _ _ _ _ _ _ _ _ _ _ => (m - intOf a38).toNat)
        case atStart => exact ⟨0, by omega, rfl, HF2.out, HB2.out, rfl⟩
        case round =>
          obtain ⟨j, hj, rfl, hF, hB, hce⟩ := hrel
          clear HF2 HB2
          have HF := Lib.hid hF
          have HB := Lib.hid hB
          have HCE := Lib.hid hce
          clear hF hB hce
          by_cases hlt : j < m
          · have hlt' : (j : Int) < m := by omega
            obtain ⟨b', off, rfl, hbB, hcells⟩ := HR.out (by have := HM.out; omega)
            obtain ⟨y, hy⟩ : ∃ y, x.cons[j]? = some y := ⟨x.cons[j]'(by have := HM.out; omega), List.getElem?_eq_getElem _⟩
            have HX3 := Lib.hid (fun k (hk : k < 3) => (HB.out.cell (p := ⟨b', off + j * 3 + k, none⟩) hbB).trans (hcells j y hy k hk))
            have HTK := Lib.hid (show x.cons.take (j + 1) = x.cons.take j ++ [y] by rw [List.take_add_one, hy]; rfl)
            have hdr : x.cons.drop j = y :: x.cons.drop (j + 1) := by
              have hlj : j < x.cons.length := by rw [HM.out]; exact hlt
              rw [List.drop_eq_getElem_cons hlj]
              rw [List.getElem?_eq_getElem hlj] at hy
              injection hy with hy
              rw [hy]
            have hce := HCE.out
            rw [hdr] at hce
            have HCE2 := Lib.hid (show (if conB y = false then 91 else if risesB (x.cons.take j) y = false then 111 else consE (x.cons.take j ++ [y]) (x.cons.drop (j + 1))) = consE [] x.cons from hce)
            have HRT := Lib.hid (show RowsAt wr (some ⟨b', off, none⟩) 3 coF (x.cons.take j) from fun hp => by
              refine ⟨b', off, rfl, Nat.lt_of_lt_of_le hbB HB.out.size, fun i a hi k hk => ?_⟩
              rw [List.getElem?_take] at hi
              split at hi
              · exact (HB.out.cell (p := ⟨b', off + i * 3 + k, none⟩) hbB).trans (hcells i a hi k hk)
              · cases hi)
            clear hcells hy hdr hce HCE
            obtain ⟨F, hFF⟩ : ∃ F, F = coF y := ⟨_, rfl⟩
            rw [← hFF] at HX3
            have HO := Lib.hid (show ∀ q, q < 3 → (F q).oneCell' = true by rw [hFF]; exact coF_one y)
            have HFF := Lib.hid hFF
            clear hFF
            go_upto_region 11 with (first
              | (refine wpList_load_cells rfl 63 _ rfl b' (off + j * 3) rfl 3 F _ HX3.out Try.underlying63 rfl sizeCon ?_)
              | (refine wpList_alloc_seg rfl 63 rfl 3 (coF ⟨0, 0, 0⟩) zeroCon ?_; intro w6 h6 hB6 hs6)
              | (refine wpList_store_all rfl 63 _ _ rfl wr.heap.size 63 3 _ F rfl rfl h6 sizeCon HO.out ?_; intro w7 h7 hT7 hs7))
            obtain ⟨gc, hgc⟩ : ∃ gc, gc = wr.heap.size := ⟨_, rfl⟩
            rw [← hgc] at h6 h7 hT7 ⊢
            have hbw : Below wr.heap.size wr w7 := hB6.trans (hT7.below (by omega) hB6.size)
            have HF7 := Lib.hid (show FB w7 gc 63 3 (coF y) by rw [← HFF.out]; exact h7)
            have HFC := Lib.hid (HF.out.up hbw)
            have HB7 := Lib.hid (HB.out.trans (hbw.mono HB.out.size))
            have HRT7 := Lib.hid (HRT.out.below hbw)
            clear h6 hB6 hs6 h7 hT7 hs7 hgc hbw HX3 HO HF HB HRT
            have z0 : w7.cell? ⟨gc, 0, none⟩ = some (.int .i64 y.i) := HF7.out.cell 0 (by decide)
            have z1 : w7.cell? ⟨gc, 1, none⟩ = some (.int .i64 y.j) := HF7.out.cell 1 (by decide)
            have z2 : w7.cell? ⟨gc, 2, none⟩ = some (.int .i64 y.c) := HF7.out.cell 2 (by decide)
            obtain ⟨yi, yj, yc⟩ := y
            simp only at z0 z1 z2
            have hcs := con_split ⟨yi, yj, yc⟩
            simp only at hcs
            cases h1 : varB yi
            · rw [h1, Bool.false_and] at hcs
              have HE := Lib.hid (show wrongCl x = 91 by rw [HW.out, ← HCE2.out, if_pos hcs])
              clear hcs
              go_wp2_with fail
              go_at_call 47
              refine (variable_deed yi _).mono ?_
              rintro e u0 ⟨rfl, rfl⟩
              rw [h1]
              go_wp2_with fail
              go_ret
              exact ⟨ret_i64 (by rw [HE.out]), HB7.out⟩
            cases h2 : varB yj
            · rw [h1, h2, Bool.false_and, Bool.and_false] at hcs
              have HE := Lib.hid (show wrongCl x = 91 by rw [HW.out, ← HCE2.out, if_pos hcs])
              clear hcs
              go_wp2_with fail
              go_at_call 47
              refine (variable_deed yi _).mono ?_
              rintro e u0 ⟨rfl, rfl⟩
              rw [h1]
              go_wp2_with fail
              go_at_call 47
              refine (variable_deed yj _).mono ?_
              rintro e u0 ⟨rfl, rfl⟩
              rw [h2]
              go_wp2_with fail
              go_ret
              exact ⟨ret_i64 (by rw [HE.out]), HB7.out⟩
            by_cases h3 : yi = yj
            · subst h3
              rw [decide_eq_true rfl] at hcs
              have HE := Lib.hid (show wrongCl x = 91 by rw [HW.out, ← HCE2.out, if_pos (by rw [hcs]; simp)])
              clear hcs
              go_wp2_with fail
              go_at_call 47
              refine (variable_deed yi _).mono ?_
              rintro e u0 ⟨rfl, rfl⟩
              rw [h1]
              go_wp2_with fail
              go_at_call 47
              refine (variable_deed yi _).mono ?_
              rintro e u0 ⟨rfl, rfl⟩
              rw [h1]
              go_wp2_with fail
              go_ret
              exact ⟨ret_i64 (by rw [HE.out]), HB7.out⟩
            have t3 : (yi == yj) = false := by rw [beq_eq_false_iff_ne]; exact h3
            rw [decide_eq_false h3] at hcs
            clear h3
            cases h4 : constB yc
            · rw [h4, Bool.and_false, Bool.and_false, Bool.and_false] at hcs
              have HE := Lib.hid (show wrongCl x = 91 by rw [HW.out, ← HCE2.out, if_pos hcs])
              clear hcs
              go_wp2_with fail
              go_at_call 47
              refine (variable_deed yi _).mono ?_
              rintro e u0 ⟨rfl, rfl⟩
              rw [h1]
              go_wp2_with fail
              go_at_call 47
              refine (variable_deed yj _).mono ?_
              rintro e u0 ⟨rfl, rfl⟩
              rw [h2]
              go_wp2_with fail
              go_at_call 48
              refine (constant_deed yc _).mono ?_
              rintro e u0 ⟨rfl, rfl⟩
              rw [h4]
              go_wp2_with fail
              go_ret
              exact ⟨ret_i64 (by rw [HE.out]), HB7.out⟩
            rw [h1, h2, h4] at hcs
            have HCE3 := Lib.hid (show (if risesB (x.cons.take j) ⟨yi, yj, yc⟩ = false then 111 else consE (x.cons.take j ++ [⟨yi, yj, yc⟩]) (x.cons.drop (j + 1))) = consE [] x.cons by have h := HCE2.out; rw [if_neg (by rw [hcs]; decide)] at h; exact h)
            clear hcs HCE2
            go_wp2_with fail
            go_at_call 47
            refine (variable_deed yi _).mono ?_
            rintro e u0 ⟨rfl, rfl⟩
            rw [h1]
            go_wp2_with fail
            go_at_call 47
            refine (variable_deed yj _).mono ?_
            rintro e u0 ⟨rfl, rfl⟩
            rw [h2]
            go_wp2_with fail
            go_at_call 48
            refine (constant_deed yc _).mono ?_
            rintro e u0 ⟨rfl, rfl⟩
            rw [h4]
            clear h1 h2 h4 t3
            go_upto_region 13 with (fail)
            have c127 : w7.cell? ⟨gb, 127, none⟩ = some (.slice (some ⟨b', off, none⟩) m c) := HFC.out.cell 127 (by decide)
            have hXc : ∀ k, k < 3 → w7.cell? ⟨gc, 0 + k, none⟩ = some (coF ⟨yi, yj, yc⟩ k) := fun k hk => by rw [Nat.zero_add]; exact HF7.out.cell k hk
            refine wp_region_tail 5 (by kernel_rfl) (by kernel_rfl) fun W hW => ?_
            simp only [List.take_succ_cons, List.take_zero, List.drop_succ_cons, List.drop_zero]
            have c127' : W.cell? ⟨gb, 127, none⟩ = some (.slice (some ⟨b', off, none⟩) m c) := by rw [hW]; exact c127
            have q0 : W.cell? ⟨gc, 0, none⟩ = some (.int .i64 yi) := by rw [hW]; exact z0
            have q1 : W.cell? ⟨gc, 1, none⟩ = some (.int .i64 yj) := by rw [hW]; exact z1
            have q2 : W.cell? ⟨gc, 2, none⟩ = some (.int .i64 yc) := by rw [hW]; exact z2
            have hbW : Below w7.heap.size w7 W := by rw [hW]; exact ⟨rfl, rfl, rfl, Nat.le_refl _, fun _ _ => rfl⟩
            have HRTW := Lib.hid (HRT7.out.below hbW)
            have HFW := Lib.hid (HFC.out.up hbW)
            have HBW := Lib.hid (HB7.out.trans (hbW.mono HB7.out.size))
            have hjc : j ≤ c := by omega
            have hjc' : (j : Int) ≤ (c : Int) := by omega
            have HLT := Lib.hid (show (x.cons.take j).length = j by rw [List.length_take, HM.out]; omega)
            clear c127 hXc hW hbW HFC HB7 HRT7 z0 z1 z2
            iterate 5 still_step
            refine wpStill_nil ?_
            go_wp2_with fail
            refine (rises_any W (some ⟨b', off, none⟩) j c (x.cons.take j) ⟨yi, yj, yc⟩ HLT.out (by omega) HRTW.out).mono ?_
            rintro e w9 ⟨rfl, hB9⟩
            have HF9 := Lib.hid (HFW.out.up hB9)
            have HB9 := Lib.hid (HBW.out.trans (hB9.mono HBW.out.size))
            clear hB9 HFW HBW HRTW c127' q0 q1 q2 HF7
            have hce := HCE3.out
            cases hr : risesB (x.cons.take j) ⟨yi, yj, yc⟩
            · rw [if_pos hr] at hce
              have HE := Lib.hid (show wrongCl x = 111 by rw [HW.out, ← hce])
              clear hce HCE3 hr
              go_wp2_with fail
              go_ret
              exact ⟨ret_i64 (by rw [HE.out]), HB9.out⟩
            · rw [if_neg (by rw [hr]; decide)] at hce
              have HE := Lib.hid (show consE (x.cons.take (j + 1)) (x.cons.drop (j + 1)) = consE [] x.cons by rw [HTK.out]; exact hce)
              clear hce HCE3 hr
              go_wp2_with fail
              go_roundw
              case rel => exact ⟨j + 1, by omega, by go_num, HF9.out, HB9.out, HE.out⟩
              case measure => simp [intOf]; omega
          · obtain rfl : j = m := by omega
            have HE := Lib.hid (show wrongCl x = 0 by rw [HW.out, ← HCE.out, List.drop_of_length_le (by rw [HM.out]; exact Nat.le_refl _)]; rfl)
            have hlt' : decide (j < j) = false := by simp
            clear hlt hj HCE
            go_wp2_with fail
            go_ret
            exact ⟨ret_i64 (by rw [HE.out]), HB.out⟩
    · rw [hd] at x0 HW
      rw [if_pos rfl] at HW
      clear hd
      cases b
      · rw [if_neg (by decide)] at HW
        go_wp2_with fail
        go_ret
        exact ⟨ret_i64 (by rw [HW.out]), HB0.out⟩
      · rw [if_pos rfl] at HW
        go_wp2_with fail
        go_ret
        exact ⟨ret_i64 (by rw [HW.out]), HB0.out⟩
end Go.Proofs.Ytbomihdnnidelaa
