/- Package pack: the sections that a container is written in. -/
import Derived.Test.YtkfcfoidaalnlaaPkE
namespace Go.Proofs.Ytkfcfoidaalnlaa.Pak
open Go.ChangeShapes Go.WideShapes Go.ChangeAt Go.RowKit
set_option linter.unusedVariables false
set_option linter.unusedSimpArgs false
set_option maxRecDepth 100000
def SlEnd (w0 w : World) (L : List Int) (e : Ending) (w' : World) : Prop := ∃ A n c, e = .returned (.slice A n c) ∧ Sl w' A n c L ∧ Below w.heap.size w w' ∧ Below w0.heap.size w0 w'
set_option maxHeartbeats 1000000 in
theorem lens_any (w0 w : World) (h0 : Below w0.heap.size w0 w) (lo hi : Int) : Calls Try.prog 37 #[.int .i64 lo, .int .i64 hi] w (SlEnd w0 w (le lo 2 ++ le hi 2)) := by
  have HO := Lib.hid (OwnB.nil w w.heap.size)
  go_enter Try.func37, Try.ntmps37
  go_upto_region 2 with (first
    | (go_at_call 41; refine (put_any w w.heap.size (.slice none 0 0) [] lo 2 HO.out (Nat.le_refl _) (by simp)).mono ?_; rintro e w1 ⟨v1, rfl, hO1, hU1⟩; clear HO; have HO := Lib.hid hO1; have HU := Lib.hid hU1; have hs1 := hU1.below.size; clear hO1 hU1; obtain ⟨A1, c1, rfl, -⟩ := HO.out.form)
    | (go_at_call 41; refine (put_any w1 w.heap.size _ _ hi 2 HO.out hs1 (by simp [le_len])).mono ?_; rintro e w2 ⟨v2, rfl, hO2, hU2⟩))
  obtain ⟨A, n, c, rfl, hSl⟩ := own_full hO2
  have hb := HU.out.below.trans hU2.below
  go_wp2_with fail
  go_ret
  exact ⟨A, n, c, rfl, hSl, hb, h0.trans (hb.mono h0.size)⟩
theorem bytes_box2 (w : World) (x y : Int) : BytesAt (w.alloc (.cells #[.int .u8 x, .int .u8 y] 5)) (some ⟨w.heap.size, 0, none⟩) [x, y] := (ByteBlk.new w [x, y]).at_
theorem tabF_one (x : Int × Int) : ∀ q, q < 2 → (tabF x q).oneCell' = true := fun q hq => by
  rcases (show q = 0 ∨ q = 1 by omega) with rfl | rfl <;> rfl
theorem zeroTab : (Try.prog.info? 60).bind (fun i => i.zero.map Value.cells) = some (arr 2 (tabF (0, 0))) := by kernel_rfl
set_option maxHeartbeats 2000000 in
theorem sizes_any (w0 w : World) (h0 : Below w0.heap.size w0 w) (A : Option Addr) (n c : Nat) (T : List (Int × Int)) (hL : T.length = n) (hn : n ≤ 1048576) (hA : RowsAt w A 2 tabF T) :
    Calls Try.prog 38 #[.slice A n c] w (SlEnd w0 w (tabB T)) := by
  have HL := Lib.hid hL
  have HA := Lib.hid hA
  have HO := Lib.hid (OwnB.nil w w.heap.size)
  clear hL hA
  go_enter Try.func38, Try.ntmps38
  go_wp2_with fail
  go_loopw [3, 5, 8, 9, 10, 11, 12, 13, 14, 15, 16, 17, 18, 19, 20, 21] (fun a3 _ a8 _ _ _ _ _ _ _ _ _ _ _ _ _ wr => ∃ (j : Nat) (M : List Int), a8 = .int .i64 j ∧ j ≤ n ∧ Hid (M.length = 2 * j) ∧ Hid (M ++ tabB (T.drop j) = tabB T) ∧ OwnB wr w.heap.size a3 M ∧ Below w.heap.size w wr) (fun _ _ a8 _ _ _ _ _ _ _ _ _ _ _ _ _ _ => (n - intOf a8).toNat)
  case atStart => exact ⟨0, [], rfl, Nat.zero_le _, Lib.hid rfl, Lib.hid rfl, HO.out, Below.refl _ _⟩
  case round =>
    obtain ⟨j, M, rfl, hj, HML, HE, hO, hB⟩ := hrel
    clear HO
    have HO := Lib.hid hO
    have HB := Lib.hid hB
    clear hO hB
    by_cases hlt : j < n
    · have hlt' : (j : Int) < n := by omega
      obtain ⟨x, hx, hdr⟩ := drop_cons (l := T) (j := j) (by have := HL.out; omega)
      rw [hdr] at HE
      obtain ⟨b, off, rfl, hbl, hcell⟩ := (HA.out.below HB.out) (by have := HL.out; omega)
      have HX := Lib.hid (hcell j x hx)
      clear hdr hcell hx
      obtain ⟨r, d⟩ := x
      obtain ⟨X, hX⟩ : ∃ X, X = tabF (r, d) := ⟨_, rfl⟩
      rw [← hX] at HX
      have HX1 := Lib.hid (show ∀ q, q < 2 → (X q).oneCell' = true by rw [hX]; exact tabF_one _)
      have HXX := Lib.hid hX
      clear hX
      go_upto_region 5 with (first
        | (refine wpList_load_cells rfl 60 _ rfl b (off + j * 2) rfl 2 X _ HX.out Try.underlying60 rfl sizeTab ?_)
        | (refine wpList_alloc_seg rfl 60 rfl 2 (tabF (0, 0)) zeroTab ?_; intro w2 h2 hB2 hs2)
        | (refine wpList_store_all rfl 60 _ _ rfl wr.heap.size 60 2 _ X rfl rfl h2 sizeTab HX1.out ?_; intro w3 h3 hT3 hs3))
      obtain ⟨gb, hgb⟩ : ∃ gb, gb = wr.heap.size := ⟨_, rfl⟩
      have hbw : Below wr.heap.size wr w3 := hB2.trans (hT3.below (Nat.le_refl _) hB2.size)
      rw [← hgb] at h3 ⊢
      have y0 : w3.cell? ⟨gb, 0, none⟩ = some (.int .i64 r) := by rw [h3.cell 0 (by decide), HXX.out]; rfl
      have y1 : w3.cell? ⟨gb, 1, none⟩ = some (.int .i64 d) := by rw [h3.cell 1 (by decide), HXX.out]; rfl
      have e1 := u8_wrap r
      have e2 := u8_wrap d
      have HO3 := Lib.hid (ownB_up HO.out hbw)
      have HB3 := Lib.hid (HB.out.trans (hbw.mono HB.out.size))
      clear h2 hB2 h3 hT3 hs2 hs3 hgb hbw HX HXX HX1 HO HB
      have hbx := below_box w3 (.cells #[.int .u8 (r % 256), .int .u8 (d % 256)] 5)
      have HO4 := Lib.hid (ownB_up HO3.out hbx)
      have HB4 := Lib.hid (HB3.out.trans (hbx.mono HB3.out.size))
      have HBX := Lib.hid (bytes_box2 w3 (r % 256) (d % 256))
      have HLE := Lib.hid (show M.length + 2 ≤ 140737488355328 by have := HML.out; omega)
      have HE2 := Lib.hid (show (M ++ [r % 256, d % 256]) ++ tabB (T.drop (j + 1)) = tabB T by rw [← HE.out, tabB_cons, List.append_assoc]; rfl)
      obtain ⟨A3, c3, hv3, -⟩ := HO3.out.form
      subst hv3
      obtain ⟨q, hq⟩ : ∃ q, q = M.length := ⟨_, rfl⟩
      rw [← hq] at HO4 HO3 ⊢
      have HS4 := Lib.hid HB4.out.size
      have HMM := Lib.hid (show (M ++ [r % 256, d % 256]).length = 2 * (j + 1) by have := HML.out; simp; omega)
      clear hbx HE hq HO3
      go_wp2_with (at_builtin; (refine append_bytesG Try.underlying22 byte_info _ rfl (.tmp 12) (.tmp 19) rfl w.heap.size _ M rfl HO4.out _ 2 2 [r % 256, d % 256] rfl rfl HBX.out HLE.out HS4.out ?_; intro v9 w9 hown9 hg9; have hUT := UT.grown hg9 HO4.out HS4.out))
      go_roundw
      case rel => exact ⟨j + 1, M ++ [r % 256, d % 256], by go_num, by omega, HMM, HE2, hown9, HB4.out.trans hUT.below⟩
      case measure => simp [intOf]; omega
    · obtain rfl : j = n := by omega
      have HE2 := Lib.hid (show M = tabB T by rw [← HE.out, List.drop_of_length_le (by have := HL.out; omega)]; exact (List.append_nil _).symm)
      obtain ⟨A3, n3, c3, rfl, hSl⟩ := own_full HO.out
      have HSl := Lib.hid hSl
      clear hlt HE hSl
      go_wp2_with fail
      go_ret
      exact ⟨A3, n3, c3, rfl, by rw [← HE2.out]; exact HSl.out, HB.out, h0.trans (HB.out.mono h0.size)⟩
end Go.Proofs.Ytkfcfoidaalnlaa.Pak
