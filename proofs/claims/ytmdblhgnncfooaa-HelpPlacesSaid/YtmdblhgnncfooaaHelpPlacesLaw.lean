/- HelpPlaces: the walk. -/
import Derived.Test.YtmdblhgnncfooaaHG
import Derived.Test.YtmdblhgnncfooaaHelpPartsLaw
namespace Go.Proofs.Ytmdblhgnncfooaa
open Go.ChangeShapes Go.WideShapes Go.ChangeAt Go.RowKit
open Bits HM
set_option linter.unusedVariables false
set_option linter.unusedSimpArgs false

theorem find_end (L : List Int) (z : Int) (k : Nat) (hk : k ≤ L.length) (hm : ∀ i, i < k → L[i]?.getD 0 ≠ z) : findV (L.take k ++ [z, z]) z = k := by
  have : placeN (L.take k ++ [z, z]) z = k := by
    refine placeN_of _ _ _ (by simp; omega) (fun j hj => ?_) (fun _ => ?_)
    · rw [List.getElem?_append_left (by simp; omega), List.getElem?_take, if_pos hj]
      exact hm j hj
    · rw [List.getElem?_append_right (by simp; omega)]
      simp [Nat.min_eq_left hk]
  unfold findV
  rw [this, if_pos (by simp; omega)]

theorem places_behind {w wr w2 : World} {v : Value} {T : List Int} (x : Int) (hB : Below w.heap.size w wr) (hown : OwnB w2 wr.heap.size v T) (hB2 : Below wr.heap.size wr w2) :
    wr.heap.size ≤ w2.heap.size ∧ BytesAt (w2.alloc (.cells #[.int .u8 (x % 256), .int .u8 (x % 256)] 5)) (some ⟨w2.heap.size, 0, none⟩) [x % 256, x % 256] ∧
    OwnB (w2.alloc (.cells #[.int .u8 (x % 256), .int .u8 (x % 256)] 5)) wr.heap.size v T ∧ wr.heap.size ≤ (w2.alloc (.cells #[.int .u8 (x % 256), .int .u8 (x % 256)] 5)).heap.size ∧
    Below w.heap.size w (w2.alloc (.cells #[.int .u8 (x % 256), .int .u8 (x % 256)] 5)) := by
  have hs2 := hB2.size
  have hsz := hB.size
  exact ⟨hs2, (ByteBlk.new w2 [x % 256, x % 256]).at_, World.ownsRow.alloc hown _, by simp; omega, (hB.trans (hB2.mono hsz)).alloc (by omega) _⟩

set_option maxRecDepth 100000 in
set_option maxHeartbeats 1600000 in
theorem helpPlaces_walk (w : World) (A : Option Addr) (n c : Nat) (L : List Int) (hL : L.length = n) (hnc : n ≤ c ∧ c ≤ 140737488351232) (hb : Byt L) (hA : BytesAt w A L) (x : Int) (hx : -9223372036854775808 ≤ x ∧ x ≤ 9223372036854775807) :
    Calls Try.prog 13 #[.slice A n c, .int .i64 x] w fun e w' => e = .returned (.bool true) ∧ Below w.heap.size w w' := by
  have hk := Lib.hid (known_any w)
  have HA := Lib.hid hA
  have HL := Lib.hid hL
  have HY := Lib.hid hb
  obtain ⟨hn1, hn2⟩ := hnc
  have ha := and8 x
  have hf := fun w hA => find_any w A n c L x hL hA hb
  have hg := fun w hA => find_any w A n c L (x % 256) hL hA hb
  have he2 : (x % 256) % 256 = x % 256 := Int.emod_emod _ _
  rw [he2] at hg
  have hz0 : 0 ≤ x % 256 := by omega
  have hz1 : x % 256 < 256 := by omega
  have HP := Lib.hid (placeN_le L (x % 256))
  have HH := Lib.hid (placeN_hit L (x % 256))
  have HM := Lib.hid (placeN_miss L (x % 256))
  have HF := Lib.hid hf
  have HG := Lib.hid hg
  clear hf hg hA hL hb he2
  rcases Nat.lt_or_ge (placeN L (x % 256)) L.length with hp | hp
  · have hfv : findV L (x % 256) = placeN L (x % 256) := by unfold findV; rw [if_pos hp]
    have hh := HH.out hp
    rw [hfv] at HF HG
    rw [HL.out] at hp
    clear HH HP
    generalize placeN L (x % 256) = p at *
    go_enter Try.func13, Try.ntmps13
    go_wp2_with fail
    refine hk.out.mono ?_
    rintro e w1 ⟨rfl, hB⟩
    have hA1 := HA.out.below hB
    clear hk HA
    go_wp2_with fail
    refine (HF.out w1 hA1).mono ?_
    rintro e w' ⟨rfl, rfl⟩
    go_upto_region 4 with (fail)
    obtain ⟨b, off, rfl, hbl, hc⟩ := hA1 (by have := HL.out; omega)
    have hcp := hc p (by have := HL.out; omega)
    rw [hh] at hcp
    have hA2 : BytesAt w1 (some ⟨b, off, none⟩) L := fun _ => ⟨b, off, rfl, hbl, hc⟩
    have HA2 := Lib.hid hA2
    have f1 : (p : Int) < n := by omega
    clear hc hA2
    go_wp2_with fail
    refine (HG.out w1 HA2.out).mono ?_
    rintro e w' ⟨rfl, rfl⟩
    go_wp2_with fail
    go_loopw [7] (fun i wr => ∃ j : Nat, j ≤ p ∧ i = .int .i64 j ∧ wr = w1) (fun i _ => (p - intOf i).toNat)
    case atStart => exact ⟨0, Nat.zero_le _, rfl, rfl⟩
    case round =>
      obtain ⟨j, hj, rfl, rfl⟩ := hrel
      by_cases hlt : j < p
      · obtain ⟨b1, off1, e1, hbl1, hc1⟩ := HA2.out (by have := HL.out; omega)
        injection e1 with e1
        injection e1 with e1 e2
        have hcj := hc1 j (by have := HL.out; omega)
        have hyj := byt_at HY.out j
        have hne := HM.out j hlt
        have hneb : (L[j]?.getD 0 == x % 256) = false := by simpa using hne
        obtain ⟨hyj0, hyj1⟩ := hyj
        have g1 : (j : Int) < p := by omega
        have g2 : j < n := by omega
        rw [← e1, ← e2] at hcj
        clear hc1 e1 e2 hbl1 hne
        generalize L[j]?.getD 0 = y at *
        go_wp2_with fail
        go_roundw
        case rel => exact ⟨j + 1, by omega, by go_num, trivial⟩
        case measure => simp [intOf]; omega
      · obtain rfl : j = p := by omega
        have hsz := hB.size
        have hcp := Lib.hid (copyBytes_own wr (some ⟨b, off, none⟩) j c (L.take j) (by rw [List.length_take, HL.out]; omega) (by omega) (bytesAt_take HA2.out j))
        have HE := Lib.hid (find_end L (x % 256) j (by rw [HL.out]; omega) HM.out)
        have hty := byt_take HY.out j
        have HTL := Lib.hid (show (L.take j).length = j by rw [List.length_take, HL.out]; omega)
        have hjc : j ≤ c := by omega
        clear HM
        generalize L.take j = T at *
        go_wp2_with (first | (go_at_call 26; refine hcp.out.mono ?_; rintro e w2 ⟨v, rfl, hown, hB2⟩; obtain ⟨hs2, hbk, hown2, hs3, hB3⟩ := places_behind x hB hown hB2) | (at_builtin; (refine append_bytes Try.underlying37 byte_info _ rfl (.tmp 65) (.tmp 70) rfl wr.heap.size v T rfl hown2 _ 2 2 [x % 256, x % 256] rfl rfl hbk (by rw [HTL.out]; omega) hs3 ?_; intro v' w3 hown' hB4)))
        obtain ⟨A', c', rfl, hat, hlc, hcm⟩ := ownB_slice hown'
        have hYB : Byt (T ++ [x % 256, x % 256]) := fun y hy => by
          rcases List.mem_append.1 hy with h | h
          · exact hty y h
          · simp at h; omega
        have hfin := find_any w3 A' (T ++ [x % 256, x % 256]).length c' (T ++ [x % 256, x % 256]) x rfl hat hYB
        rw [HE.out] at hfin
        have hB5 : Below w.heap.size w w3 := hB3.trans (hB4.mono hsz)
        clear hcp hown hown' hown2 hbk hat hYB
        generalize (T ++ [x % 256, x % 256]).length = N at *
        refine hfin.mono ?_
        rintro e w4 ⟨rfl, rfl⟩
        go_wp2_with fail
        go_ret
        exact ⟨by simp, hB5⟩
  · have hfv : findV L (x % 256) = -1 := by unfold findV; rw [if_neg (by omega)]
    have hpl : placeN L (x % 256) = n := by have h1 := HP.out; rw [← HL.out]; omega
    rw [hfv] at HF HG
    rw [hpl] at HM
    clear HH HP hp hfv hpl
    go_enter Try.func13, Try.ntmps13
    go_wp2_with fail
    refine hk.out.mono ?_
    rintro e w1 ⟨rfl, hB⟩
    have HA2 := Lib.hid (HA.out.below hB)
    clear hk HA
    go_wp2_with fail
    refine (HF.out w1 HA2.out).mono ?_
    rintro e w' ⟨rfl, rfl⟩
    go_wp2_with fail
    refine (HG.out w1 HA2.out).mono ?_
    rintro e w' ⟨rfl, rfl⟩
    go_wp2_with fail
    go_loopw [7] (fun i wr => ∃ j : Nat, j ≤ n ∧ i = .int .i64 j ∧ wr = w1) (fun i _ => (n - intOf i).toNat)
    case atStart => exact ⟨0, Nat.zero_le _, rfl, rfl⟩
    case round =>
      obtain ⟨j, hj, rfl, rfl⟩ := hrel
      by_cases hlt : j < n
      · obtain ⟨b1, off1, e1, hbl1, hc1⟩ := HA2.out (by have := HL.out; omega)
        have hcj := hc1 j (by have := HL.out; omega)
        have hyj := byt_at HY.out j
        have hne := HM.out j hlt
        have hneb : (L[j]?.getD 0 == x % 256) = false := by simpa using hne
        obtain ⟨hyj0, hyj1⟩ := hyj
        have g1 : (j : Int) < n := by omega
        have g2 : j < n := by omega
        subst e1
        clear hc1 hbl1 hne
        generalize L[j]?.getD 0 = y at *
        go_wp2_with fail
        go_roundw
        case rel => exact ⟨j + 1, by omega, by go_num, trivial⟩
        case measure => simp [intOf]; omega
      · obtain rfl : j = n := by omega
        have hsz := hB.size
        have hcp := Lib.hid (copyBytes_own wr A j c (L.take j) (by rw [List.length_take, HL.out]; omega) (by omega) (bytesAt_take HA2.out j))
        have HE := Lib.hid (find_end L (x % 256) j (by rw [HL.out]; omega) HM.out)
        have hty := byt_take HY.out j
        have HTL := Lib.hid (show (L.take j).length = j by rw [List.length_take, HL.out]; omega)
        have hjc : j ≤ c := by omega
        clear HM
        generalize L.take j = T at *
        go_wp2_with (first | (go_at_call 26; refine hcp.out.mono ?_; rintro e w2 ⟨v, rfl, hown, hB2⟩; obtain ⟨hs2, hbk, hown2, hs3, hB3⟩ := places_behind x hB hown hB2) | (at_builtin; (refine append_bytes Try.underlying37 byte_info _ rfl (.tmp 65) (.tmp 70) rfl wr.heap.size v T rfl hown2 _ 2 2 [x % 256, x % 256] rfl rfl hbk (by rw [HTL.out]; omega) hs3 ?_; intro v' w3 hown' hB4)))
        obtain ⟨A', c', rfl, hat, hlc, hcm⟩ := ownB_slice hown'
        have hYB : Byt (T ++ [x % 256, x % 256]) := fun y hy => by
          rcases List.mem_append.1 hy with h | h
          · exact hty y h
          · simp at h; omega
        have hfin := find_any w3 A' (T ++ [x % 256, x % 256]).length c' (T ++ [x % 256, x % 256]) x rfl hat hYB
        rw [HE.out] at hfin
        have hB5 : Below w.heap.size w w3 := hB3.trans (hB4.mono hsz)
        clear hcp hown hown' hown2 hbk hat hYB
        generalize (T ++ [x % 256, x % 256]).length = N at *
        refine hfin.mono ?_
        rintro e w4 ⟨rfl, rfl⟩
        go_wp2_with fail
        go_ret
        exact ⟨by simp, hB5⟩
end Go.Proofs.Ytmdblhgnncfooaa
