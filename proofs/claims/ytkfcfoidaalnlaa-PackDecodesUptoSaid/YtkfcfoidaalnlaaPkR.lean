/- Package pack: what stands ahead of the sum. -/
import Derived.Test.YtkfcfoidaalnlaaPkQ
namespace Go.Proofs.Ytkfcfoidaalnlaa.Pak
open Go.ChangeShapes Go.WideShapes Go.ChangeAt Go.RowKit
set_option linter.unusedVariables false
set_option linter.unusedSimpArgs false
set_option maxRecDepth 100000
theorem conv_zero (w : World) (p : Option Addr) (c : Nat) : (convert 22 9 (.slice p 0 c)).run Try.prog w = .ok (.string (strOfNums [])) w := by
  cases p with
  | none => exact run_convert_bytes_nil w 22 5 Try.underlying22 Try.underlying5 0 c 9 Try.underlying9
  | some a =>
    rw [run_convert_bytes_string w 22 9 5 _ 0 c Try.underlying22 Try.underlying5 Try.underlying9]
    simp [Conv.bytesToString, loadCells]
    rfl
theorem conv_any (w : World) (A : Option Addr) (n c : Nat) (L : List Int) (hL : L.length = n) (h : BytesAt w A L) :
    (convert 22 9 (.slice A n c)).run Try.prog w = .ok (.string (strOfNums L)) w := by
  rcases Nat.eq_zero_or_pos n with h0 | h0
  · subst h0
    obtain rfl : L = [] := List.eq_nil_of_length_eq_zero hL
    exact conv_zero w A c
  · exact conv_at w A n c L hL h0 h
theorem byte_inj {x y : Int} (hx : IsB x) (hy : IsB y) (h : UInt8.ofNat x.toNat = UInt8.ofNat y.toNat) : x = y := by
  unfold IsB at hx hy
  have h2 := congrArg UInt8.toNat h
  rw [UInt8.toNat_ofNat', UInt8.toNat_ofNat'] at h2
  omega
theorem bytes_inj : ∀ {L M : List Int}, Bytes L → Bytes M → L.map (fun n => UInt8.ofNat n.toNat) = M.map (fun n => UInt8.ofNat n.toNat) → L = M
  | [], [], _, _, _ => rfl
  | [], y :: t, _, _, h => by simp at h
  | x :: t, [], _, _, h => by simp at h
  | x :: s, y :: t, hL, hM, h => by
    rw [List.map_cons, List.map_cons, List.cons.injEq] at h
    rw [byte_inj (hL x (by simp)) (hM y (by simp)) h.1, bytes_inj (fun z hz => hL z (by simp [hz])) (fun z hz => hM z (by simp [hz])) h.2]
theorem str_inj {L M : List Int} (hL : Bytes L) (hM : Bytes M) (h : strOfNums L = strOfNums M) : L = M := by
  have h2 := congrArg (fun s => s.data.toList) h
  simp only [strOfNums_data] at h2
  exact bytes_inj hL hM h2
theorem str_eq (L M : List Int) (hL : Bytes L) (hM : Bytes M) : ((strOfNums L).toList == (strOfNums M).toList) = decide (L = M) := by
  by_cases h : L = M
  · subst h
    rw [decide_eq_true rfl]; simp
  · rw [decide_eq_false h, beq_eq_false_iff_ne]
    intro e
    rw [ByteArray.toList_eq, ByteArray.toList_eq] at e
    exact h (str_inj hL hM (ByteArray.ext (Array.toList_inj.1 e)))
theorem sameBytes_any (w : World) (A : Option Addr) (n c : Nat) (A' : Option Addr) (n' c' : Nat) (L M : List Int) (hL : L.length = n) (hM : M.length = n') (h : BytesAt w A L) (h' : BytesAt w A' M) (bL : Bytes L) (bM : Bytes M) :
    Calls Try.prog 14 #[.slice A n c, .slice A' n' c'] w fun e w' => e = .returned (.bool (decide (L = M))) ∧ w = w' := by
  have H1 := conv_any w A n c L hL h
  have H2 := conv_any w A' n' c' M hM h'
  have HE := Lib.hid (str_eq L M bL bM)
  clear h h' hL hM bL bM
  generalize strOfNums L = S at *
  generalize strOfNums M = T at *
  go_enter Try.func14, Try.ntmps14
  go_wp2
  go_ret
  exact ⟨by rw [← HE.out]; rfl, rfl⟩
theorem mark_lit : (strOfNums mark).toList = [87, 80, 75, 49] := by kernel_rfl
theorem bytes_front {w : World} {A : Option Addr} {L : List Int} (h : BytesAt w A L) (m : Nat) : BytesAt w A (L.take m) := fun hp => by
  rw [List.length_take] at hp
  obtain ⟨b, off, e, hl, hc⟩ := h (by omega)
  refine ⟨b, off, e, hl, fun i hi => ?_⟩
  rw [List.length_take] at hi
  rw [hc i (by omega), List.getElem?_take, if_pos (by omega)]
/-- what is wrong with bytes ahead of their sections -/
def betE (L : List Int) : Option Fl :=
  if 131072 < L.length then some (0, 2) else if L.length < 8 then some (L.length, 120) else if L.take 4 ≠ mark then some (0, 120) else
  if num (L.drop (L.length - 4)) ≠ sumN (L.take (L.length - 4)) then some (L.length - 4, 124) else none
theorem decP_bet (L : List Int) : decP L = match betE L with
  | some e => .error e
  | none => match packR 0 Pk.none ((L.take (L.length - 4)).drop 4) with
    | .ok k => .ok k
    | .error (lf, er) => .error (L.length - 4 - lf, er) := by
  unfold decP betE
  split
  · rfl
  split
  · rfl
  split
  · rfl
  split
  · rfl
  · rfl
def BetRes (A : Option Addr) (n : Nat) (r : Option Fl) (e : Ending) : Prop := match r with
  | some (a, er) => e = .returned (.tuple #[.slice none 0 0, .agg (arr 2 (ftF a er))])
  | none => e = .returned (.tuple #[.slice A (n - 4) (n - 4), .agg (arr 2 (ftF 0 0))])
set_option maxHeartbeats 4000000 in
theorem between_any (w : World) (A : Option Addr) (n c : Nat) (L : List Int) (hS : Sl w A n c L) (hY : Bytes L) (hn : n ≤ 1152921504606846976) :
    Calls Try.prog 33 #[.slice A n c] w fun e w' => Below w.heap.size w w' ∧ BetRes A n (betE L) e := by
  obtain ⟨r, hr⟩ : ∃ r, r = betE L := ⟨_, rfl⟩
  rw [← hr]
  have HR := Lib.hid hr
  have HL := hS.len
  have HS := Lib.hid hS
  have HY := Lib.hid hY
  have hcn := hS.cap
  clear hr hS hY
  go_enter Try.func33, Try.ntmps33
  go_upto_region 1 with (refine wpList_alloc_seg rfl 67 rfl 2 (ftF 0 0) zeroFt ?_; intro w1 h1 hB1 hs1)
  obtain ⟨gf, hgf⟩ : ∃ gf, gf = w.heap.size := ⟨_, rfl⟩
  have HGF := Lib.hid (show w.heap.size ≤ gf by omega)
  rw [← hgf] at h1 ⊢
  have HF := Lib.hid h1
  have HB := Lib.hid hB1
  have HS1 := Lib.hid (HS.out.up hB1)
  clear h1 hB1 hs1 hgf HS
  by_cases hbig : 131072 < n
  · have t1 : decide (131072 < (n : Int)) = true := decide_eq_true (by omega)
    have HE := Lib.hid (show r = some (0, 2) by rw [HR.out]; unfold betE; rw [if_pos (by rw [HL.out]; exact hbig)])
    clear hbig
    go_wp2_with (refine wpList_store_all rfl 67 _ _ rfl gf 67 2 _ (ftF (0) (2)) rfl rfl HF.out sizeFt (ftF_one _ _) ?_; intro w9 h9 hT9 hs9)
    refine bodyPost_ret (result_tc rfl _ _ _ gf _ 2 _ _ rfl rfl h9 Try.underlying67 rfl sizeFt) rfl ?_
    refine ⟨HB.out.trans (hT9.below HGF.out HB.out.size), ?_⟩
    rw [HE.out]
    exact rfl
  have t1 : decide (131072 < (n : Int)) = false := decide_eq_false (by omega)
  by_cases h8 : n < 8
  · have t8 : decide ((n : Int) < 8) = true := decide_eq_true (by omega)
    have HE := Lib.hid (show r = some (n, 120) by rw [HR.out]; unfold betE; rw [if_neg (by rw [HL.out]; exact hbig), if_pos (by rw [HL.out]; exact h8), HL.out])
    clear hbig h8
    go_wp2_with (refine wpList_store_all rfl 67 _ _ rfl gf 67 2 _ (ftF (n) (120)) rfl rfl HF.out sizeFt (ftF_one _ _) ?_; intro w9 h9 hT9 hs9)
    refine bodyPost_ret (result_tc rfl _ _ _ gf _ 2 _ _ rfl rfl h9 Try.underlying67 rfl sizeFt) rfl ?_
    refine ⟨HB.out.trans (hT9.below HGF.out HB.out.size), ?_⟩
    rw [HE.out]
    exact rfl
  have t8 : decide ((n : Int) < 8) = false := decide_eq_false (by omega)
  have HRB := Lib.hid (show betE L = (if L.take 4 ≠ mark then some (0, 120) else if num (L.drop (n - 4)) ≠ sumN (L.take (n - 4)) then some (n - 4, 124) else none) by
    unfold betE; rw [if_neg (by rw [HL.out]; exact hbig), if_neg (by rw [HL.out]; exact h8), HL.out])
  obtain ⟨q, hq⟩ : ∃ q : Nat, n = q + 4 := ⟨n - 4, by omega⟩
  have hqi : (n : Int) - 4 = q := by omega
  have hqn : n - 4 = q := by omega
  have hq4 : 4 ≤ q ∧ q ≤ 131068 := by omega
  obtain ⟨b, off, rfl, hbl, hcell⟩ := HS1.out.byt (by rw [HL.out]; omega)
  have hc4 : (4 : Int) ≤ c := by omega
  have HCV := Lib.hid (conv_any w1 (some ⟨b, off, none⟩) 4 c (L.take 4) (by rw [List.length_take, HL.out]; omega) (bytes_front HS1.out.byt 4))
  have HEQ := Lib.hid (str_eq (L.take 4) mark (HY.out.take 4) mark_bytes)
  rw [mark_lit] at HEQ
  rw [hqn] at HRB
  clear hbig h8 hcell
  by_cases hmk : L.take 4 = mark
  · rw [if_neg (by rw [hmk]; simp)] at HRB
    rw [decide_eq_true hmk] at HEQ
    have hcv := HCV.out
    have heq := HEQ.out
    generalize strOfNums (L.take 4) = S at *
    clear hmk HCV HEQ
    obtain ⟨s, hs⟩ : ∃ s, s = num (L.drop q) := ⟨_, rfl⟩
    obtain ⟨u, hu⟩ : ∃ u, u = sumN (L.take q) := ⟨_, rfl⟩
    have hul : u < 4294967296 := by rw [hu]; exact sumN_lt _
    rw [← hs, ← hu] at HRB
    have HNU := Lib.hid (fun (W : World) (m : Nat) (hW : W = w1.drewN m) => (number_any W (some ⟨b, off + q, none⟩) 4 (c - q) (L.drop q) (by rw [List.length_drop, HL.out]; omega) (by decide) (HY.out.drop q) (by
      rw [hW]
      exact bytes_part (p := q) (m := 4) HS1.out.byt (by rw [List.take_of_length_le (by rw [List.length_drop, HL.out]; omega)]) (by rw [HL.out]; omega))).mono fun _ _ h => (⟨h.1, h.2.symm⟩ : _ ∧ _))
    have HSU := Lib.hid (fun (W : World) (m : Nat) (hW : W = w1.drewN m) => (sum_any W (some ⟨b, off, none⟩) q c (L.take q) (by rw [List.length_take, HL.out]; omega) (by omega) (HY.out.take q) (by
      rw [hW]
      exact bytes_front HS1.out.byt q)).mono fun _ _ h => (⟨h.1, h.2.symm⟩ : _ ∧ _))
    rw [← hs] at HNU
    rw [← hu] at HSU
    have hcq : ¬ (c = q) := by omega
    have hqc : (q : Int) ≤ c := by omega
    have hqn2 : (q : Int) ≤ n := by omega
    have hsub : n - q = 4 := by omega
    clear hq hs hu
    go_upto_region 8 with fail
    clear heq hcv t1 t8
    by_cases hsu : s = (u : Int)
    · have tsu : (s != (u : Int)) = false := by rw [hsu]; simp
      rw [if_neg (by rw [hsu]; simp)] at HRB
      have HE := Lib.hid (show r = none from HR.out.trans HRB.out)
      clear hsu
      go_quiet (first | exact Calls.quiet_of_same (HNU.out _ _ rfl) | exact Calls.quiet_of_same (HSU.out _ _ rfl))
      obtain ⟨w2, hw2⟩ : ∃ x, x = w1.drewN nq := ⟨_, rfl⟩
      have HF2 := Lib.hid (show FB w2 gf 67 2 (ftF 0 0) by rw [hw2]; exact HF.out.drewN nq)
      have HB2 := Lib.hid (show Below w.heap.size w w2 by rw [hw2]; exact below_drewN HB.out nq)
      rw [← hw2]
      clear hw2 HF HB
      have HF := HF2
      have HB := HB2
      clear HF2 HB2 HNU HSU
      go_wp2_with (refine wpList_store_all rfl 67 _ _ rfl gf 67 2 _ (ftF (0) (0)) rfl rfl HF.out sizeFt (ftF_one _ _) ?_; intro w9 h9 hT9 hs9)
      refine bodyPost_ret (result_tc rfl _ _ _ gf _ 2 _ _ rfl rfl h9 Try.underlying67 rfl sizeFt) rfl ?_
      refine ⟨HB.out.trans (hT9.below HGF.out HB.out.size), ?_⟩
      rw [HE.out, show n = q + 4 by omega]
      exact rfl
    · have tsu : (s != (u : Int)) = true := by rw [bne_iff_ne]; exact hsu
      rw [if_pos hsu] at HRB
      have HE := Lib.hid (show r = some (q, 124) from HR.out.trans HRB.out)
      clear hsu
      go_quiet (first | exact Calls.quiet_of_same (HNU.out _ _ rfl) | exact Calls.quiet_of_same (HSU.out _ _ rfl))
      obtain ⟨w2, hw2⟩ : ∃ x, x = w1.drewN nq := ⟨_, rfl⟩
      have HF2 := Lib.hid (show FB w2 gf 67 2 (ftF 0 0) by rw [hw2]; exact HF.out.drewN nq)
      have HB2 := Lib.hid (show Below w.heap.size w w2 by rw [hw2]; exact below_drewN HB.out nq)
      rw [← hw2]
      clear hw2 HF HB
      have HF := HF2
      have HB := HB2
      clear HF2 HB2 HNU HSU
      go_wp2_with (refine wpList_store_all rfl 67 _ _ rfl gf 67 2 _ (ftF (q) (124)) rfl rfl HF.out sizeFt (ftF_one _ _) ?_; intro w9 h9 hT9 hs9)
      refine bodyPost_ret (result_tc rfl _ _ _ gf _ 2 _ _ rfl rfl h9 Try.underlying67 rfl sizeFt) rfl ?_
      refine ⟨HB.out.trans (hT9.below HGF.out HB.out.size), ?_⟩
      rw [HE.out]
      exact rfl
  · rw [if_pos hmk] at HRB
    have HE := Lib.hid (show r = some (0, 120) from HR.out.trans HRB.out)
    rw [decide_eq_false hmk] at HEQ
    have hcv := HCV.out
    have heq := HEQ.out
    generalize strOfNums (L.take 4) = S at *
    clear hmk HCV HEQ HRB hq hqn
    go_wp2_with (refine wpList_store_all rfl 67 _ _ rfl gf 67 2 _ (ftF (0) (120)) rfl rfl HF.out sizeFt (ftF_one _ _) ?_; intro w9 h9 hT9 hs9)
    refine bodyPost_ret (result_tc rfl _ _ _ gf _ 2 _ _ rfl rfl h9 Try.underlying67 rfl sizeFt) rfl ?_
    refine ⟨HB.out.trans (hT9.below HGF.out HB.out.size), ?_⟩
    rw [HE.out]
    exact rfl
end Go.Proofs.Ytkfcfoidaalnlaa.Pak
