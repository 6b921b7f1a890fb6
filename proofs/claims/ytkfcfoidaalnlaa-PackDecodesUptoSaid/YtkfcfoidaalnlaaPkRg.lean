/- Package pack: the document's own look at one section: its walk. Laid by wip/tools/mkpkrg.py. -/
import Derived.Test.YtkfcfoidaalnlaaPkRf
import Derived.Deep.DeepCutAuto
namespace Go.Proofs.Ytkfcfoidaalnlaa.Pak
open Go.ChangeShapes Go.WideShapes Go.ChangeAt Go.RowKit
set_option linter.unusedVariables false
set_option linter.unusedSimpArgs false
set_option maxRecDepth 100000
/-- what the document's fault leaves -/
def RFau (last : Int) (M : List Int) (p E : Nat) (w : World) : Ending → World → Prop := RetB w (.tuple #[.int .i64 ((faultR last (M.drop p) E).1 : Nat), .int .i64 (faultR last (M.drop p) E).2.1, .int .i64 ((faultR last (M.drop p) E).2.2 : Nat)])
theorem bytes_in {W : World} {b off i : Nat} {B : List Int} (h : BytesAt W (some ⟨b, off, none⟩) B) (hi : i < B.length) : W.cell? ⟨b, off + i, none⟩ = some (.int .u8 (B[i]?.getD 0)) := by
  obtain ⟨b', off', e, h4, h5⟩ := h (by omega)
  injection e with e; injection e with e1 e2
  subst e1 e2
  exact h5 i hi
theorem num3_lt {T : List Int} (h : Bytes T) : num (T.take 3) < 16777216 := by
  have h1 := num_lt _ (h.take 3)
  rcases Nat.lt_or_ge T.length 3 with h2 | h2
  · have : (T.take 3).length ≤ 2 := by rw [List.length_take]; omega
    rcases (show (T.take 3).length = 0 ∨ (T.take 3).length = 1 ∨ (T.take 3).length = 2 by omega) with h3 | h3 | h3 <;> rw [h3] at h1 <;> omega
  · rw [List.length_take, Nat.min_eq_left h2] at h1
    rw [p256_3] at h1; exact h1
theorem u8_64 {x : Int} (h : 0 ≤ x ∧ x < 256) : IntKind.i64.wrap x = x := IntWalk.i64_in _ (by omega)
set_option maxHeartbeats 8000000 in
theorem rfault0_any (w : World) (b off E c p : Nat) (last kd : Int) (M T : List Int) (hM : M.length = E) (hEc : E ≤ c) (hY : Bytes M) (hA : BytesAt w (some ⟨b, off, none⟩) M) (hE : E ≤ 131072) (hp : p < E) (hl : 0 ≤ last ∧ last ≤ 4) (hdr : M.drop p = kd :: T) (hkd : M[p]? = some kd) (hf : follows last kd = false) :
    Calls Try.prog 46 #[.slice (some ⟨b, off, none⟩) E c, .int .i64 p, .int .i64 last] w (RFau last M p E w) := by
  have HL := Lib.hid hM
  have HY := Lib.hid hY
  have HA := Lib.hid hA
  have HD := Lib.hid hdr
  have HTL := Lib.hid (show T.length + (p + 1) = E by have := congrArg List.length hdr; rw [List.length_drop, List.length_cons] at this; omega)
  have HTY := Lib.hid (show Bytes T from (by have := HY.out.drop p; rw [hdr] at this; exact this.tail))
  have HKB := Lib.hid (show 0 ≤ kd ∧ kd < 256 from by have := HY.out.drop p; rw [hdr] at this; exact this.head)
  have x0 : w.cell? ⟨b, off + p, none⟩ = some (.int .u8 kd) := by
    have := bytes_in HA.out (i := p) (by have := HL.out; omega)
    rw [hkd] at this; exact this
  clear hM hY hA hdr hkd
  have hp' : (p : Int) < E := by omega
  obtain ⟨hk0, hk1⟩ := HKB.out
  obtain ⟨hl0, hl1⟩ := hl
  have HF := Lib.hid (show (faultR last (M.drop p) E).1 = p ∧ (faultR last (M.drop p) E).2.1 = 120 ∧ (faultR last (M.drop p) E).2.2 = E by
    rw [HD.out, fr1 hf]; have := HTL.out; exact ⟨by show E - (T.length + 1) = p; omega, rfl, rfl⟩)
  have HFF := Lib.hid hf
  have hw := u8_64 HKB.out
  have hcase : (kd < 1 ∨ 4 < kd) ∨ (¬ (kd < 1 ∨ 4 < kd) ∧ kd ≤ last) ∨ (¬ (kd < 1 ∨ 4 < kd) ∧ ¬ kd ≤ last ∧ last = 0 ∧ kd ≠ 1) := by
    unfold follows at hf
    by_cases h0 : last = 0
    · rw [if_pos h0] at hf
      have := of_decide_eq_false hf
      omega
    · rw [if_neg h0] at hf
      by_cases h1 : kd < 1 ∨ 4 < kd
      · exact .inl h1
      · by_cases h2 : kd ≤ last
        · exact .inr (.inl ⟨h1, h2⟩)
        · exfalso
          rw [decide_eq_true (show last < kd by omega), decide_eq_true (show kd ≤ 4 by omega)] at hf
          exact absurd hf (by decide)
  have hcase2 : ((decide (kd < 1) = true) ∨ (decide (kd < 1) = false ∧ decide (4 < kd) = true)) ∨ (decide (kd < 1) = false ∧ decide (4 < kd) = false ∧ decide (kd ≤ last) = true) ∨ (decide (kd < 1) = false ∧ decide (4 < kd) = false ∧ decide (kd ≤ last) = false ∧ last = 0 ∧ (kd == 1) = false) := by
    simp only [decide_eq_true_eq, decide_eq_false_iff_not, beq_eq_false_iff_ne, ne_eq]
    omega
  clear hf hcase
  go_enter Try.func46, Try.ntmps46
  go_upto_region 3 with fail
  clear hk0 hk1
  rcases hcase2 with (t1 | ⟨t1, t2⟩) | ⟨t1, t2, t3⟩ | ⟨t1, t2, t3, rfl, t4⟩
  all_goals
    go_wp2_with fail
    refine bodyPost_ret (results_tmp3 rfl _ _ _) rfl ?_
    refine ⟨?_, Below.refl _ _⟩
    rw [HF.out.1, HF.out.2.1, HF.out.2.2]
    rfl

set_option maxHeartbeats 8000000 in
theorem rfault1_any (w : World) (b off E c p : Nat) (last kd : Int) (M T : List Int) (hM : M.length = E) (hEc : E ≤ c) (hY : Bytes M) (hA : BytesAt w (some ⟨b, off, none⟩) M) (hE : E ≤ 131072) (hp : p < E) (hl : 0 ≤ last ∧ last ≤ 4) (hdr : M.drop p = kd :: T) (hkd : M[p]? = some kd) (hkk : kd = 1) (hf : follows last kd = true) :
    Calls Try.prog 46 #[.slice (some ⟨b, off, none⟩) E c, .int .i64 p, .int .i64 last] w (RFau last M p E w) := by
  have HL := Lib.hid hM
  have HY := Lib.hid hY
  have HA := Lib.hid hA
  have HD := Lib.hid hdr
  have HTL := Lib.hid (show T.length + (p + 1) = E by have := congrArg List.length hdr; rw [List.length_drop, List.length_cons] at this; omega)
  have HTY := Lib.hid (show Bytes T from (by have := HY.out.drop p; rw [hdr] at this; exact this.tail))
  have HKB := Lib.hid (show 0 ≤ kd ∧ kd < 256 from by have := HY.out.drop p; rw [hdr] at this; exact this.head)
  have x0 : w.cell? ⟨b, off + p, none⟩ = some (.int .u8 kd) := by
    have := bytes_in HA.out (i := p) (by have := HL.out; omega)
    rw [hkd] at this; exact this
  clear hM hY hA hdr hkd
  have hp' : (p : Int) < E := by omega
  obtain ⟨hk0, hk1⟩ := HKB.out
  obtain ⟨hl0, hl1⟩ := hl
  subst hkk
  have HFF := Lib.hid hf
  obtain rfl : last = 0 := by
    unfold follows at hf
    by_cases h0 : last = 0
    · exact h0
    · rw [if_neg h0, Bool.and_eq_true] at hf
      have := of_decide_eq_true hf.1
      omega
  clear hf
  obtain ⟨zi, hzi⟩ : ∃ z, z = num (T.take 3) := ⟨_, rfl⟩
  obtain ⟨z, hz⟩ : ∃ z : Nat, zi = z := ⟨zi.toNat, by have := num_nn _ (HTY.out.take 3); omega⟩
  rw [hz] at hzi
  have HZ := Lib.hid hzi
  have hzl : z < 16777216 := (show z < 16777216 by have := num3_lt HTY.out; rw [← hzi] at this; omega)
  clear hz hzi zi
  go_enter Try.func46, Try.ntmps46
  by_cases h3 : T.length < 3
  · have t5 : (E : Int) - p < 4 := by have := HTL.out; omega
    have HF := Lib.hid (fr2 (e := E) HFF.out h3)
    go_wp2_with fail
    refine bodyPost_ret (results_tmp3 rfl _ _ _) rfl ?_
    refine ⟨?_, Below.refl _ _⟩
    rw [HD.out, HF.out]
    rfl
  have t5 : ¬ ((E : Int) - p < 4) := by have := HTL.out; omega
  have hpE : p + 4 ≤ E := by have := HTL.out; omega
  have e1 : ((p : Int) + 1).toNat = p + 1 := by omega
  have e4 : ((p : Int) + 4).toNat = p + 4 := by omega
  have b1 : (0 : Int) ≤ (p : Int) + 1 := by omega
  have b2 : (p : Int) + 1 ≤ (p : Int) + 4 := by omega
  have b3 : (p : Int) + 4 ≤ (c : Int) := by omega
  have HV := Lib.hid (fun c' => rvalue_any w (some ⟨b, off + (p + 1), none⟩) 3 c' (T.take 3) (by rw [List.length_take]; omega) (by decide) (HTY.out.take 3) (bytes_part (p := p + 1) (m := 3) (M := T.take 3) HA.out (by rw [← List.drop_drop, HD.out]; rfl) (by have := HL.out; omega)))
  rw [← HZ.out] at HV
  go_upto_region 8 with (go_at_call 45; refine (HV.out _).mono ?_; rintro e w2 ⟨rfl, rfl⟩)
  by_cases z0 : z = 0
  · subst z0
    have hun : uncounted 1 ((0 : Nat) : Int) = 120 := rfl
    have HF := Lib.hid (fr3 (e := E) HFF.out h3 (show uncounted 1 (num (T.take 3)) ≠ 0 by rw [← HZ.out, hun]; decide))
    go_wp2_with fail
    refine bodyPost_ret (results_tmp3 rfl _ _ _) rfl ?_
    refine ⟨?_, Below.refl _ _⟩
    rw [HD.out, HF.out, ← HZ.out, hun, show E - T.length = p + 1 by have := HTL.out; omega]
    rfl
  have q0 : ((z : Int) == 0) = false := by rw [beq_eq_false_iff_ne]; omega
  by_cases z4 : z = 4
  case neg =>
    have hun : uncounted 1 (z : Int) = 120 := by unfold uncounted; rw [if_pos (Or.inr (Or.inl ⟨rfl, by omega⟩))]
    have q1 : ((z : Int) == 4) = false := by rw [beq_eq_false_iff_ne]; omega
    have HF := Lib.hid (fr3 (e := E) HFF.out h3 (show uncounted 1 (num (T.take 3)) ≠ 0 by rw [← HZ.out, hun]; decide))
    go_wp2_with fail
    refine bodyPost_ret (results_tmp3 rfl _ _ _) rfl ?_
    refine ⟨?_, Below.refl _ _⟩
    rw [HD.out, HF.out, ← HZ.out, hun, show E - T.length = p + 1 by have := HTL.out; omega]
    rfl
  subst z4
  have hun : uncounted 1 ((4 : Nat) : Int) = 0 := rfl
  have HU := Lib.hid (show uncounted 1 (num (T.take 3)) = 0 by rw [← HZ.out]; exact hun)
  have HZN := Lib.hid (show (num (T.take 3)).toNat = 4 by rw [← HZ.out]; rfl)
  clear hun
  by_cases h4 : (T.drop 3).length < 4
  · have HF := Lib.hid (fr4 (e := E) HFF.out h3 HU.out (by rw [HZN.out]; exact h4))
    have q5 : decide ((E : Int) < (p : Int) + 4 + 4) = true := by rw [decide_eq_true_iff]; rw [List.length_drop] at h4; have := HTL.out; omega
    have q6 : (E : Int) < (p : Int) + 4 + 4 := of_decide_eq_true q5
    go_wp2_with fail
    refine bodyPost_ret (results_tmp3 rfl _ _ _) rfl ?_
    refine ⟨?_, Below.refl _ _⟩
    rw [HD.out, HF.out]
    rfl
  have hzE : p + 4 + 4 ≤ E := by rw [List.length_drop] at h4; have := HTL.out; omega
  have q5 : ¬ ((E : Int) < (p : Int) + 4 + 4) := by omega
  have e5 : ((p : Int) + 4 + 4).toNat = p + 4 + 4 := by omega
  have b4 : (0 : Int) ≤ (p : Int) + 4 := by omega
  have b5 : (p : Int) + 4 ≤ (p : Int) + 4 + 4 := by omega
  have b6 : (p : Int) + 4 + 4 ≤ (c : Int) := by omega
  have HC := Lib.hid (show BytesAt w (some ⟨b, off + (p + 4), none⟩) ((T.drop 3).take 4) from bytes_part (p := p + 4) (m := 4) HA.out (by rw [← List.drop_drop, show M.drop p = 1 :: T from HD.out]; rfl) (by have := HL.out; omega))
  have HCL := Lib.hid (show ((T.drop 3).take 4).length = 4 by rw [List.length_take]; omega)
  have HCY := Lib.hid ((HTY.out.drop 3).take 4)
  have HLFT := Lib.hid (show (T.drop 3).length + (p + 4) = E by rw [List.length_drop]; have := HTL.out; omega)
  have HGE := Lib.hid (show 4 ≤ (T.drop 3).length from Nat.le_of_not_lt h4)
  go_upto_region 17 with fail
  obtain ⟨cq, hcq⟩ : ∃ q, q = c - (p + 4) := ⟨_, rfl⟩
  rw [← hcq]
  have b7 : (2 : Int) ≤ (cq : Int) ∨ 4 = 0 ∨ 4 = 1 := by omega
  have b9 : 4 ≤ cq := by omega
  clear hcq
  obtain ⟨CC, hCC⟩ : ∃ C, C = (T.drop 3).take 4 := ⟨_, rfl⟩
  have HCC := Lib.hid hCC
  rw [← hCC] at HC HCL HCY
  clear hCC
  have HV1 := Lib.hid (fun W c' (h : BytesAt W (some ⟨b, off + (p + 4), none⟩) CC) => rvalue_any W (some ⟨b, off + (p + 4), none⟩) 2 c' (CC.take 2) (by rw [List.length_take]; have := HCL.out; omega) (by decide) (HCY.out.take 2) (by
    have := bytes_part (p := 0) (m := 2) (M := CC.take 2) h rfl (by have := HCL.out; omega)
    rwa [Nat.add_zero] at this))
  have HV2 := Lib.hid (fun W c' (h : BytesAt W (some ⟨b, off + (p + 4), none⟩) CC) => rvalue_any W (some ⟨b, off + (p + 4) + 2, none⟩) 2 c' (CC.drop 2) (by rw [List.length_drop]; have := HCL.out; omega) (by decide) (HCY.out.drop 2) (bytes_part (p := 2) (m := 2) (M := CC.drop 2) h (by rw [List.take_of_length_le]; rw [List.length_drop]; have := HCL.out; omega) (by have := HCL.out; omega)))
  obtain ⟨lo, hlo⟩ : ∃ z, z = num (CC.take 2) := ⟨_, rfl⟩
  obtain ⟨hi, hhi⟩ : ∃ z, z = num (CC.drop 2) := ⟨_, rfl⟩
  have HIT := Lib.hid (show into Pk.none 1 CC ((T.drop 3).length) = if hi < lo then .error ((T.drop 3).length, 121) else .ok { Pk.none with lo := lo, hi := hi } by unfold into; rw [if_pos rfl, ← hlo, ← hhi])
  rw [← hlo] at HV1
  rw [← hhi] at HV2
  clear hlo hhi
  by_cases hlt : hi < lo
  · have HIN := Lib.hid (show into Pk.none 1 ((T.drop 3).take 4) ((T.drop 3).length) = .error ((T.drop 3).length, 121) by rw [← HCC.out, HIT.out, if_pos hlt])
    have HF := Lib.hid (fr5 (e := E) HFF.out h3 HU.out HZN.out HGE.out HIN.out)
    have hlt2 : decide (hi < lo) = true := decide_eq_true hlt
    have b8 : (2 : Int) ≤ (cq : Int) := by omega
    have b8n : 2 ≤ cq := by omega
    have b8e : ¬ (cq = 2) := by omega
    have HQ1 := Lib.hid (fun a => Calls.quiet_of_same (w := w) (n := a) ((HV1.out (w.drewN a) cq (HC.out.below (below_drewN (Below.refl _ _) _))).mono fun _ _ h => ⟨h.1, h.2.symm⟩))
    have HQ2 := Lib.hid (fun a c' => Calls.quiet_of_same (w := w) (n := a) ((HV2.out (w.drewN a) c' (HC.out.below (below_drewN (Below.refl _ _) _))).mono fun _ _ h => ⟨h.1, h.2.symm⟩))
    clear b7
    go_quiet ((go_at_call 45; first | with_reducible exact HQ1.out _ | with_reducible exact HQ2.out _ _))
    go_wp2_with fail
    refine bodyPost_ret (results_tmp3 rfl _ _ _) rfl ?_
    refine ⟨?_, below_drewN (Below.refl _ _) _⟩
    rw [HD.out, HF.out, show E - (T.drop 3).length = p + 4 by have := HLFT.out; omega]
    rfl
  · have HIN := Lib.hid (show into Pk.none 1 ((T.drop 3).take 4) ((T.drop 3).length) = .ok { Pk.none with lo := lo, hi := hi } by rw [← HCC.out, HIT.out, if_neg hlt])
    have HF := Lib.hid (fr6 (e := E) HFF.out h3 HU.out HZN.out HGE.out HIN.out)
    have hlt2 : decide (hi < lo) = false := decide_eq_false hlt
    have b8 : (2 : Int) ≤ (cq : Int) := by omega
    have b8n : 2 ≤ cq := by omega
    have b8e : ¬ (cq = 2) := by omega
    have HQ1 := Lib.hid (fun a => Calls.quiet_of_same (w := w) (n := a) ((HV1.out (w.drewN a) cq (HC.out.below (below_drewN (Below.refl _ _) _))).mono fun _ _ h => ⟨h.1, h.2.symm⟩))
    have HQ2 := Lib.hid (fun a c' => Calls.quiet_of_same (w := w) (n := a) ((HV2.out (w.drewN a) c' (HC.out.below (below_drewN (Below.refl _ _) _))).mono fun _ _ h => ⟨h.1, h.2.symm⟩))
    clear b7
    go_quiet ((go_at_call 45; first | with_reducible exact HQ1.out _ | with_reducible exact HQ2.out _ _))
    obtain ⟨W, hW⟩ : ∃ u, u = w.drewN nq := ⟨_, rfl⟩
    have HW := Lib.hid (show Below w.heap.size w W by rw [hW]; exact below_drewN (Below.refl _ _) _)
    rw [← hW]
    clear hW
    go_wp2_with fail
    go_loopw [13, 14] (fun a13 _ wr => a13 = .int .i64 0 ∧ W = wr) (fun _ _ _ => 0)
    case atStart => exact ⟨rfl, rfl⟩
    case round =>
      obtain ⟨rfl, rfl⟩ := hrel
      go_wp2_with fail
      refine bodyPost_ret (results_tmp3 rfl _ _ _) rfl ?_
      refine ⟨?_, HW.out⟩
      rw [HD.out, HF.out, show E - ((T.drop 3).length - 4) = p + 4 + 4 by have := HLFT.out; have := HGE.out; omega]
      rfl

set_option maxHeartbeats 8000000 in
theorem rfault2_any (w : World) (b off E c p : Nat) (last kd : Int) (M T : List Int) (hM : M.length = E) (hEc : E ≤ c) (hY : Bytes M) (hA : BytesAt w (some ⟨b, off, none⟩) M) (hE : E ≤ 131072) (hp : p < E) (hl : 0 ≤ last ∧ last ≤ 4) (hdr : M.drop p = kd :: T) (hkd : M[p]? = some kd) (hkk : kd = 2) (hf : follows last kd = true) :
    Calls Try.prog 46 #[.slice (some ⟨b, off, none⟩) E c, .int .i64 p, .int .i64 last] w (RFau last M p E w) := by
  have HL := Lib.hid hM
  have HY := Lib.hid hY
  have HA := Lib.hid hA
  have HD := Lib.hid hdr
  have HTL := Lib.hid (show T.length + (p + 1) = E by have := congrArg List.length hdr; rw [List.length_drop, List.length_cons] at this; omega)
  have HTY := Lib.hid (show Bytes T from (by have := HY.out.drop p; rw [hdr] at this; exact this.tail))
  have HKB := Lib.hid (show 0 ≤ kd ∧ kd < 256 from by have := HY.out.drop p; rw [hdr] at this; exact this.head)
  have x0 : w.cell? ⟨b, off + p, none⟩ = some (.int .u8 kd) := by
    have := bytes_in HA.out (i := p) (by have := HL.out; omega)
    rw [hkd] at this; exact this
  clear hM hY hA hdr hkd
  have hp' : (p : Int) < E := by omega
  obtain ⟨hk0, hk1⟩ := HKB.out
  obtain ⟨hl0, hl1⟩ := hl
  subst hkk
  have HFF := Lib.hid hf
  have hlast : 1 ≤ last ∧ last < 2 := by
    unfold follows at hf
    by_cases h0 : last = 0
    · rw [if_pos h0] at hf; exact absurd hf (by decide)
    · rw [if_neg h0, Bool.and_eq_true] at hf
      have := of_decide_eq_true hf.1
      omega
  have t3 : decide ((2 : Int) ≤ last) = false := decide_eq_false (by omega)
  have t4 : (last == 0) = false := by rw [beq_eq_false_iff_ne]; omega
  clear hf
  obtain ⟨zi, hzi⟩ : ∃ z, z = num (T.take 3) := ⟨_, rfl⟩
  obtain ⟨z, hz⟩ : ∃ z : Nat, zi = z := ⟨zi.toNat, by have := num_nn _ (HTY.out.take 3); omega⟩
  rw [hz] at hzi
  have HZ := Lib.hid hzi
  have hzl : z < 16777216 := (show z < 16777216 by have := num3_lt HTY.out; rw [← hzi] at this; omega)
  clear hz hzi zi
  go_enter Try.func46, Try.ntmps46
  by_cases h3 : T.length < 3
  · have t5 : (E : Int) - p < 4 := by have := HTL.out; omega
    have HF := Lib.hid (fr2 (e := E) HFF.out h3)
    go_wp2_with fail
    refine bodyPost_ret (results_tmp3 rfl _ _ _) rfl ?_
    refine ⟨?_, Below.refl _ _⟩
    rw [HD.out, HF.out]
    rfl
  have t5 : ¬ ((E : Int) - p < 4) := by have := HTL.out; omega
  have hpE : p + 4 ≤ E := by have := HTL.out; omega
  have e1 : ((p : Int) + 1).toNat = p + 1 := by omega
  have e4 : ((p : Int) + 4).toNat = p + 4 := by omega
  have b1 : (0 : Int) ≤ (p : Int) + 1 := by omega
  have b2 : (p : Int) + 1 ≤ (p : Int) + 4 := by omega
  have b3 : (p : Int) + 4 ≤ (c : Int) := by omega
  have HV := Lib.hid (fun c' => rvalue_any w (some ⟨b, off + (p + 1), none⟩) 3 c' (T.take 3) (by rw [List.length_take]; omega) (by decide) (HTY.out.take 3) (bytes_part (p := p + 1) (m := 3) (M := T.take 3) HA.out (by rw [← List.drop_drop, HD.out]; rfl) (by have := HL.out; omega)))
  rw [← HZ.out] at HV
  go_upto_region 8 with (go_at_call 45; refine (HV.out _).mono ?_; rintro e w2 ⟨rfl, rfl⟩)
  by_cases z0 : z = 0
  · subst z0
    have hun : uncounted 2 ((0 : Nat) : Int) = 120 := rfl
    have HF := Lib.hid (fr3 (e := E) HFF.out h3 (show uncounted 2 (num (T.take 3)) ≠ 0 by rw [← HZ.out, hun]; decide))
    go_wp2_with fail
    refine bodyPost_ret (results_tmp3 rfl _ _ _) rfl ?_
    refine ⟨?_, Below.refl _ _⟩
    rw [HD.out, HF.out, ← HZ.out, hun, show E - T.length = p + 1 by have := HTL.out; omega]
    rfl
  have q0 : ((z : Int) == 0) = false := by rw [beq_eq_false_iff_ne]; omega
  by_cases zo : z % 2 = 0
  case neg =>
    have hun : uncounted 2 (z : Int) = 120 := by unfold uncounted; rw [if_pos (Or.inr (Or.inr ⟨rfl, by omega⟩))]
    have q1 : ((z : Int) % 2 != 0) = true := by rw [bne_iff_ne]; omega
    have HF := Lib.hid (fr3 (e := E) HFF.out h3 (show uncounted 2 (num (T.take 3)) ≠ 0 by rw [← HZ.out, hun]; decide))
    go_wp2_with fail
    refine bodyPost_ret (results_tmp3 rfl _ _ _) rfl ?_
    refine ⟨?_, Below.refl _ _⟩
    rw [HD.out, HF.out, ← HZ.out, hun, show E - T.length = p + 1 by have := HTL.out; omega]
    rfl
  have q1 : ((z : Int) % 2 != 0) = false := by rw [bne_eq_false_iff_eq]; omega
  have qw : wrap64 ((z : Int) / 2) = (z : Int) / 2 := w64_in _ (by omega)
  by_cases z16 : 16 < z
  · have hun : uncounted 2 (z : Int) = 122 := by unfold uncounted; rw [if_neg (by omega), if_pos ⟨rfl, by omega⟩]
    have q2 : (8 : Int) < (z : Int) / 2 := by omega
    have HF := Lib.hid (fr3 (e := E) HFF.out h3 (show uncounted 2 (num (T.take 3)) ≠ 0 by rw [← HZ.out, hun]; decide))
    go_wp2_with fail
    refine bodyPost_ret (results_tmp3 rfl _ _ _) rfl ?_
    refine ⟨?_, Below.refl _ _⟩
    rw [HD.out, HF.out, ← HZ.out, hun, show E - T.length = p + 1 by have := HTL.out; omega]
    rfl
  have q2 : ¬ ((8 : Int) < (z : Int) / 2) := by omega
  have hun : uncounted 2 (z : Int) = 0 := by unfold uncounted; rw [if_neg (by omega), if_neg (by omega), if_neg (by omega)]
  have HU := Lib.hid (show uncounted 2 (num (T.take 3)) = 0 by rw [← HZ.out]; exact hun)
  have HZN := Lib.hid (show (num (T.take 3)).toNat = z by rw [← HZ.out]; rfl)
  clear hun
  by_cases h4 : (T.drop 3).length < z
  · have HF := Lib.hid (fr4 (e := E) HFF.out h3 HU.out (by rw [HZN.out]; exact h4))
    have q5 : decide ((E : Int) < (p : Int) + 4 + (z : Int)) = true := by rw [decide_eq_true_iff]; rw [List.length_drop] at h4; have := HTL.out; omega
    have q6 : (E : Int) < (p : Int) + 4 + (z : Int) := of_decide_eq_true q5
    go_wp2_with fail
    refine bodyPost_ret (results_tmp3 rfl _ _ _) rfl ?_
    refine ⟨?_, Below.refl _ _⟩
    rw [HD.out, HF.out]
    rfl
  have hzE : p + 4 + z ≤ E := by rw [List.length_drop] at h4; have := HTL.out; omega
  have q5 : ¬ ((E : Int) < (p : Int) + 4 + (z : Int)) := by omega
  have e5 : ((p : Int) + 4 + (z : Int)).toNat = p + 4 + z := by omega
  have b4 : (0 : Int) ≤ (p : Int) + 4 := by omega
  have b5 : (p : Int) + 4 ≤ (p : Int) + 4 + (z : Int) := by omega
  have b6 : (p : Int) + 4 + (z : Int) ≤ (c : Int) := by omega
  have HC := Lib.hid (show BytesAt w (some ⟨b, off + (p + 4), none⟩) ((T.drop 3).take z) from bytes_part (p := p + 4) (m := z) HA.out (by rw [← List.drop_drop, show M.drop p = 2 :: T from HD.out]; rfl) (by have := HL.out; omega))
  have HCL := Lib.hid (show ((T.drop 3).take z).length = z by rw [List.length_take]; omega)
  have HCY := Lib.hid ((HTY.out.drop 3).take z)
  have HLFT := Lib.hid (show (T.drop 3).length + (p + 4) = E by rw [List.length_drop]; have := HTL.out; omega)
  have HGE := Lib.hid (show z ≤ (T.drop 3).length from Nat.le_of_not_lt h4)
  go_upto_region 17 with fail
  obtain ⟨cq, hcq⟩ : ∃ q, q = c - (p + 4) := ⟨_, rfl⟩
  rw [← hcq]
  have b7 : (2 : Int) ≤ (cq : Int) ∨ z = 0 ∨ z = 1 := by omega
  have b9 : z ≤ cq := by omega
  clear hcq
  obtain ⟨CC, hCC⟩ : ∃ C, C = (T.drop 3).take z := ⟨_, rfl⟩
  have HCC := Lib.hid hCC
  rw [← hCC] at HC HCL HCY
  clear hCC b7
  have HZE := Lib.hid (show z % 2 = 0 from zo)
  go_quiet (fail)
  obtain ⟨W, hW⟩ : ∃ u, u = w.drewN nq := ⟨_, rfl⟩
  have HW := Lib.hid (show Below w.heap.size w W by rw [hW]; exact below_drewN (Below.refl _ _) _)
  rw [← hW]
  clear hW
  have HCW := Lib.hid (HC.out.below HW.out)
  go_wp2_with fail
  go_loopw [13, 14] (fun a13 _ wr => ∃ j : Nat, a13 = .int .i64 j ∧ j ≤ z ∧ Hid (∀ i, i < j → okb (CC[i]?.getD 0) = true) ∧ W = wr) (fun a13 _ _ => (z - intOf a13).toNat)
  case atStart => exact ⟨0, rfl, Nat.zero_le _, Lib.hid (fun i hi => by omega), rfl⟩
  case round =>
    obtain ⟨j, rfl, hj, HJ, rfl⟩ := hrel
    by_cases hlt : j < z
    · have hlt' : (j : Int) < z := by omega
      have hjl : j < CC.length := by have := HCL.out; omega
      have x1 := bytes_in HCW.out hjl
      obtain ⟨x, hx⟩ : ∃ x, x = CC[j]?.getD 0 := ⟨_, rfl⟩
      rw [← hx] at x1
      have HX := Lib.hid hx
      have HXB := Lib.hid (show 0 ≤ x ∧ x < 256 by rw [hx, List.getElem?_eq_getElem hjl]; exact HCY.out _ (List.getElem_mem hjl))
      clear hx hjl
      obtain ⟨x2, x3⟩ := HXB.out
      have hxw := u8_64 HXB.out
      cases ho : okb x with
      | true =>
        have HO := Lib.hid ho
        have ho1 : (1 ≤ x) ∧ (x ≤ 64) := by unfold okb at ho; rw [Bool.and_eq_true] at ho; exact ⟨of_decide_eq_true ho.1, of_decide_eq_true ho.2⟩
        obtain ⟨y1, y2⟩ := ho1
        have y3 : ¬ (x < 1) := by omega
        have y4 : ¬ (64 < x) := by omega
        clear ho
        have HJ2 := Lib.hid (show ∀ i, i < j + 1 → okb (CC[i]?.getD 0) = true from fun i hi => by
          rcases (show i < j ∨ i = j by omega) with h1 | h1
          · exact HJ.out i h1
          · rw [h1, ← HX.out]; exact HO.out)
        by_cases hod : j % 2 = 1
        · have m1 : ((j : Int) % 2 == 1) = true := by rw [beq_iff_eq]; omega
          go_wp2_with fail
          go_roundw
          case rel => exact ⟨j + 1, by go_num, by omega, HJ2, trivial⟩
          case measure => simp [intOf]; omega
        · have m1 : ((j : Int) % 2 == 1) = false := by rw [beq_eq_false_iff_ne]; omega
          go_wp2_with fail
          go_roundw
          case rel => exact ⟨j + 1, by go_num, by omega, HJ2, trivial⟩
          case measure => simp [intOf]; omega
      | false =>
        have HB := Lib.hid (show okb (CC[j]?.getD 0) = false by rw [← HX.out]; exact ho)
        have ho1 : x < 1 ∨ (¬ x < 1 ∧ 64 < x) := by
          unfold okb at ho
          by_cases h1 : x < 1
          · exact .inl h1
          · refine .inr ⟨h1, Int.not_le.1 fun h2 => ?_⟩
            rw [decide_eq_true (show 1 ≤ x by omega), decide_eq_true h2] at ho
            exact absurd ho (by decide)
        clear ho
        have HIN := Lib.hid (show into Pk.none 2 ((T.drop 3).take z) ((T.drop 3).length) = .error ((T.drop 3).length - j, 122) by
          unfold into
          rw [if_neg (by decide), if_pos rfl, ← HCC.out, tabs_bad CC [] _ j (by have := HCL.out; have := HZE.out; omega) (by have := HCL.out; omega) HJ.out HB.out])
        have HF := Lib.hid (fr5 (e := E) HFF.out h3 HU.out HZN.out HGE.out HIN.out)
        rcases ho1 with y3 | ⟨y3, y4⟩ <;> by_cases hod : j % 2 = 1
        all_goals
          first
            | have m1 : ((j : Int) % 2 == 1) = true := by rw [beq_iff_eq]; omega
            | have m1 : ((j : Int) % 2 == 1) = false := by rw [beq_eq_false_iff_ne]; omega
        all_goals
          go_wp2_with fail
          refine bodyPost_ret (results_tmp3 rfl _ _ _) rfl ?_
          refine ⟨?_, HW.out⟩
          rw [HD.out, HF.out, show E - ((T.drop 3).length - j) = p + 4 + j by have := HLFT.out; have := HGE.out; omega]
          rfl
    · obtain rfl : j = z := by omega
      obtain ⟨t, htt⟩ := tabs_good CC [] ((T.drop 3).length) (fun i hi => HJ.out i (by have := HCL.out; omega))
      have HIN := Lib.hid (show into Pk.none 2 ((T.drop 3).take j) ((T.drop 3).length) = .ok { Pk.none with tabs := t } by
        unfold into
        rw [if_neg (by decide), if_pos rfl, ← HCC.out, htt])
      have HF := Lib.hid (fr6 (e := E) HFF.out h3 HU.out HZN.out HGE.out HIN.out)
      clear htt
      go_wp2_with fail
      refine bodyPost_ret (results_tmp3 rfl _ _ _) rfl ?_
      refine ⟨?_, HW.out⟩
      rw [HD.out, HF.out, show E - ((T.drop 3).length - j) = p + 4 + j by have := HLFT.out; have := HGE.out; omega]
      rfl

set_option maxHeartbeats 8000000 in
theorem rfault3_any (w : World) (b off E c p : Nat) (last kd : Int) (M T : List Int) (hM : M.length = E) (hEc : E ≤ c) (hY : Bytes M) (hA : BytesAt w (some ⟨b, off, none⟩) M) (hE : E ≤ 131072) (hp : p < E) (hl : 0 ≤ last ∧ last ≤ 4) (hdr : M.drop p = kd :: T) (hkd : M[p]? = some kd) (hkk : kd = 3) (hf : follows last kd = true) :
    Calls Try.prog 46 #[.slice (some ⟨b, off, none⟩) E c, .int .i64 p, .int .i64 last] w (RFau last M p E w) := by
  have HL := Lib.hid hM
  have HY := Lib.hid hY
  have HA := Lib.hid hA
  have HD := Lib.hid hdr
  have HTL := Lib.hid (show T.length + (p + 1) = E by have := congrArg List.length hdr; rw [List.length_drop, List.length_cons] at this; omega)
  have HTY := Lib.hid (show Bytes T from (by have := HY.out.drop p; rw [hdr] at this; exact this.tail))
  have HKB := Lib.hid (show 0 ≤ kd ∧ kd < 256 from by have := HY.out.drop p; rw [hdr] at this; exact this.head)
  have x0 : w.cell? ⟨b, off + p, none⟩ = some (.int .u8 kd) := by
    have := bytes_in HA.out (i := p) (by have := HL.out; omega)
    rw [hkd] at this; exact this
  clear hM hY hA hdr hkd
  have hp' : (p : Int) < E := by omega
  obtain ⟨hk0, hk1⟩ := HKB.out
  obtain ⟨hl0, hl1⟩ := hl
  subst hkk
  have HFF := Lib.hid hf
  have hlast : 1 ≤ last ∧ last < 3 := by
    unfold follows at hf
    by_cases h0 : last = 0
    · rw [if_pos h0] at hf; exact absurd hf (by decide)
    · rw [if_neg h0, Bool.and_eq_true] at hf
      have := of_decide_eq_true hf.1
      omega
  have t3 : decide ((3 : Int) ≤ last) = false := decide_eq_false (by omega)
  have t4 : (last == 0) = false := by rw [beq_eq_false_iff_ne]; omega
  clear hf
  obtain ⟨zi, hzi⟩ : ∃ z, z = num (T.take 3) := ⟨_, rfl⟩
  obtain ⟨z, hz⟩ : ∃ z : Nat, zi = z := ⟨zi.toNat, by have := num_nn _ (HTY.out.take 3); omega⟩
  rw [hz] at hzi
  have HZ := Lib.hid hzi
  have hzl : z < 16777216 := (show z < 16777216 by have := num3_lt HTY.out; rw [← hzi] at this; omega)
  clear hz hzi zi
  go_enter Try.func46, Try.ntmps46
  by_cases h3 : T.length < 3
  · have t5 : (E : Int) - p < 4 := by have := HTL.out; omega
    have HF := Lib.hid (fr2 (e := E) HFF.out h3)
    go_wp2_with fail
    refine bodyPost_ret (results_tmp3 rfl _ _ _) rfl ?_
    refine ⟨?_, Below.refl _ _⟩
    rw [HD.out, HF.out]
    rfl
  have t5 : ¬ ((E : Int) - p < 4) := by have := HTL.out; omega
  have hpE : p + 4 ≤ E := by have := HTL.out; omega
  have e1 : ((p : Int) + 1).toNat = p + 1 := by omega
  have e4 : ((p : Int) + 4).toNat = p + 4 := by omega
  have b1 : (0 : Int) ≤ (p : Int) + 1 := by omega
  have b2 : (p : Int) + 1 ≤ (p : Int) + 4 := by omega
  have b3 : (p : Int) + 4 ≤ (c : Int) := by omega
  have HV := Lib.hid (fun c' => rvalue_any w (some ⟨b, off + (p + 1), none⟩) 3 c' (T.take 3) (by rw [List.length_take]; omega) (by decide) (HTY.out.take 3) (bytes_part (p := p + 1) (m := 3) (M := T.take 3) HA.out (by rw [← List.drop_drop, HD.out]; rfl) (by have := HL.out; omega)))
  rw [← HZ.out] at HV
  go_upto_region 8 with (go_at_call 45; refine (HV.out _).mono ?_; rintro e w2 ⟨rfl, rfl⟩)
  by_cases z0 : z = 0
  · subst z0
    have hun : uncounted 3 ((0 : Nat) : Int) = 120 := rfl
    have HF := Lib.hid (fr3 (e := E) HFF.out h3 (show uncounted 3 (num (T.take 3)) ≠ 0 by rw [← HZ.out, hun]; decide))
    go_wp2_with fail
    refine bodyPost_ret (results_tmp3 rfl _ _ _) rfl ?_
    refine ⟨?_, Below.refl _ _⟩
    rw [HD.out, HF.out, ← HZ.out, hun, show E - T.length = p + 1 by have := HTL.out; omega]
    rfl
  have q0 : ((z : Int) == 0) = false := by rw [beq_eq_false_iff_ne]; omega
  by_cases z4 : 4096 < z
  · have hun : uncounted 3 (z : Int) = 123 := by unfold uncounted; rw [if_neg (by omega), if_neg (by omega), if_pos ⟨rfl, by omega⟩]
    have q2 : decide ((4096 : Int) < (z : Int)) = true := by rw [decide_eq_true_iff]; omega
    have HF := Lib.hid (fr3 (e := E) HFF.out h3 (show uncounted 3 (num (T.take 3)) ≠ 0 by rw [← HZ.out, hun]; decide))
    go_wp2_with fail
    refine bodyPost_ret (results_tmp3 rfl _ _ _) rfl ?_
    refine ⟨?_, Below.refl _ _⟩
    rw [HD.out, HF.out, ← HZ.out, hun, show E - T.length = p + 1 by have := HTL.out; omega]
    rfl
  have q2 : decide ((4096 : Int) < (z : Int)) = false := by rw [decide_eq_false_iff_not]; omega
  have hun : uncounted 3 (z : Int) = 0 := by unfold uncounted; rw [if_neg (by omega), if_neg (by omega), if_neg (by omega)]
  have HU := Lib.hid (show uncounted 3 (num (T.take 3)) = 0 by rw [← HZ.out]; exact hun)
  have HZN := Lib.hid (show (num (T.take 3)).toNat = z by rw [← HZ.out]; rfl)
  clear hun
  by_cases h4 : (T.drop 3).length < z
  · have HF := Lib.hid (fr4 (e := E) HFF.out h3 HU.out (by rw [HZN.out]; exact h4))
    have q5 : decide ((E : Int) < (p : Int) + 4 + (z : Int)) = true := by rw [decide_eq_true_iff]; rw [List.length_drop] at h4; have := HTL.out; omega
    have q6 : (E : Int) < (p : Int) + 4 + (z : Int) := of_decide_eq_true q5
    go_wp2_with fail
    refine bodyPost_ret (results_tmp3 rfl _ _ _) rfl ?_
    refine ⟨?_, Below.refl _ _⟩
    rw [HD.out, HF.out]
    rfl
  have hzE : p + 4 + z ≤ E := by rw [List.length_drop] at h4; have := HTL.out; omega
  have q5 : ¬ ((E : Int) < (p : Int) + 4 + (z : Int)) := by omega
  have e5 : ((p : Int) + 4 + (z : Int)).toNat = p + 4 + z := by omega
  have b4 : (0 : Int) ≤ (p : Int) + 4 := by omega
  have b5 : (p : Int) + 4 ≤ (p : Int) + 4 + (z : Int) := by omega
  have b6 : (p : Int) + 4 + (z : Int) ≤ (c : Int) := by omega
  have HC := Lib.hid (show BytesAt w (some ⟨b, off + (p + 4), none⟩) ((T.drop 3).take z) from bytes_part (p := p + 4) (m := z) HA.out (by rw [← List.drop_drop, show M.drop p = 3 :: T from HD.out]; rfl) (by have := HL.out; omega))
  have HCL := Lib.hid (show ((T.drop 3).take z).length = z by rw [List.length_take]; omega)
  have HCY := Lib.hid ((HTY.out.drop 3).take z)
  have HLFT := Lib.hid (show (T.drop 3).length + (p + 4) = E by rw [List.length_drop]; have := HTL.out; omega)
  have HGE := Lib.hid (show z ≤ (T.drop 3).length from Nat.le_of_not_lt h4)
  go_upto_region 17 with fail
  obtain ⟨cq, hcq⟩ : ∃ q, q = c - (p + 4) := ⟨_, rfl⟩
  rw [← hcq]
  have b7 : (2 : Int) ≤ (cq : Int) ∨ z = 0 ∨ z = 1 := by omega
  have b9 : z ≤ cq := by omega
  clear hcq
  have HIN := Lib.hid (show into Pk.none 3 ((T.drop 3).take z) ((T.drop 3).length) = .ok { Pk.none with data := (T.drop 3).take z } from rfl)
  have HF := Lib.hid (fr6 (e := E) HFF.out h3 HU.out HZN.out HGE.out HIN.out)
  clear b7
  have hz0 : (0 : Int) < z := by omega
  go_quiet (fail)
  obtain ⟨W, hW⟩ : ∃ u, u = w.drewN nq := ⟨_, rfl⟩
  have HW := Lib.hid (show Below w.heap.size w W by rw [hW]; exact below_drewN (Below.refl _ _) _)
  rw [← hW]
  clear hW
  go_wp2_with fail
  go_loopw [13, 14] (fun a13 _ wr => a13 = .int .i64 0 ∧ W = wr) (fun _ _ _ => 0)
  case atStart => exact ⟨rfl, rfl⟩
  case round =>
    obtain ⟨rfl, rfl⟩ := hrel
    go_wp2_with fail
    refine bodyPost_ret (results_tmp3 rfl _ _ _) rfl ?_
    refine ⟨?_, HW.out⟩
    rw [HD.out, HF.out, show E - ((T.drop 3).length - z) = p + 4 + z by have := HLFT.out; have := HGE.out; omega]
    rfl

set_option maxHeartbeats 8000000 in
theorem rfault4_any (w : World) (b off E c p : Nat) (last kd : Int) (M T : List Int) (hM : M.length = E) (hEc : E ≤ c) (hY : Bytes M) (hA : BytesAt w (some ⟨b, off, none⟩) M) (hE : E ≤ 131072) (hp : p < E) (hl : 0 ≤ last ∧ last ≤ 4) (hdr : M.drop p = kd :: T) (hkd : M[p]? = some kd) (hkk : kd = 4) (hf : follows last kd = true) :
    Calls Try.prog 46 #[.slice (some ⟨b, off, none⟩) E c, .int .i64 p, .int .i64 last] w (RFau last M p E w) := by
  have HL := Lib.hid hM
  have HY := Lib.hid hY
  have HA := Lib.hid hA
  have HD := Lib.hid hdr
  have HTL := Lib.hid (show T.length + (p + 1) = E by have := congrArg List.length hdr; rw [List.length_drop, List.length_cons] at this; omega)
  have HTY := Lib.hid (show Bytes T from (by have := HY.out.drop p; rw [hdr] at this; exact this.tail))
  have HKB := Lib.hid (show 0 ≤ kd ∧ kd < 256 from by have := HY.out.drop p; rw [hdr] at this; exact this.head)
  have x0 : w.cell? ⟨b, off + p, none⟩ = some (.int .u8 kd) := by
    have := bytes_in HA.out (i := p) (by have := HL.out; omega)
    rw [hkd] at this; exact this
  clear hM hY hA hdr hkd
  have hp' : (p : Int) < E := by omega
  obtain ⟨hk0, hk1⟩ := HKB.out
  obtain ⟨hl0, hl1⟩ := hl
  subst hkk
  have HFF := Lib.hid hf
  have hlast : 1 ≤ last ∧ last < 4 := by
    unfold follows at hf
    by_cases h0 : last = 0
    · rw [if_pos h0] at hf; exact absurd hf (by decide)
    · rw [if_neg h0, Bool.and_eq_true] at hf
      have := of_decide_eq_true hf.1
      omega
  have t3 : decide ((4 : Int) ≤ last) = false := decide_eq_false (by omega)
  have t4 : (last == 0) = false := by rw [beq_eq_false_iff_ne]; omega
  clear hf
  obtain ⟨zi, hzi⟩ : ∃ z, z = num (T.take 3) := ⟨_, rfl⟩
  obtain ⟨z, hz⟩ : ∃ z : Nat, zi = z := ⟨zi.toNat, by have := num_nn _ (HTY.out.take 3); omega⟩
  rw [hz] at hzi
  have HZ := Lib.hid hzi
  have hzl : z < 16777216 := (show z < 16777216 by have := num3_lt HTY.out; rw [← hzi] at this; omega)
  clear hz hzi zi
  go_enter Try.func46, Try.ntmps46
  by_cases h3 : T.length < 3
  · have t5 : (E : Int) - p < 4 := by have := HTL.out; omega
    have HF := Lib.hid (fr2 (e := E) HFF.out h3)
    go_wp2_with fail
    refine bodyPost_ret (results_tmp3 rfl _ _ _) rfl ?_
    refine ⟨?_, Below.refl _ _⟩
    rw [HD.out, HF.out]
    rfl
  have t5 : ¬ ((E : Int) - p < 4) := by have := HTL.out; omega
  have hpE : p + 4 ≤ E := by have := HTL.out; omega
  have e1 : ((p : Int) + 1).toNat = p + 1 := by omega
  have e4 : ((p : Int) + 4).toNat = p + 4 := by omega
  have b1 : (0 : Int) ≤ (p : Int) + 1 := by omega
  have b2 : (p : Int) + 1 ≤ (p : Int) + 4 := by omega
  have b3 : (p : Int) + 4 ≤ (c : Int) := by omega
  have HV := Lib.hid (fun c' => rvalue_any w (some ⟨b, off + (p + 1), none⟩) 3 c' (T.take 3) (by rw [List.length_take]; omega) (by decide) (HTY.out.take 3) (bytes_part (p := p + 1) (m := 3) (M := T.take 3) HA.out (by rw [← List.drop_drop, HD.out]; rfl) (by have := HL.out; omega)))
  rw [← HZ.out] at HV
  go_upto_region 8 with (go_at_call 45; refine (HV.out _).mono ?_; rintro e w2 ⟨rfl, rfl⟩)
  by_cases z0 : z = 0
  · subst z0
    have hun : uncounted 4 ((0 : Nat) : Int) = 120 := rfl
    have HF := Lib.hid (fr3 (e := E) HFF.out h3 (show uncounted 4 (num (T.take 3)) ≠ 0 by rw [← HZ.out, hun]; decide))
    go_wp2_with fail
    refine bodyPost_ret (results_tmp3 rfl _ _ _) rfl ?_
    refine ⟨?_, Below.refl _ _⟩
    rw [HD.out, HF.out, ← HZ.out, hun, show E - T.length = p + 1 by have := HTL.out; omega]
    rfl
  have q0 : ((z : Int) == 0) = false := by rw [beq_eq_false_iff_ne]; omega
  have hun : uncounted 4 (z : Int) = 0 := by unfold uncounted; rw [if_neg (by omega), if_neg (by omega), if_neg (by omega)]
  have HU := Lib.hid (show uncounted 4 (num (T.take 3)) = 0 by rw [← HZ.out]; exact hun)
  have HZN := Lib.hid (show (num (T.take 3)).toNat = z by rw [← HZ.out]; rfl)
  clear hun
  by_cases h4 : (T.drop 3).length < z
  · have HF := Lib.hid (fr4 (e := E) HFF.out h3 HU.out (by rw [HZN.out]; exact h4))
    have q5 : decide ((E : Int) < (p : Int) + 4 + (z : Int)) = true := by rw [decide_eq_true_iff]; rw [List.length_drop] at h4; have := HTL.out; omega
    have q6 : (E : Int) < (p : Int) + 4 + (z : Int) := of_decide_eq_true q5
    go_wp2_with fail
    refine bodyPost_ret (results_tmp3 rfl _ _ _) rfl ?_
    refine ⟨?_, Below.refl _ _⟩
    rw [HD.out, HF.out]
    rfl
  have hzE : p + 4 + z ≤ E := by rw [List.length_drop] at h4; have := HTL.out; omega
  have q5 : ¬ ((E : Int) < (p : Int) + 4 + (z : Int)) := by omega
  have e5 : ((p : Int) + 4 + (z : Int)).toNat = p + 4 + z := by omega
  have b4 : (0 : Int) ≤ (p : Int) + 4 := by omega
  have b5 : (p : Int) + 4 ≤ (p : Int) + 4 + (z : Int) := by omega
  have b6 : (p : Int) + 4 + (z : Int) ≤ (c : Int) := by omega
  have HC := Lib.hid (show BytesAt w (some ⟨b, off + (p + 4), none⟩) ((T.drop 3).take z) from bytes_part (p := p + 4) (m := z) HA.out (by rw [← List.drop_drop, show M.drop p = 4 :: T from HD.out]; rfl) (by have := HL.out; omega))
  have HCL := Lib.hid (show ((T.drop 3).take z).length = z by rw [List.length_take]; omega)
  have HCY := Lib.hid ((HTY.out.drop 3).take z)
  have HLFT := Lib.hid (show (T.drop 3).length + (p + 4) = E by rw [List.length_drop]; have := HTL.out; omega)
  have HGE := Lib.hid (show z ≤ (T.drop 3).length from Nat.le_of_not_lt h4)
  go_upto_region 17 with fail
  obtain ⟨cq, hcq⟩ : ∃ q, q = c - (p + 4) := ⟨_, rfl⟩
  rw [← hcq]
  have b7 : (2 : Int) ≤ (cq : Int) ∨ z = 0 ∨ z = 1 := by omega
  have b9 : z ≤ cq := by omega
  clear hcq
  have HIN := Lib.hid (show into Pk.none 4 ((T.drop 3).take z) ((T.drop 3).length) = .ok { Pk.none with code := (T.drop 3).take z } from rfl)
  have HF := Lib.hid (fr6 (e := E) HFF.out h3 HU.out HZN.out HGE.out HIN.out)
  clear b7
  have hz0 : (0 : Int) < z := by omega
  go_quiet (fail)
  obtain ⟨W, hW⟩ : ∃ u, u = w.drewN nq := ⟨_, rfl⟩
  have HW := Lib.hid (show Below w.heap.size w W by rw [hW]; exact below_drewN (Below.refl _ _) _)
  rw [← hW]
  clear hW
  go_wp2_with fail
  go_loopw [13, 14] (fun a13 _ wr => a13 = .int .i64 0 ∧ W = wr) (fun _ _ _ => 0)
  case atStart => exact ⟨rfl, rfl⟩
  case round =>
    obtain ⟨rfl, rfl⟩ := hrel
    go_wp2_with fail
    refine bodyPost_ret (results_tmp3 rfl _ _ _) rfl ?_
    refine ⟨?_, HW.out⟩
    rw [HD.out, HF.out, show E - ((T.drop 3).length - z) = p + 4 + z by have := HLFT.out; have := HGE.out; omega]
    rfl

theorem rfault_any (w : World) (b off E c p : Nat) (last : Int) (M : List Int) (hM : M.length = E) (hEc : E ≤ c) (hY : Bytes M) (hA : BytesAt w (some ⟨b, off, none⟩) M) (hE : E ≤ 131072) (hp : p < E) (hl : 0 ≤ last ∧ last ≤ 4) :
    Calls Try.prog 46 #[.slice (some ⟨b, off, none⟩) E c, .int .i64 p, .int .i64 last] w (RFau last M p E w) := by
  obtain ⟨kd, hkd, hdr⟩ := drop_cons (l := M) (j := p) (by omega)
  cases hf : follows last kd
  · exact rfault0_any w b off E c p last kd M _ hM hEc hY hA hE hp hl hdr hkd hf
  · have hk := follows_rng hl.1 hf
    rcases (show kd = 1 ∨ kd = 2 ∨ kd = 3 ∨ kd = 4 by omega) with h | h | h | h
    · exact rfault1_any w b off E c p last kd M _ hM hEc hY hA hE hp hl hdr hkd h hf
    · exact rfault2_any w b off E c p last kd M _ hM hEc hY hA hE hp hl hdr hkd h hf
    · exact rfault3_any w b off E c p last kd M _ hM hEc hY hA hE hp hl hdr hkd h hf
    · exact rfault4_any w b off E c p last kd M _ hM hEc hY hA hE hp hl hdr hkd h hf
end Go.Proofs.Ytkfcfoidaalnlaa.Pak
