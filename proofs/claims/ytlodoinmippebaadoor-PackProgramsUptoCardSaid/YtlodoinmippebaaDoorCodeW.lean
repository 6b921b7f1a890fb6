/- Package code: what the laws say of reading and writing, plain mathematics. -/
import Derived.Test.YtlodoinmippebaaDoorCodeV
import Derived.Test.YtlodoinmippebaaDoorCodeQR
namespace Go.Proofs.YtlodoinmippebaaDoor
open Go.RowKit
open Cod
set_option linter.unusedVariables false


/-! what the laws say of all this -/
theorem check_no : ∀ (L : List Ins) (n : Nat), (checkL L n).2 ≠ 0 → ∃ k : Nat, (checkL L n).1 = (n + k : Nat) ∧ k < L.length
  | [], n, h => absurd rfl h
  | i :: t, n, h => by
    unfold checkL at h ⊢
    by_cases h1 : n = 4096
    · rw [if_pos h1]; exact ⟨0, rfl, by simp⟩
    · rw [if_neg h1] at h ⊢
      by_cases h2 : i.wrong = 0
      · rw [if_pos h2] at h ⊢
        obtain ⟨k, e, hk⟩ := check_no t (n + 1) h
        exact ⟨k + 1, by rw [e]; congr 1; omega, by rw [List.length_cons]; omega⟩
      · rw [if_neg h2]; exact ⟨0, rfl, by simp⟩
theorem check_yes : ∀ (L : List Ins) (n : Nat), (∀ i ∈ L, i.wrong = 0) → n + L.length ≤ 4096 → checkL L n = (0, 0)
  | [], n, _, _ => rfl
  | i :: t, n, h, hn => by
    rw [List.length_cons] at hn
    unfold checkL
    rw [if_neg (by omega), if_pos (h i (by simp)), check_yes t (n + 1) (fun x hx => h x (by simp [hx])) (by omega)]
theorem good_all {L : List Ins} (h : (checkL L 0).2 = 0) (hr : ∀ i ∈ L, i.rng) : ∀ i ∈ L, Good i := fun i hi => ⟨(right_iff i).1 ((check_ok L 0 h).1 i hi), hr i hi⟩
theorem good_check {L : List Ins} (h : ∀ i ∈ L, Good i) (hl : L.length ≤ 4096) : checkL L 0 = (0, 0) := check_yes L 0 (fun i hi => (right_iff i).2 (h i hi).right) (by omega)
theorem uAt_zero (L : List Ins) : uAt L 0 = 0 := by simp [uAt]
theorem uAt_end (L : List Ins) : uAt L L.length = unitsN L := by
  unfold uAt
  rw [List.take_length]
  induction L with
  | nil => rfl
  | cons i t ih =>
    rw [List.filter_cons, unitsN]
    unfold Ins.units
    split
    · simp only [List.length_cons]; omega
    · simp only [List.length_cons]; omega
theorem D_joins {a b : List Int} (ha : BytesL a) (hb : BytesL b) (h : (D a 0 0).1 = 0) :
    ((D (a ++ b) 0 0).1 = 25 → (D (a ++ b) 0 0).2.2 = [] ∧ 32768 < a.length + b.length) ∧
    ((D (a ++ b) 0 0).1 ≠ 25 → (D b 0 0).1 ≠ 0 → (D (a ++ b) 0 0).1 = (D b 0 0).1 ∧ (D (a ++ b) 0 0).2.1 = (D b 0 0).2.1 + unitsN (D a 0 0).2.2 ∧ (D (a ++ b) 0 0).2.2 = []) ∧
    ((D (a ++ b) 0 0).1 ≠ 25 → (D b 0 0).1 = 0 → (D (a ++ b) 0 0).1 = 0 ∧ (D (a ++ b) 0 0).2.1 = 0 ∧ (D (a ++ b) 0 0).2.2 = (D a 0 0).2.2 ++ (D b 0 0).2.2) := by
  obtain ⟨hg, hl, he, hu⟩ := D_forth ha h
  revert hg hl he
  generalize (D a 0 0).2.2 = L
  intro hg hl he
  have e1 : D (a ++ b) 0 0 = joinD L (D b L.length (unitsN L)) := by
    rw [← he, D_app L hg b 0 0 (by omega), Nat.zero_add, Nat.zero_add]
  obtain ⟨M, rest, hs⟩ := split_any b.length b (Nat.le_refl _) hb L.length (unitsN L) hl
  have hd := hs.D_eq
  have hlen : a.length = 8 * unitsN L := by rw [← he, encB_len]
  have hblen : b.length = 8 * unitsN M + rest.length := by rw [hs.eq, List.length_append, encB_len]
  have hML := unitsN_le M
  have hLL := unitsN_le L
  have e2 : D b 0 0 = joinD M (D rest M.length (unitsN M)) := by
    have := D_app M hs.good rest 0 0 (by have := hs.le; omega)
    rw [Nat.zero_add, Nat.zero_add] at this
    rw [hs.eq]; exact this
  rw [e1, e2, hd]
  rcases hs.ends with h1 | ⟨h1, h2⟩ | ⟨h1, h2, h3⟩
  · subst h1
    rw [if_pos rfl, D_nil]
    simp [joinD]
  · rw [if_neg (by intro e; rw [e] at h1; exact h1 rfl), if_pos h2]
    refine ⟨fun _ => ⟨rfl, by omega⟩, fun h => absurd rfl h, fun h => absurd rfl h⟩
  · rw [if_neg (by intro e; rw [e] at h1; exact h1 rfl), if_neg (by omega), D_err h1 (by omega) _ h3]
    have h25 := insD_rng rest
    unfold joinD
    rw [if_neg (show ¬ ((insD rest).1, unitsN L + unitsN M, ([] : List Ins)).1 = 0 from h3), if_neg (show ¬ ((insD rest).1, unitsN M, ([] : List Ins)).1 = 0 from h3)]
    refine ⟨fun h => ?_, fun _ _ => ⟨rfl, ?_, rfl⟩, fun _ h => absurd h h3⟩
    · have h : (insD rest).1 = 25 := h
      omega
    · show unitsN L + unitsN M = unitsN M + unitsN L
      omega
theorem D_first {b : List Int} (hb : BytesL b) (h : (D b 0 0).1 ≠ 0) :
    8 * (D b 0 0).2.1 < b.length ∧ (D (b.take (8 * (D b 0 0).2.1)) 0 0).1 = 0 ∧ (D (b.take (8 * (D b 0 0).2.1)) 0 0).2.1 = 0 ∧
    ((D b 0 0).1 = 25 → (D (b.take (8 * (D b 0 0).2.1)) 0 0).2.2.length = 4096) ∧
    ((D b 0 0).1 ≠ 25 → (D (b.drop (8 * (D b 0 0).2.1)) 0 0).1 = (D b 0 0).1 ∧ (D (b.drop (8 * (D b 0 0).2.1)) 0 0).2.1 = 0) := by
  obtain ⟨L, rest, hs⟩ := split_any b.length b (Nat.le_refl _) hb 0 0 (by omega)
  have hd := hs.D_eq
  have hblen : b.length = 8 * unitsN L + rest.length := by rw [hs.eq, List.length_append, encB_len]
  by_cases h1 : rest = []
  · rw [if_pos h1] at hd; rw [hd] at h; exact absurd rfl h
  have hr : rest.length ≠ 0 := fun e => h1 (List.length_eq_zero_iff.1 e)
  have hu : (D b 0 0).2.1 = unitsN L := by rw [hd, if_neg h1]; split <;> simp
  have hle := hs.le
  have ht : b.take (8 * unitsN L) = encB L := by rw [hs.eq, ← encB_len]; exact List.take_left
  have hdr : b.drop (8 * unitsN L) = rest := by rw [hs.eq, ← encB_len]; exact List.drop_left
  rw [hu, ht, hdr, D_enc L hs.good (by omega) 0]
  refine ⟨by omega, rfl, rfl, fun h25 => ?_, fun h25 => ?_⟩
  · rcases hs.ends with h2 | ⟨h2, h3⟩ | ⟨h2, h3, h4⟩
    · exact absurd h2 h1
    · show L.length = 4096; omega
    · rw [hd, if_neg h1, if_neg (by omega)] at h25
      have := insD_rng rest
      simp only at h25; omega
  · rcases hs.ends with h2 | ⟨h2, h3⟩ | ⟨h2, h3, h4⟩
    · exact absurd h2 h1
    · rw [hd, if_neg h1, if_pos h3] at h25; exact absurd rfl h25
    · rw [hd, if_neg h1, if_neg (by omega), D_err h2 (by decide) 0 h4]
      exact ⟨rfl, rfl⟩
theorem encB_inj {L M : List Ins} (hL : ∀ i ∈ L, Good i) (hM : ∀ i ∈ M, Good i) (lL : L.length ≤ 4096) (lM : M.length ≤ 4096) (h : encB L = encB M) : L = M := by
  have h1 := D_enc L hL lL 0
  have h2 := D_enc M hM lM 0
  rw [h, h2] at h1
  exact (congrArg (fun x => x.2.2) h1).symm

theorem find_at : ∀ (L : List Ins) (k : Nat), k < (encB L).length → ∃ L1 i L2, L = L1 ++ i :: L2 ∧ (encB L1).length ≤ k ∧ k < (encB L1).length + (insB i).length
  | [], k, h => absurd h (by simp [encB])
  | i :: t, k, h => by
    by_cases h1 : k < (insB i).length
    · exact ⟨[], i, t, rfl, by simp [encB], by simpa [encB] using h1⟩
    · rw [encB, List.length_append] at h
      obtain ⟨L1, j, L2, e, h2, h3⟩ := find_at t (k - (insB i).length) (by omega)
      exact ⟨i :: L1, j, L2, by rw [e]; rfl, by rw [encB, List.length_append]; omega, by rw [encB, List.length_append]; omega⟩
theorem opL_zero : (opL 0).op = 0 := by decide
theorem BytesL.append {a b : List Int} (ha : BytesL a) (hb : BytesL b) : BytesL (a ++ b) := fun x hx => by
  rcases List.mem_append.1 hx with h | h
  · exact ha x h
  · exact hb x h
theorem BytesL.set {a : List Int} (ha : BytesL a) (k : Nat) {x : Int} (hx : IsB x) : BytesL (a.set k x) := fun y hy => by
  rcases List.mem_or_eq_of_mem_set hy with h | h
  · exact ha y h
  · rw [h]; exact hx
theorem unitB_bytes (u : U) (h : UOk u) : BytesL (unitB u.oc u.dst u.src u.off u.imm) := by
  obtain ⟨oc, d, s, o, m⟩ := u
  obtain ⟨h1, h2, h3, h4, h5⟩ := h
  simp only at h1 h2 h3 h4 h5 ⊢
  intro x hx
  unfold unitB at hx
  simp only [List.mem_cons, List.not_mem_nil, or_false] at hx
  unfold IsB
  rcases hx with rfl | rfl | rfl | rfl | rfl | rfl | rfl | rfl <;> omega
theorem insB_bytes {i : Ins} (h : Good i) : BytesL (insB i) := by
  rw [insB_u]
  refine (unitB_bytes _ (u1_ok h.right)).append ?_
  split
  · exact unitB_bytes _ (u2_ok h)
  · intro x hx; simp at hx
theorem encB_bytes : ∀ (L : List Ins), (∀ i ∈ L, Good i) → BytesL (encB L)
  | [], _ => fun x hx => by simp [encB] at hx
  | i :: t, h => (insB_bytes (h i (by simp))).append (encB_bytes t fun x hx => h x (by simp [hx]))
theorem unitA_app (a b : List Int) (h : 8 ≤ a.length) : unitA (a ++ b) = unitA a := by
  have g : ∀ k, k < 8 → gB (a ++ b) k = gB a k := fun k hk => by
    unfold gB
    rw [List.getD_eq_getElem?_getD, List.getD_eq_getElem?_getD, List.getElem?_append_left (by omega)]
  unfold unitA
  rw [g 0 (by omega), g 1 (by omega), g 2 (by omega), g 3 (by omega), g 4 (by omega), g 5 (by omega), g 6 (by omega), g 7 (by omega)]
theorem unitA_set (a : List Int) (k : Nat) (x : Int) (h : 8 ≤ k) : unitA (a.set k x) = unitA a := by
  have g : ∀ j, j < 8 → gB (a.set k x) j = gB a j := fun j hj => by
    unfold gB
    rw [List.getD_eq_getElem?_getD, List.getD_eq_getElem?_getD, List.getElem?_set_ne (by omega)]
  unfold unitA
  rw [g 0 (by omega), g 1 (by omega), g 2 (by omega), g 3 (by omega), g 4 (by omega), g 5 (by omega), g 6 (by omega), g 7 (by omega)]
theorem insD_two {l : List Int} (h : (insD l).1 = 0) : ((insD l).2.2 = 2 ∧ (opL (unitA l).oc).op = 20 ∧ 16 ≤ l.length ∧ (unitA (l.drop 8)).oc = 0) ∨ ((insD l).2.2 = 1 ∧ (opL (unitA l).oc).op ≠ 20) := by
  unfold insD at h ⊢
  by_cases c1 : l.length < 8
  · rw [if_pos c1] at h; exact absurd h (by decide)
  rw [if_neg c1] at h ⊢
  by_cases c2 : (opL (unitA l).oc).op = 0
  · rw [if_pos c2] at h; exact absurd h (by decide)
  rw [if_neg c2] at h ⊢
  by_cases c3 : (opL (unitA l).oc).op = 20
  · rw [if_pos c3] at h ⊢
    by_cases c4 : l.length < 16
    · rw [if_pos c4] at h; exact absurd h (by decide)
    rw [if_neg c4] at h ⊢
    exact .inl ⟨rfl, c3, by omega, (err_zero h).2.2.1.1⟩
  · rw [if_neg c3] at h ⊢
    exact .inr ⟨rfl, c3⟩
theorem insD_bad {l : List Int} (h : 8 ≤ l.length) (h0 : (opL (unitA l).oc).op = 0) : (insD l).1 = 21 := by
  unfold insD
  rw [if_neg (by omega), if_pos h0]
theorem first_oc {i : Ins} (h : Good i) (rest : List Int) : unitA (insB i ++ rest) = i.u1 := by
  rw [insB_u, List.append_assoc]; exact unitA_back i.u1 (u1_ok h.right) _
theorem D_turned {L : List Ins} (hg : ∀ i ∈ L, Good i) (hl : L.length ≤ 4096) {k : Nat} (hk : k < (encB L).length) {x : Int} (hx : IsB x) (hf : (D ((encB L).set k x) 0 0).1 ≠ 0) :
    (D ((encB L).set k x) 0 0).2.1 ≤ k / 8 + 1 := by
  obtain ⟨L1, i, L2, rfl, h1, h2⟩ := find_at L k hk
  have hi : Good i := hg i (by simp)
  have g1 : ∀ x ∈ L1, Good x := fun x hx => hg x (by simp [hx])
  have g2 : ∀ x ∈ L2, Good x := fun x hx => hg x (by simp [hx])
  have hll : L1.length + (L2.length + 1) ≤ 4096 := by rw [List.length_append, List.length_cons] at hl; exact hl
  have e0 : (encB (L1 ++ i :: L2)).set k x = encB L1 ++ ((insB i).set (k - (encB L1).length) x ++ encB L2) := by
    rw [encB_append, encB, List.set_append_right _ _ h1, List.set_append_left _ _ (by omega)]
  have hlen1 := encB_len L1
  have hil := insB_len i
  generalize hB : (insB i).set (k - (encB L1).length) x = B at *
  have hBl : B.length = 8 * i.units := by rw [← hB, List.length_set, hil]
  have hBb : BytesL B := by rw [← hB]; exact (insB_bytes hi).set _ hx
  have hp := units_pos i
  have hall : BytesL (B ++ encB L2) := hBb.append (encB_bytes L2 g2)
  have e1 := D_app L1 g1 (B ++ encB L2) 0 0 (by omega)
  rw [e0, e1] at hf
  rw [e0, e1]
  rw [Nat.zero_add, Nat.zero_add] at hf ⊢
  have hne : (B ++ encB L2).length ≠ 0 := by rw [List.length_append, hBl]; omega
  by_cases hz : (insD (B ++ encB L2)).1 = 0
  · have hst := D_step hne (by omega : L1.length ≠ 4096) (unitsN L1) hz
    rcases insD_two hz with ⟨n2, o20, hl16, ho⟩ | ⟨n1, o20⟩
    · by_cases hu : i.units = 2
      · -- the rest reads as before
        have hd : (B ++ encB L2).drop (8 * (insD (B ++ encB L2)).2.2) = encB L2 := by
          rw [n2, show 8 * 2 = B.length by rw [hBl, hu]]; exact List.drop_left
        rw [hd] at hst
        have := D_app L2 g2 [] (L1.length + 1) (unitsN L1 + (insD (B ++ encB L2)).2.2) (by omega)
        rw [List.append_nil, D_nil] at this
        rw [hst, this] at hf
        exact absurd (by simp [joinD]) hf
      · have hu1 : i.units = 1 := by unfold Ins.units at *; split at hu <;> simp_all
        have hd : (B ++ encB L2).drop 8 = encB L2 := by
          rw [show 8 = B.length by rw [hBl, hu1]]; exact List.drop_left
        rw [hd] at ho
        cases L2 with
        | nil => rw [List.length_append, hBl, hu1] at hl16; simp [encB] at hl16
        | cons j t =>
          have hj : Good j := g2 j (by simp)
          rw [encB, first_oc hj] at ho
          have hr := opL_of hj.right.ops
          have hjo : opcodeL j.op j.nar j.reg j.size = 0 := ho
          rw [hjo] at hr
          have := congrArg Ins.op hr
          rw [opL_zero] at this
          have hop := (op_sized hj.right.ops).1
          have hb : baseOp j.op ≠ 0 := by unfold baseOp; repeat' split; all_goals omega
          exact absurd this.symm hb
    · by_cases hu : i.units = 1
      · have hd : (B ++ encB L2).drop (8 * (insD (B ++ encB L2)).2.2) = encB L2 := by
          rw [n1, show 8 * 1 = B.length by rw [hBl, hu]]; exact List.drop_left
        rw [hd] at hst
        have := D_app L2 g2 [] (L1.length + 1) (unitsN L1 + (insD (B ++ encB L2)).2.2) (by omega)
        rw [List.append_nil, D_nil] at this
        rw [hst, this] at hf
        exact absurd (by simp [joinD]) hf
      · have hlong : isLong i = true := by
          unfold Ins.units at hu
          by_cases h : isLong i = true
          · exact h
          · rw [if_neg h] at hu; exact absurd rfl hu
        have hu2 : i.units = 2 := by unfold Ins.units; rw [if_pos hlong]
        have hk8 : k - (encB L1).length < 8 := by
          rcases Nat.lt_or_ge (k - (encB L1).length) 8 with h | h
          · exact h
          · exfalso
            have hua : unitA (B ++ encB L2) = i.u1 := by
              rw [unitA_app _ _ (by rw [hBl, hu2]; omega), ← hB, unitA_set _ _ _ h]
              have := first_oc hi []
              rwa [List.append_nil] at this
            rw [hua, show i.u1.oc = i.oc from rfl, show opL i.oc = baseI i.op i.nar i.reg i.size from opL_of hi.right.ops] at o20
            simp only [isLong, Bool.or_eq_true, beq_iff_eq] at hlong
            rcases hlong with h | h <;> exact o20 (by rw [h]; rfl)
        have hd : ((B ++ encB L2).drop (8 * (insD (B ++ encB L2)).2.2)) = unitB i.u2.oc i.u2.dst i.u2.src i.u2.off i.u2.imm ++ encB L2 := by
          rw [n1, ← hB, insB_u, if_pos hlong, List.set_append_left _ _ (by rw [unitB_length]; exact hk8), List.append_assoc]
          rw [List.drop_append, List.length_set, unitB_length]
          rw [List.drop_eq_nil_of_le (by rw [List.length_set, unitB_length]; exact Nat.le_refl _)]
          rfl
        have hu0 : i.u2.oc = 0 := by unfold Ins.u2; split <;> rfl
        have hbad : (insD (unitB i.u2.oc i.u2.dst i.u2.src i.u2.off i.u2.imm ++ encB L2)).1 = 21 :=
          insD_bad (by rw [List.length_append, unitB_length]; omega) (by rw [unitA_back i.u2 (u2_ok hi), hu0]; exact opL_zero)
        rw [hd] at hst
        have hlen : (unitB i.u2.oc i.u2.dst i.u2.src i.u2.off i.u2.imm ++ encB L2).length ≠ 0 := by rw [List.length_append, unitB_length]; omega
        rw [hst, n1]
        by_cases h96 : L1.length + 1 = 4096
        · rw [h96, D_many hlen, joinD, joinD, if_neg (show ¬ (25 : Int) = 0 by decide), if_neg (show ¬ (25 : Int) = 0 by decide)]
          show unitsN L1 + 1 ≤ _
          omega
        · rw [D_err hlen h96 _ (by rw [hbad]; decide), hbad, joinD, joinD, if_neg (show ¬ (21 : Int) = 0 by decide), if_neg (show ¬ (21 : Int) = 0 by decide)]
          show unitsN L1 + 1 ≤ _
          omega
  · rw [D_err hne (by omega) _ hz, joinD, if_neg hz]
    show unitsN L1 ≤ _
    omega
end Go.Proofs.YtlodoinmippebaaDoor
