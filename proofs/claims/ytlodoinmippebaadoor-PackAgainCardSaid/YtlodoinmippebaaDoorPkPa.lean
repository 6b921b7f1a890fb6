/- Programs as containers, plain mathematics over package code's: what Check, Of and Program answer, and what follows. -/
import Derived.Test.YtlodoinmippebaaDoorPakB
import Derived.Test.YtlodoinmippebaaDoorCodeO
namespace Go.Proofs.YtlodoinmippebaaDoor.Pak
open Go.ChangeShapes Go.WideShapes Go.ChangeAt Go.RowKit
open Cod
set_option linter.unusedVariables false
set_option linter.unusedSimpArgs false
set_option maxRecDepth 100000
structure Pg where
  lo : Int
  hi : Int
  data : List Int
  tabs : List (Int × Int)
  code : List Ins
def Pg.none : Pg := ⟨0, 0, [], [], []⟩
def beyondI (d : Int) (i : Ins) : Bool := decide (i.op = 21) && decide (d < i.imm)
/-- what instructions lack as a program's: where, and which error -/
def lostL (L : List Ins) (d : Int) : Int × Int := if L = [] then (0, 26) else if 0 ≤ idxF (beyondI d) 0 L then (idxF (beyondI d) 0 L, 123) else (0, 0)
def checkG (p : Pg) : Int × Int :=
  if sizesE p.lo p.hi p.tabs p.data.length ≠ 0 then (0, sizesE p.lo p.hi p.tabs p.data.length)
  else if (checkL p.code 0).2 ≠ 0 then checkL p.code 0 else lostL p.code p.data.length
def ofG (p : Pg) : Pk := ⟨p.lo, p.hi, p.data, p.tabs, encB p.code⟩
def progG (k : Pk) : (Int × Int) × Pg :=
  if sizesE k.lo k.hi k.tabs k.data.length ≠ 0 then ((0, sizesE k.lo k.hi k.tabs k.data.length), Pg.none)
  else if (D k.code 0 0).1 ≠ 0 then (((D k.code 0 0).2.1, (D k.code 0 0).1), Pg.none)
  else if (lostL (D k.code 0 0).2.2 k.data.length).2 ≠ 0 then ((uAt (D k.code 0 0).2.2 (lostL (D k.code 0 0).2.2 k.data.length).1.toNat, (lostL (D k.code 0 0).2.2 k.data.length).2), Pg.none)
  else ((0, 0), ⟨k.lo, k.hi, k.data, k.tabs, (D k.code 0 0).2.2⟩)
theorem lost_zero {L : List Ins} {d : Int} (h : (lostL L d).2 = 0) : L ≠ [] ∧ (lostL L d).1 = 0 := by
  unfold lostL at h ⊢
  by_cases h0 : L = []
  · rw [if_pos h0] at h; cases h
  · rw [if_neg h0] at h ⊢
    by_cases h1 : 0 ≤ idxF (beyondI d) 0 L
    · rw [if_pos h1] at h; cases h
    · rw [if_neg h1]; exact ⟨h0, rfl⟩
theorem lost_rng (L : List Ins) (d : Int) : ∃ j : Nat, (lostL L d).1 = j ∧ j ≤ L.length ∧ ((lostL L d).2 = 0 ∨ (lostL L d).2 = 26 ∨ (lostL L d).2 = 123) := by
  unfold lostL
  by_cases h0 : L = []
  · rw [if_pos h0]; exact ⟨0, rfl, Nat.zero_le _, .inr (.inl rfl)⟩
  · rw [if_neg h0]
    by_cases h1 : 0 ≤ idxF (beyondI d) 0 L
    · rw [if_pos h1]
      obtain ⟨q, e, hq, -⟩ := idxF_spec (beyondI d) L 0 (idxF (beyondI d) 0 L).toNat (by omega)
      exact ⟨(idxF (beyondI d) 0 L).toNat, by show idxF (beyondI d) 0 L = _; omega, by omega, .inr (.inr rfl)⟩
    · rw [if_neg h1]; exact ⟨0, rfl, Nat.zero_le _, .inl rfl⟩
theorem check_zero {p : Pg} (h : (checkG p).2 = 0) : sizesE p.lo p.hi p.tabs p.data.length = 0 ∧ (checkL p.code 0).2 = 0 ∧ (lostL p.code p.data.length).2 = 0 ∧ (checkG p).1 = 0 := by
  unfold checkG at h ⊢
  by_cases h0 : sizesE p.lo p.hi p.tabs p.data.length = 0
  · rw [if_neg (by simpa using h0)] at h ⊢
    by_cases h1 : (checkL p.code 0).2 = 0
    · rw [if_neg (by simpa using h1)] at h ⊢
      exact ⟨h0, h1, h, (lost_zero h).2⟩
    · rw [if_pos h1] at h; exact absurd h h1
  · rw [if_pos h0] at h; exact absurd h h0
theorem check_of {p : Pg} (h0 : sizesE p.lo p.hi p.tabs p.data.length = 0) (h1 : (checkL p.code 0).2 = 0) : checkG p = lostL p.code p.data.length := by
  unfold checkG
  rw [if_neg (by simpa using h0), if_neg (by simpa using h1)]
/-- a right program's container is written, and read as that program again -/
theorem again {p : Pg} (hr : ∀ i ∈ p.code, i.rng) (h : (checkG p).2 = 0) : encE (ofG p) = 0 ∧ progG (ofG p) = ((0, 0), p) ∧ (∀ i ∈ p.code, Good i) ∧ p.code.length ≤ 4096 := by
  obtain ⟨h0, h1, h2, -⟩ := check_zero h
  have hg := good_all h1 hr
  have hl : p.code.length ≤ 4096 := by have := (check_ok p.code 0 h1).2.1 (by omega); omega
  obtain ⟨z0, z1, z2, z3, z4, z5⟩ := sizes_zero h0
  refine ⟨?_, ?_, hg, hl⟩
  · unfold encE
    have hs : sizesE (ofG p).lo (ofG p).hi (ofG p).tabs (ofG p).data.length = 0 := h0
    rw [if_neg (by simpa using hs), if_neg ?_]
    have hc := encB_length p.code
    have e : (encW (ofG p)).length = (bodyW (ofG p)).length + 4 := enc_len _
    have e2 : (bodyW (ofG p)).length ≤ 4 + (8 + ((4 + 2 * p.tabs.length) + ((p.data.length + 4) + ((encB p.code).length + 4)))) := by
      unfold bodyW ofG
      simp only [List.length_append, sec_len, tabB_len]
      have hm : mark.length = 4 := rfl
      have hle := lens_len p.lo p.hi
      rw [List.length_append] at hle
      repeat' split
      all_goals omega
    omega
  · unfold progG
    have hs : sizesE (ofG p).lo (ofG p).hi (ofG p).tabs (ofG p).data.length = 0 := h0
    have hd : D (ofG p).code 0 0 = (0, 0, p.code) := D_enc p.code hg hl 0
    rw [if_neg (by simpa using hs), hd, if_neg (by simp)]
    have h3 : (lostL p.code (ofG p).data.length).2 = 0 := h2
    rw [if_neg (by simpa using h3)]
    rfl
theorem isLong_units (L : List Ins) : ∀ j, j ≤ L.length → uAt L j ≤ unitsN L := fun j hj => by
  have h1 := unitsN_append (L.take j) (L.drop j)
  rw [List.take_append_drop] at h1
  have h2 := uAt_end (L.take j)
  have h3 : uAt L j = uAt (L.take j) (L.take j).length := by
    unfold uAt
    rw [List.length_take, Nat.min_eq_left hj, List.take_take, Nat.min_self]
  rw [h3, h2, h1]
  omega
theorem prog_err {k : Pk} (hB : BytesL k.code) (h : (progG k).1.2 ≠ 0) : (progG k).2 = Pg.none ∧ 0 ≤ (progG k).1.1 ∧ (progG k).1.1 ≤ (k.code.length / 8 : Nat) := by
  unfold progG at h ⊢
  by_cases h0 : sizesE k.lo k.hi k.tabs k.data.length = 0
  case neg => rw [if_pos h0]; exact ⟨rfl, Int.le_refl _, by show (0 : Int) ≤ _; omega⟩
  rw [if_neg (by simpa using h0)] at h ⊢
  by_cases h1 : (D k.code 0 0).1 = 0
  case neg =>
    rw [if_pos h1]
    have := (D_fault hB h1).2
    exact ⟨rfl, by show (0 : Int) ≤ ((D k.code 0 0).2.1 : Int); omega, by show (((D k.code 0 0).2.1 : Nat) : Int) ≤ _; omega⟩
  rw [if_neg (by simpa using h1)] at h ⊢
  by_cases h2 : (lostL (D k.code 0 0).2.2 k.data.length).2 = 0
  case neg =>
    rw [if_pos h2]
    obtain ⟨j, e, hj, -⟩ := lost_rng (D k.code 0 0).2.2 k.data.length
    obtain ⟨-, -, he, -⟩ := D_forth hB h1
    have hu := isLong_units (D k.code 0 0).2.2 j hj
    have hlen := encB_len (D k.code 0 0).2.2
    rw [he] at hlen
    have hr := uAt_rng (D k.code 0 0).2.2 j
    refine ⟨rfl, ?_, ?_⟩
    · show 0 ≤ uAt _ (lostL _ _).1.toNat; rw [e, Int.toNat_natCast]; exact hr.1
    · show uAt _ (lostL _ _).1.toNat ≤ _; rw [e, Int.toNat_natCast]; omega
  rw [if_neg (by simpa using h2)] at h
  exact absurd rfl h
/-- a container that is read as a program is that program's container -/
theorem faithful {k : Pk} (hB : BytesL k.code) (h : (progG k).1.2 = 0) : (progG k).1 = (0, 0) ∧ checkG (progG k).2 = (0, 0) ∧ ofG (progG k).2 = k ∧ (checkL (progG k).2.code 0).2 = 0 ∧ encB (progG k).2.code = k.code ∧ (progG k).2.code ≠ [] ∧ (∀ i ∈ (progG k).2.code, Good i) ∧ (progG k).2.code.length ≤ 4096 := by
  unfold progG at h ⊢
  by_cases h0 : sizesE k.lo k.hi k.tabs k.data.length = 0
  case neg => rw [if_pos h0] at h; exact absurd h h0
  rw [if_neg (by simpa using h0)] at h ⊢
  by_cases h1 : (D k.code 0 0).1 = 0
  case neg => rw [if_pos h1] at h; exact absurd h h1
  rw [if_neg (by simpa using h1)] at h ⊢
  by_cases h2 : (lostL (D k.code 0 0).2.2 k.data.length).2 = 0
  case neg => rw [if_pos h2] at h; exact absurd h h2
  rw [if_neg (by simpa using h2)]
  obtain ⟨hg, hl, he, -⟩ := D_forth hB h1
  have hck := good_check hg hl
  obtain ⟨z1, z2⟩ := lost_zero h2
  refine ⟨rfl, ?_, ?_, ?_, he, z1, hg, hl⟩
  · rw [check_of h0 (by show (checkL (D k.code 0 0).2.2 0).2 = 0; rw [hck])]
    show lostL (D k.code 0 0).2.2 k.data.length = (0, 0)
    exact Prod.ext z2 h2
  · show (⟨k.lo, k.hi, k.data, k.tabs, encB (D k.code 0 0).2.2⟩ : Pk) = k
    rw [he]
  · show (checkL (D k.code 0 0).2.2 0).2 = 0; rw [hck]
end Go.Proofs.YtlodoinmippebaaDoor.Pak
