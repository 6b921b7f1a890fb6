/- Package pack: a right program turned in one way, plain mathematics. -/
import Derived.Test.YtlodoinmippebaaDoorPkPf
namespace Go.Proofs.YtlodoinmippebaaDoor.Pak
open Go.ChangeShapes Go.WideShapes Go.ChangeAt Go.RowKit
open Cod
set_option linter.unusedVariables false
set_option linter.unusedSimpArgs false
set_option maxRecDepth 100000
theorem idxF_last {α : Type} (p : α → Bool) : ∀ (l : List α) (j : Nat) (x : α), idxF p j l < 0 → p x = true → idxF p j (l ++ [x]) = ((j + l.length : Nat) : Int)
  | [], j, x, _, hx => by
    show (if p x = true then (j : Int) else -1) = _
    rw [if_pos hx]; simp
  | a :: t, j, x, h, hx => by
    have h' : (if p a = true then (j : Int) else idxF p (j + 1) t) < 0 := h
    by_cases ha : p a = true
    · rw [if_pos ha] at h'; omega
    · rw [if_neg ha] at h'
      have := idxF_last p t (j + 1) x h' hx
      show (if p a = true then (j : Int) else idxF p (j + 1) (t ++ [x])) = _
      rw [if_neg ha, this, List.length_cons]
      congr 1
      omega
def dataI (imm : Int) : Ins := ⟨21, false, false, 0, 0, 0, 0, imm⟩
theorem dataI_right {imm : Int} (h0 : 0 ≤ imm) (h1 : imm ≤ 2147483647) : (dataI imm).wrong = 0 := by
  refine (right_iff _).2 ⟨by kernel_rfl, ?_, .inl (by kernel_rfl), .inr rfl, .inr rfl, ⟨by show (-32768 : Int) ≤ 0; decide, by show (0 : Int) ≤ 32767; decide⟩, ?_⟩
  · show registersL 21 false false 0 0 imm = true
    unfold registersL
    rw [show namedL 21 false false / 8 % 2 = 0 by kernel_rfl, show (namedL 21 false false / 4 % 2 == 0 || registerL 0 (decide ((1 : Int) ≤ 21) && decide ((21 : Int) ≤ 23))) = true by kernel_rfl]
    rfl
  · show immediateL 21 false false imm = true
    unfold immediateL
    rw [if_neg (by rw [show namedL 21 false false / 32 % 2 = 1 by kernel_rfl]; decide), if_neg (by decide), if_pos rfl, decide_eq_true h0, decide_eq_true h1]
    rfl
/-- how a right program was turned, and what Check says of it -/
structure Turned (p q : Pg) (at_ want : Int) : Prop where
  chk : checkG q = (at_, want)
  nz : want ≠ 0
  how : (at_ = 0 ∧ sizesE q.lo q.hi q.tabs q.data.length = want) ∨ (0 < at_ ∧ q.lo = p.lo ∧ q.hi = p.hi ∧ q.data = p.data ∧ q.tabs = p.tabs)
theorem turned_sizes {p q : Pg} {want : Int} (h : sizesE q.lo q.hi q.tabs q.data.length = want) (h0 : want ≠ 0) : Turned p q 0 want :=
  ⟨by unfold checkG; rw [h, if_pos h0], h0, .inl ⟨rfl, h⟩⟩
theorem sizes_parts {p : Pg} (h : (checkG p).2 = 0) : 0 ≤ p.lo ∧ p.lo ≤ p.hi ∧ p.hi ≤ 65535 ∧ p.tabs.length ≤ 8 ∧ p.tabs.all okT = true ∧ p.data.length ≤ 4096 := sizes_zero (check_zero h).1
theorem turn_lens {p : Pg} {lo hi : Int} (h : lo < 0 ∨ hi < lo ∨ 65535 < hi) : Turned p ⟨lo, hi, p.data, p.tabs, p.code⟩ 0 121 :=
  turned_sizes (by show sizesE lo hi p.tabs p.data.length = 121; unfold sizesE; rw [if_pos h]) (by decide)
theorem turn_tabs {p : Pg} (hp : (checkG p).2 = 0) {x : Int × Int} (h : okT x = false) : Turned p ⟨p.lo, p.hi, p.data, p.tabs ++ [x], p.code⟩ 0 122 := by
  obtain ⟨z0, z1, z2, z3, z4, z5⟩ := sizes_parts hp
  refine turned_sizes ?_ (by decide)
  show sizesE p.lo p.hi (p.tabs ++ [x]) p.data.length = 122
  unfold sizesE
  rw [if_neg (by omega), if_pos (.inr (by rw [List.all_append, z4]; simp [h]))]
theorem turn_data {p : Pg} (hp : (checkG p).2 = 0) {d : List Int} (h : 4096 < d.length) : Turned p ⟨p.lo, p.hi, d, p.tabs, p.code⟩ 0 123 := by
  obtain ⟨z0, z1, z2, z3, z4, z5⟩ := sizes_parts hp
  refine turned_sizes ?_ (by decide)
  show sizesE p.lo p.hi p.tabs d.length = 123
  unfold sizesE
  rw [if_neg (by omega), if_neg (by rw [z4]; simp; omega), if_pos h]
theorem turn_code {p : Pg} (hp : (checkG p).2 = 0) (hl : p.code.length < 4096) {imm : Int} (h0 : (p.data.length : Int) < imm) (h1 : imm ≤ 2147483647) : Turned p ⟨p.lo, p.hi, p.data, p.tabs, p.code ++ [dataI imm]⟩ p.code.length 123 := by
  obtain ⟨c0, c1, c2, -⟩ := check_zero hp
  obtain ⟨hne, -⟩ := lost_zero c2
  have hlen : 0 < p.code.length := by
    cases hc : p.code with
    | nil => exact absurd hc hne
    | cons a t => simp
  have hix : idxF (beyondI p.data.length) 0 p.code < 0 := by
    unfold lostL at c2
    rw [if_neg hne] at c2
    by_cases h2 : 0 ≤ idxF (beyondI p.data.length) 0 p.code
    · rw [if_pos h2] at c2; cases c2
    · omega
  have hb : beyondI p.data.length (dataI imm) = true := by
    unfold beyondI
    rw [decide_eq_true (show (dataI imm).op = 21 from rfl), decide_eq_true (show (p.data.length : Int) < (dataI imm).imm from h0)]
    rfl
  have hix2 := idxF_last (beyondI p.data.length) p.code 0 (dataI imm) hix hb
  rw [Nat.zero_add] at hix2
  have hck : checkL (p.code ++ [dataI imm]) 0 = (0, 0) := check_yes _ 0 (fun i hi => by
    rcases List.mem_append.1 hi with h2 | h2
    · exact (check_ok p.code 0 c1).1 i h2
    · rw [List.mem_singleton.1 h2]; exact dataI_right (by omega) h1) (by simp; omega)
  refine ⟨?_, by decide, .inr ⟨by omega, rfl, rfl, rfl, rfl⟩⟩
  rw [check_of (p := ⟨p.lo, p.hi, p.data, p.tabs, p.code ++ [dataI imm]⟩) c0 (by show (checkL (p.code ++ [dataI imm]) 0).2 = 0; rw [hck])]
  show lostL (p.code ++ [dataI imm]) p.data.length = _
  unfold lostL
  rw [if_neg (by simp), hix2, if_pos (by omega)]
/-- the container that the law builds of a turned program and the right one's code -/
def contK (p q : Pg) : Pk := ⟨q.lo, q.hi, q.data, q.tabs, encB p.code⟩
theorem Turned.enc {p q : Pg} {want : Int} (h : Turned p q 0 want) : encE (contK p q) = want := by
  rcases h.how with ⟨-, h1⟩ | ⟨h1, -⟩
  · unfold encE
    have h2 : sizesE (contK p q).lo (contK p q).hi (contK p q).tabs (contK p q).data.length = want := h1
    rw [h2, if_pos h.nz]
  · omega
theorem Turned.prog {p q : Pg} {want : Int} (h : Turned p q 0 want) : progG (contK p q) = ((0, want), Pg.none) := by
  rcases h.how with ⟨-, h1⟩ | ⟨h1, -⟩
  · unfold progG
    have h2 : sizesE (contK p q).lo (contK p q).hi (contK p q).tabs (contK p q).data.length = want := h1
    rw [h2, if_pos h.nz]
  · omega
theorem Turned.same {p q : Pg} {at_ want : Int} (h : Turned p q at_ want) (h0 : 0 < at_) : contK p q = ofG p := by
  rcases h.how with ⟨h1, -⟩ | ⟨-, h1, h2, h3, h4⟩
  · omega
  · unfold contK ofG; rw [h1, h2, h3, h4]
theorem none_prog {p : Pg} (hp : (checkG p).2 = 0) : progG ⟨p.lo, p.hi, p.data, p.tabs, []⟩ = ((0, 26), Pg.none) := by
  unfold progG
  have h0 : sizesE p.lo p.hi p.tabs p.data.length = 0 := (check_zero hp).1
  simp only
  rw [h0, if_neg (by simp), D_nil, if_neg (by simp)]
  rfl
end Go.Proofs.YtlodoinmippebaaDoor.Pak
