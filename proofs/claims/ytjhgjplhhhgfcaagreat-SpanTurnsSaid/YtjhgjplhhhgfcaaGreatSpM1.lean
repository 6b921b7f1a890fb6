/- The plain mathematics of spans: ends, how a span is read and written, exact arithmetic, corners. No program is named. -/
namespace Go.Proofs.YtjhgjplhhhgfcaaGreat.Spn

def LEAST : Int := -9223372036854775808
def TOP : Int := 9223372036854775807
def MX : Int := 1152921504606846976

structure E where
  lo : Int
  hi : Int
structure Sp where
  lo : Int
  hi : Int
  nl : Bool
  nh : Bool

def E.ok (r : E) : Prop := r.lo ≤ r.hi ∧ LEAST ≤ r.lo ∧ r.hi ≤ TOP
def E.has (r : E) (v : Int) : Prop := r.lo ≤ v ∧ v ≤ r.hi
def E.In (r s : E) : Prop := s.lo ≤ r.lo ∧ r.hi ≤ s.hi
def allE : E := ⟨LEAST, TOP⟩
/-- may a span have this end -/
def endB (n : Bool) (v : Int) : Bool := if n then v == 0 else (decide (-MX ≤ v) && decide (v ≤ MX))
def ends0 (s : Sp) : E := ⟨if s.nl then LEAST else s.lo, if s.nh then TOP else s.hi⟩
/-- how a span is read -/
def rd (s : Sp) : E := if endB s.nl s.lo && endB s.nh s.hi && decide ((ends0 s).lo ≤ (ends0 s).hi) then ends0 s else allE
/-- the span of two ends -/
def sp (r : E) : Sp := ⟨if r.lo < -MX then 0 else min r.lo MX, if r.hi > MX then 0 else max r.hi (-MX), decide (r.lo < -MX), decide (r.hi > MX)⟩
def fullS : Sp := ⟨0, 0, true, true⟩
/-- is a span one of the chapter's -/
def soundB (s : Sp) : Bool := endB s.nl s.lo && endB s.nh s.hi && decide ((ends0 s).lo ≤ (ends0 s).hi)
def withinB (r room : E) : Bool := decide (room.lo ≤ r.lo) && decide (r.hi ≤ room.hi)

theorem allE_ok : allE.ok := by unfold E.ok allE LEAST TOP; decide
theorem rd_ok (s : Sp) : (rd s).ok := by
  unfold rd
  split
  · rename_i h
    simp only [Bool.and_eq_true, decide_eq_true_eq] at h
    obtain ⟨⟨h1, h2⟩, h3⟩ := h
    refine ⟨h3, ?_, ?_⟩
    · unfold ends0 endB at *
      cases hn : s.nl <;> simp only [hn, if_true, Bool.false_eq_true, if_false, Bool.and_eq_true, decide_eq_true_eq] at *
      · unfold MX LEAST at *; omega
      · exact Int.le_refl _
    · unfold ends0 endB at *
      cases hn : s.nh <;> simp only [hn, if_true, Bool.false_eq_true, if_false, Bool.and_eq_true, decide_eq_true_eq] at *
      · unfold MX TOP at *; omega
      · exact Int.le_refl _
  · exact allE_ok
theorem rd_full : rd fullS = allE := rfl
theorem sp_all : sp allE = fullS := rfl
theorem rd_of (s : Sp) (h : soundB s = true) : rd s = ends0 s := by unfold rd; unfold soundB at h; rw [if_pos h]
theorem rd_no (s : Sp) (h : soundB s = false) : rd s = allE := by unfold rd; unfold soundB at h; rw [if_neg (by rw [h]; decide)]
theorem sp_ends (r : E) : (ends0 (sp r)).lo = (if r.lo < -MX then LEAST else min r.lo MX) ∧ (ends0 (sp r)).hi = (if r.hi > MX then TOP else max r.hi (-MX)) := by
  unfold ends0 sp
  constructor
  · by_cases h1 : r.lo < -MX
    · simp [h1]
    · simp [h1]
  · by_cases h1 : r.hi > MX
    · simp [h1]
    · simp [h1]
theorem sp_sound (r : E) (h : r.lo ≤ r.hi) : soundB (sp r) = true := by
  obtain ⟨e1, e2⟩ := sp_ends r
  unfold soundB
  rw [e1, e2]
  unfold sp endB
  simp only [Bool.and_eq_true]
  refine ⟨⟨?_, ?_⟩, ?_⟩
  · by_cases h1 : r.lo < -MX
    · simp [h1]
    · simp only [h1, decide_false, Bool.false_eq_true, if_false, Bool.and_eq_true, decide_eq_true_eq]
      unfold MX at *; omega
  · by_cases h1 : r.hi > MX
    · simp [h1]
    · simp only [h1, decide_false, Bool.false_eq_true, if_false, Bool.and_eq_true, decide_eq_true_eq]
      unfold MX at *; omega
  · rw [decide_eq_true_eq]
    unfold MX LEAST TOP at *
    split <;> split <;> omega
theorem rd_sp (r : E) (h : r.lo ≤ r.hi) : rd (sp r) = ⟨if r.lo < -MX then LEAST else min r.lo MX, if r.hi > MX then TOP else max r.hi (-MX)⟩ := by
  rw [rd_of _ (sp_sound r h)]
  obtain ⟨e1, e2⟩ := sp_ends r
  rw [← e1, ← e2]
/-- no number is lost -/
theorem rd_sp_has (r : E) (h : r.ok) {v : Int} (hv : r.has v) : (rd (sp r)).has v := by
  obtain ⟨h1, h2, h3⟩ := h
  obtain ⟨h4, h5⟩ := hv
  rw [rd_sp r h1]
  constructor
  · show (if r.lo < -MX then LEAST else min r.lo MX) ≤ v
    split <;> omega
  · show v ≤ (if r.hi > MX then TOP else max r.hi (-MX))
    split <;> omega
/-- small ends stand -/
theorem rd_sp_small (r : E) (h : r.lo ≤ r.hi) (h1 : -MX ≤ r.lo) (h2 : r.hi ≤ MX) : rd (sp r) = r := by
  rw [rd_sp r h, if_neg (by omega), if_neg (by omega)]
  cases r
  simp only [E.mk.injEq] at *
  omega

-- exact arithmetic
def fits (v : Int) : Option Int := if LEAST ≤ v ∧ v ≤ TOP then some v else none
def plusX (a b : Int) : Option Int := fits (a + b)
def minusX (a b : Int) : Option Int := fits (a - b)
def timesX (a b : Int) : Option Int := fits (a * b)
def quotX (a b : Int) : Option Int := fits (a.tdiv b)
def leftX (a c : Int) : Option Int := fits (a * 2 ^ c.toNat)
def rightX (a c : Int) : Option Int := some (a / 2 ^ c.toNat)

/-- the least and the greatest of what an arithmetic makes of both operands' ends -/
def cornX (by_ : Int → Int → Option Int) (a b : E) : Option E :=
  match by_ a.lo b.lo, by_ a.lo b.hi, by_ a.hi b.lo, by_ a.hi b.hi with
  | some p, some q, some r, some s => some ⟨min (min (min p q) r) s, max (max (max p q) r) s⟩
  | _, _, _, _ => none

/-- what the ends tell of signs: 1 none is below 0, 2 all are, 4 none is 0 -/
def sgX (r : E) : Int := if r.hi < 0 then 6 else if 0 < r.lo then 5 else if r.lo = 0 then 1 else 0
def tells (s q : Int) : Bool :=
  if q = 0 then true else if q = 1 then s == 1 || s == 5 else if q = 2 then s == 6 else if q = 4 then s == 5 || s == 6 else if q = 5 then s == 5 else false
theorem tells_0 (r : E) : tells (sgX r) 0 = true := rfl
theorem tells_1 (r : E) (h : r.lo ≤ r.hi) : tells (sgX r) 1 = decide (0 ≤ r.lo) := by
  unfold sgX; split
  · rw [show tells 6 1 = false from rfl]; exact (decide_eq_false (by omega)).symm
  · split
    · rw [show tells 5 1 = true from rfl]; exact (decide_eq_true (by omega)).symm
    · split
      · rw [show tells 1 1 = true from rfl]; exact (decide_eq_true (by omega)).symm
      · rw [show tells 0 1 = false from rfl]; exact (decide_eq_false (by omega)).symm
theorem tells_2 (r : E) : tells (sgX r) 2 = decide (r.hi < 0) := by
  unfold sgX; split
  · rw [show tells 6 2 = true from rfl]; exact (decide_eq_true (by omega)).symm
  · rw [decide_eq_false (by omega)]
    split
    · rfl
    · split <;> rfl
theorem tells_4 (r : E) : tells (sgX r) 4 = decide (0 < r.lo ∨ r.hi < 0) := by
  unfold sgX; split
  · rw [show tells 6 4 = true from rfl]; exact (decide_eq_true (by omega)).symm
  · split
    · rw [show tells 5 4 = true from rfl]; exact (decide_eq_true (by omega)).symm
    · rw [decide_eq_false (by omega)]
      split <;> rfl
theorem tells_5 (r : E) (h : r.lo ≤ r.hi) : tells (sgX r) 5 = decide (0 < r.lo) := by
  unfold sgX; split
  · rw [show tells 6 5 = false from rfl]; exact (decide_eq_false (by omega)).symm
  · split
    · rw [show tells 5 5 = true from rfl]; exact (decide_eq_true (by omega)).symm
    · rw [decide_eq_false (by omega)]
      split <;> rfl
theorem sgX_mem (r : E) : sgX r = 6 ∨ sgX r = 5 ∨ sgX r = 1 ∨ sgX r = 0 := by unfold sgX; split <;> (try split) <;> (try split) <;> simp

-- halves
def natE (k : Nat) : E := ⟨0, 2 ^ k - 1⟩
def intE (k : Nat) : E := ⟨-2 ^ (k - 1), 2 ^ (k - 1) - 1⟩
def lowE (r : E) : E := if r.lo / 4294967296 = r.hi / 4294967296 then ⟨r.lo % 4294967296, r.hi % 4294967296⟩ else ⟨0, 4294967295⟩
theorem lowE_ok (r : E) (h : r.lo ≤ r.hi) : (lowE r).lo ≤ (lowE r).hi ∧ 0 ≤ (lowE r).lo ∧ (lowE r).hi ≤ 4294967295 := by
  unfold lowE
  split
  · exact ⟨by show r.lo % 4294967296 ≤ r.hi % 4294967296; omega, by show 0 ≤ r.lo % 4294967296; omega, by show r.hi % 4294967296 ≤ 4294967295; omega⟩
  · decide
theorem lowE_has (r : E) {v : Int} (h : r.has v) : (lowE r).has (v % 4294967296) := by
  obtain ⟨h1, h2⟩ := h
  unfold lowE
  split
  · exact ⟨by show r.lo % 4294967296 ≤ v % 4294967296; omega, by show v % 4294967296 ≤ r.hi % 4294967296; omega⟩
  · exact ⟨by show 0 ≤ v % 4294967296; omega, by show v % 4294967296 ≤ 4294967295; omega⟩
/-- the low bits -/
def botE (k : Nat) (r : E) : E := if k = 64 then r else if k = 32 then lowE r else if withinB r (natE k) then r else natE k
def nzX (n : Bool) (r : E) : Bool := tells (sgX (if n then lowE r else r)) 4

end Go.Proofs.YtjhgjplhhhgfcaaGreat.Spn
