/- Package pack: results that lie in variables; the small functions of the reader. -/
import Derived.Test.YtkfcfoidaalnlaaPkI
namespace Go.Proofs.Ytkfcfoidaalnlaa.Pak
open Go.ChangeShapes Go.WideShapes Go.ChangeAt Go.RowKit
set_option linter.unusedVariables false
set_option linter.unusedSimpArgs false
set_option maxRecDepth 100000
theorem load_seg {P : Program} (w : World) (g : Nat) (t ty : TypeId) (n : Nat) (f : Nat → Value) (d : TypeDesc) (hg : FB w g t n f)
    (hu : P.underlying ty = some d) (hd : (match d with | .struct _ | .array _ _ => true | _ => false) = true) (hi : (P.info? ty).map (·.size) = some n) :
    (loadVar ty ⟨g, 0, none⟩).run P w = .ok (.agg (arr n f)) w := by
  rw [run_loadVar_seg w g 0 t ty n n f d hg (by omega) hu hd hi, arr_congr (g := f) (fun k _ => by rw [Nat.zero_add])]
theorem result_cc {P : Program} {fn : Func} {p q : Tmp} {ty ty2 : TypeId} (h : fn.results = #[.cell p ty, .cell q ty2]) (tmps : Array Value) (w : World) (g g2 : Nat) (t t2 : TypeId) (n n2 : Nat) (f f2 : Nat → Value) (d d2 : TypeDesc)
    (hp : tmps.getD p undef = .pointer (some ⟨g, 0, none⟩)) (hg : FB w g t n f) (hu : P.underlying ty = some d) (hd : (match d with | .struct _ | .array _ _ => true | _ => false) = true) (hi : (P.info? ty).map (·.size) = some n)
    (hp2 : tmps.getD q undef = .pointer (some ⟨g2, 0, none⟩)) (hg2 : FB w g2 t2 n2 f2) (hu2 : P.underlying ty2 = some d2) (hd2 : (match d2 with | .struct _ | .array _ _ => true | _ => false) = true) (hi2 : (P.info? ty2).map (·.size) = some n2) :
    (results fn tmps).run P w = .ok (.tuple #[.agg (arr n f), .agg (arr n2 f2)]) w := by
  have hp' : tmps[p]?.getD undef = .pointer (some ⟨g, 0, none⟩) := by simpa using hp
  have hp2' : tmps[q]?.getD undef = .pointer (some ⟨g2, 0, none⟩) := by simpa using hp2
  simp [results, h, hp', hp2', asAddr, load_seg w g t ty n f d hg hu hd hi, load_seg w g2 t2 ty2 n2 f2 d2 hg2 hu2 hd2 hi2]
theorem result_tc {P : Program} {fn : Func} {p q : Tmp} {ty : TypeId} (h : fn.results = #[.tmp p, .cell q ty]) (tmps : Array Value) (w : World) (v : Value) (g : Nat) (t : TypeId) (n : Nat) (f : Nat → Value) (d : TypeDesc)
    (hp : tmps.getD p undef = v) (hq : tmps.getD q undef = .pointer (some ⟨g, 0, none⟩)) (hg : FB w g t n f) (hu : P.underlying ty = some d) (hd : (match d with | .struct _ | .array _ _ => true | _ => false) = true) (hi : (P.info? ty).map (·.size) = some n) :
    (results fn tmps).run P w = .ok (.tuple #[v, .agg (arr n f)]) w := by
  have hp' : tmps[p]?.getD undef = v := by simpa using hp
  have hq' : tmps[q]?.getD undef = .pointer (some ⟨g, 0, none⟩) := by simpa using hq
  simp [results, h, hp', hq', asAddr, load_seg w g t ty n f d hg hu hd hi]
theorem result_ctt {P : Program} {fn : Func} {p q r : Tmp} {ty : TypeId} (h : fn.results = #[.cell p ty, .tmp q, .tmp r]) (tmps : Array Value) (w : World) (v u : Value) (g : Nat) (t : TypeId) (n : Nat) (f : Nat → Value) (d : TypeDesc)
    (hp : tmps.getD p undef = .pointer (some ⟨g, 0, none⟩)) (hg : FB w g t n f) (hu : P.underlying ty = some d) (hd : (match d with | .struct _ | .array _ _ => true | _ => false) = true) (hi : (P.info? ty).map (·.size) = some n)
    (hq : tmps.getD q undef = v) (hr : tmps.getD r undef = u) :
    (results fn tmps).run P w = .ok (.tuple #[.agg (arr n f), v, u]) w := by
  have hp' : tmps[p]?.getD undef = .pointer (some ⟨g, 0, none⟩) := by simpa using hp
  have hq' : tmps[q]?.getD undef = v := by simpa using hq
  have hr' : tmps[r]?.getD undef = u := by simpa using hr
  simp [results, h, hp', hq', hr', asAddr, load_seg w g t ty n f d hg hu hd hi]
/-- a fault: the byte, the error -/
def ftF (a e : Int) : Nat → Value
  | 0 => .int .i64 a
  | _ => .int .i64 e
theorem ftF_one (a e : Int) : ∀ q, q < 2 → (ftF a e q).oneCell' = true := fun q hq => by
  rcases (show q = 0 ∨ q = 1 by omega) with rfl | rfl <;> rfl
theorem sizeFt : (Try.prog.info? 67).map (·.size) = some 2 := by kernel_rfl
theorem zeroFt : (Try.prog.info? 67).bind (fun i => i.zero.map Value.cells) = some (arr 2 (ftF 0 0)) := by kernel_rfl
theorem ft_arr (a e : Int) : (#[Value.int .i64 a, Value.int .i64 e] : Array Value) = arr 2 (ftF a e) := rfl
/-- the reader: its bytes, the place, the last kind -/
def rdF (A : Option Addr) (n : Nat) (p last : Int) : Nat → Value
  | 0 => .slice A n n
  | 1 => .int .i64 p
  | _ => .int .i64 last
set_option maxHeartbeats 1000000 in
theorem follows_any (last kind : Int) (w : World) : Calls Try.prog 55 #[.int .i64 last, .int .i64 kind] w fun e w' => e = .returned (.bool (follows last kind)) ∧ w = w' := by
  go_enter Try.func55, Try.ntmps55
  unfold follows
  by_cases h0 : last = 0
  · have t0 : (last == 0) = true := by rw [h0]; rfl
    rw [if_pos h0]
    have HH := Lib.hid h0
    clear h0
    have HK := Lib.hid (show (kind == 1) = decide (kind = 1) from rfl)
    go_wp2_with fail
    go_ret
    exact ⟨rfl, rfl⟩
  · have t0 : (last == 0) = false := by rw [beq_eq_false_iff_ne]; exact h0
    rw [if_neg h0]
    clear h0
    cases h1 : decide (last < kind)
    · go_wp2_with fail
      go_ret
      exact ⟨rfl, rfl⟩
    · cases h2 : decide (kind ≤ 4)
      · go_wp2_with fail
        go_ret
        exact ⟨rfl, rfl⟩
      · go_wp2_with fail
        go_ret
        exact ⟨rfl, rfl⟩
set_option maxHeartbeats 2000000 in
theorem uncounted_any (kind n : Int) (hn : 0 ≤ n) (w : World) : Calls Try.prog 56 #[.int .i64 kind, .int .i64 n] w fun e w' => e = .returned (.int .i64 (uncounted kind n)) ∧ w = w' := by
  obtain ⟨r, hr⟩ : ∃ r, r = uncounted kind n := ⟨_, rfl⟩
  rw [← hr]
  unfold uncounted at hr
  go_enter Try.func56, Try.ntmps56
  by_cases h0 : n = 0
  · rw [if_pos (Or.inl h0)] at hr
    have t0 : (n == 0) = true := by rw [h0]; rfl
    subst hr
    clear h0
    go_wp2_with fail
    go_ret
    exact ⟨rfl, rfl⟩
  have t0 : (n == 0) = false := by rw [beq_eq_false_iff_ne]; exact h0
  by_cases k1 : kind = 1
  · subst k1
    by_cases h4 : n = 4
    · subst h4
      rw [if_neg (by decide), if_neg (by decide), if_neg (by decide)] at hr
      subst hr
      clear h0 t0
      go_wp2_with fail
      go_ret
      exact ⟨rfl, rfl⟩
    · rw [if_pos (Or.inr (Or.inl ⟨rfl, h4⟩))] at hr
      have t4 : (n != 4) = true := by rw [bne_iff_ne]; exact h4
      subst hr
      clear h0 h4
      go_wp2_with fail
      go_ret
      exact ⟨rfl, rfl⟩
  have tk1 : (kind == 1) = false := by rw [beq_eq_false_iff_ne]; exact k1
  by_cases k2 : kind = 2
  · subst k2
    by_cases h2 : n % 2 = 0
    · rw [if_neg (by omega)] at hr
      have t2 : (n % 2 != 0) = false := by rw [h2]; rfl
      by_cases h16 : 16 < n
      · rw [if_pos ⟨rfl, h16⟩] at hr
        have t16 : decide (16 < n) = true := decide_eq_true h16
        subst hr
        clear h0 h2 h16 k1
        go_wp2_with fail
        go_ret
        exact ⟨rfl, rfl⟩
      · rw [if_neg (by omega), if_neg (by omega)] at hr
        have t16 : decide (16 < n) = false := decide_eq_false h16
        subst hr
        clear h0 h2 h16 k1
        go_wp2_with fail
        go_ret
        exact ⟨rfl, rfl⟩
    · rw [if_pos (Or.inr (Or.inr ⟨rfl, h2⟩))] at hr
      have t2 : (n % 2 != 0) = true := by rw [bne_iff_ne]; exact h2
      subst hr
      clear h0 h2 k1
      go_wp2_with fail
      go_ret
      exact ⟨rfl, rfl⟩
  have tk2 : (kind == 2) = false := by rw [beq_eq_false_iff_ne]; exact k2
  rw [if_neg (by omega), if_neg (by omega)] at hr
  by_cases k3 : kind = 3
  · subst k3
    by_cases h5 : 4096 < n
    · rw [if_pos ⟨rfl, h5⟩] at hr
      have t5 : decide (4096 < n) = true := decide_eq_true h5
      subst hr
      clear h0 h5 k1 k2
      go_wp2_with fail
      go_ret
      exact ⟨rfl, rfl⟩
    · rw [if_neg (by omega)] at hr
      have t5 : decide (4096 < n) = false := decide_eq_false h5
      subst hr
      clear h0 h5 k1 k2
      go_wp2_with fail
      go_ret
      exact ⟨rfl, rfl⟩
  · have tk3 : (kind == 3) = false := by rw [beq_eq_false_iff_ne]; exact k3
    rw [if_neg (by omega)] at hr
    subst hr
    clear h0 k1 k2 k3
    go_wp2_with fail
    go_ret
    exact ⟨rfl, rfl⟩
end Go.Proofs.Ytkfcfoidaalnlaa.Pak
