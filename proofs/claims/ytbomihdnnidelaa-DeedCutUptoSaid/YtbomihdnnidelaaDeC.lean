/- Package deed: bytes and numbers of which a function says whether they may stand there. Laid by wip/tools/mkdec.py. -/
import Derived.Test.YtbomihdnnidelaaDeB
namespace Go.Proofs.Ytbomihdnnidelaa
open Go.ChangeShapes Go.WideShapes Go.ChangeAt Go.RowKit
open Dee
set_option linter.unusedVariables false
set_option linter.unusedSimpArgs false
set_option maxRecDepth 100000
theorem Rd.at1 {w : World} {g : Nat} {A : Option Addr} {n c : Nat} {B L : List Int} (h : Rd w g A n c B L) : w.cell? ⟨g, 1, none⟩ = some (.int .i64 ((n - L.length : Nat) : Int)) := h.blk.cell 1
theorem numR_err {may : Int → Bool} {er : Int} {L : List Int} {x : Nat × Int} (h : groupsR L = .error x) : numR may er L = .error x := by unfold numR; rw [h]; rfl
theorem sgnR_err {may : Int → Bool} {er : Int} {L : List Int} {x : Nat × Int} (h : groupsR L = .error x) : sgnR may er L = .error x := by unfold sgnR; rw [h]; rfl
theorem grp_rng (fr f : Nat) : ∀ (L : List Int) (a x : Int) (t : List Int), f ≤ 9 → Bytes L → 0 ≤ a → a < 128 ^ (9 - f) → grp fr f a L = .ok (x, t) → 0 ≤ x ∧ x < 9223372036854775808 := by
  induction f with
  | zero => intro L a x t _ _ _ _ h; cases h
  | succ f ih =>
    intro L a x t hf hB ha ha1 h
    cases L with
    | nil => cases h
    | cons b s =>
      have hb := hB.head
      unfold grp at h
      rw [show 9 - (f + 1) = 8 - f by omega] at ha1
      have hle : ∀ y : Int, y < 128 → a + y * 128 ^ (8 - f) < 9223372036854775808 := fun y hy => by
        have h1 := grp_lt (8 - f) a y ha1 hy
        have h2 : (128 : Int) ^ (8 - f + 1) ≤ 128 ^ 9 := by
          have : (128 : Nat) ^ (8 - f + 1) ≤ 128 ^ 9 := Nat.pow_le_pow_right (by decide) (by omega)
          exact_mod_cast this
        rw [show (128 : Int) ^ 9 = 9223372036854775808 from rfl] at h2
        omega
      by_cases h1 : b < 128
      · rw [if_pos h1] at h
        by_cases h2 : 0 < b ∨ f = 8
        · rw [if_pos h2] at h
          injection h with h; injection h with e1 e2
          subst e1
          exact ⟨grp_nn _ _ _ ha hb.1, hle b h1⟩
        · rw [if_neg h2] at h; cases h
      · rw [if_neg h1] at h
        have h3 := grp_lt (8 - f) a (b - 128) ha1 (by omega)
        exact ih s _ x t (by omega) hB.tail (grp_nn _ _ _ ha (by omega)) (by rw [show 9 - f = 8 - f + 1 by omega]; exact h3) h
theorem groups_rng {L : List Int} {x : Int} {t : List Int} (hB : Bytes L) (h : groupsR L = .ok (x, t)) : 0 ≤ x ∧ x < 9223372036854775808 := grp_rng _ 9 L 0 x t (by decide) hB (by decide) (by decide) h
theorem grp_len (fr f : Nat) : ∀ (L : List Int) (a x : Int) (t : List Int), grp fr f a L = .ok (x, t) → t.length ≤ L.length := by
  induction f with
  | zero => intro L a x t h; cases h
  | succ f ih =>
    intro L a x t h
    cases L with
    | nil => cases h
    | cons b s =>
      unfold grp at h
      split at h
      · split at h
        · injection h with h; injection h with e1 e2; subst e2; simp
        · cases h
      · have := ih s _ x t h; simp; omega

set_option maxHeartbeats 1000000 in
theorem byte_any (w : World) (g : Nat) (A : Option Addr) (n c : Nat) (B L : List Int) (hn : n ≤ 4194304) (h : Rd w g A n c B L) (K : Nat) (may : Int → Bool) (er : Int)
    (hen : ∀ (a : Array Value) (W : World), (callFunc K a).run Try.prog W = .ok (.enter K a) W)
    (hf : ∀ b W, Touch g w W → Calls Try.prog K #[.int .i64 b] W fun e w' => e = .returned (.bool (may b)) ∧ W = w') :
    Calls Try.prog 84 #[.pointer (some ⟨g, 0, none⟩), .func (.func K) #[] #[], .int .i64 er] w (RdEnd i64V w g A n c B (byteR may er L)) := by
  have HR := Lib.hid h
  have HF := Lib.hid hf
  clear h hf
  go_enter Try.func84, Try.ntmps84
  go_wp2_with fail
  cases L with
  | nil =>
    refine (next_any _ g A n c B [] hn HR.out).mono ?_
    rintro e w1 ⟨hT, rfl⟩
    have HT := Lib.hid hT
    clear hT
    go_wp2_with fail
    exact ⟨rfl, RdEnd.bad rfl rfl HT.out⟩
  | cons b t =>
    refine (next_any _ g A n c B (b :: t) hn HR.out).mono ?_
    rintro e w1 ⟨hT, rfl, hR⟩
    unfold i64V
    have hle := hR.le
    have x1 := hR.at1
    have hl2 := HR.out.le
    simp only [List.length_cons] at hl2
    obtain ⟨p, hp⟩ : ∃ p : Nat, p = n - (t.length + 1) := ⟨_, rfl⟩
    rw [show n - t.length = p + 1 by omega] at x1
    have HPE := Lib.hid (show (p : Int) = ((n - (t.length + 1) : Nat) : Int) by rw [hp])
    have hpn : (p : Int) < 4194304 := by omega
    have HR1 := Lib.hid hR
    have HT := Lib.hid hT
    clear hT hR hp hle hl2
    have x2 : w1.cell? ⟨g, 1, none⟩ = some (.int .i64 ((p : Int) + 1)) := x1
    clear x1
    go_upto_region 2 with (fail)
    by_cases hm : may b = true
    · have HM := Lib.hid (show byteR may er (b :: t) = .ok (b, t) from if_pos hm)
      have HF1 := Lib.hid (fun W hT' => by have := HF.out b W hT'; rw [hm] at this; exact this : ∀ W, Touch g w W → Calls Try.prog K #[.int .i64 b] W fun e w' => e = .returned (.bool true) ∧ W = w')
      clear hm HF
      refine wp_region_tail 9 (by kernel_rfl) (by kernel_rfl) fun W hW => ?_
      simp only [List.take_succ_cons, List.take_zero, List.drop_succ_cons, List.drop_zero]
      have y1 : W.cell? ⟨g, 1, none⟩ = some (.int .i64 ((p : Int) + 1)) := by rw [hW]; exact x2
      have HTW := Lib.hid (show Touch g w W by rw [hW]; exact HT.out.trans (Touch.drewN w1 1))
      have HRW := Lib.hid (show Rd W g A n c B t by rw [hW]; exact HR1.out.drewN 1)
      clear x2 hW HT HR1
      iterate 2 still_step
      still_call ((HF1.out W HTW.out).mono fun _ _ h => ⟨h.1, h.2.symm⟩)
      iterate 6 still_step
      refine wpStill_nil ?_
      go_wp2_with fail
      refine (need_yes _ _ _).mono ?_
      rintro e w2 ⟨rfl, rfl⟩
      go_wp2_with fail
      go_ret
      exact RdEnd.mk HM.out rfl HRW.out HTW.out
    · have HM := Lib.hid (show byteR may er (b :: t) = .error ((b :: t).length, er) from if_neg hm)
      have hm2 : may b = false := by simpa using hm
      have HF1 := Lib.hid (fun W hT' => by have := HF.out b W hT'; rw [hm2] at this; exact this : ∀ W, Touch g w W → Calls Try.prog K #[.int .i64 b] W fun e w' => e = .returned (.bool false) ∧ W = w')
      clear hm HF hm2
      refine wp_region_tail 9 (by kernel_rfl) (by kernel_rfl) fun W hW => ?_
      simp only [List.take_succ_cons, List.take_zero, List.drop_succ_cons, List.drop_zero]
      have y1 : W.cell? ⟨g, 1, none⟩ = some (.int .i64 ((p : Int) + 1)) := by rw [hW]; exact x2
      have HTW := Lib.hid (show Touch g w W by rw [hW]; exact HT.out.trans (Touch.drewN w1 1))
      clear x2 hW HT HR1
      iterate 2 still_step
      still_call ((HF1.out W HTW.out).mono fun _ _ h => ⟨h.1, h.2.symm⟩)
      iterate 6 still_step
      refine wpStill_nil ?_
      go_wp2_with fail
      refine (need_no _ _ _).mono ?_
      rintro e w2 ⟨rfl, rfl⟩
      go_wp2_with fail
      exact ⟨rfl, RdEnd.bad HM.out (by rw [HPE.out]; rfl) HTW.out⟩

set_option maxHeartbeats 1000000 in
theorem byte_any1 (w : World) (g : Nat) (A : Option Addr) (n c : Nat) (B L : List Int) (hn : n ≤ 4194304) (h : Rd w g A n c B L) (K : Nat) (q : Addr) (may : Int → Bool) (er : Int)
    (hen : ∀ (a : Array Value) (W : World), (callFunc K a).run Try.prog W = .ok (.enter K a) W)
    (hf : ∀ b W, Touch g w W → Calls Try.prog K #[.int .i64 b, .pointer (some q)] W fun e w' => e = .returned (.bool (may b)) ∧ W = w') :
    Calls Try.prog 84 #[.pointer (some ⟨g, 0, none⟩), .func (.func K) #[] #[.pointer (some q)], .int .i64 er] w (RdEnd i64V w g A n c B (byteR may er L)) := by
  have HR := Lib.hid h
  have HF := Lib.hid hf
  clear h hf
  go_enter Try.func84, Try.ntmps84
  go_wp2_with fail
  cases L with
  | nil =>
    refine (next_any _ g A n c B [] hn HR.out).mono ?_
    rintro e w1 ⟨hT, rfl⟩
    have HT := Lib.hid hT
    clear hT
    go_wp2_with fail
    exact ⟨rfl, RdEnd.bad rfl rfl HT.out⟩
  | cons b t =>
    refine (next_any _ g A n c B (b :: t) hn HR.out).mono ?_
    rintro e w1 ⟨hT, rfl, hR⟩
    unfold i64V
    have hle := hR.le
    have x1 := hR.at1
    have hl2 := HR.out.le
    simp only [List.length_cons] at hl2
    obtain ⟨p, hp⟩ : ∃ p : Nat, p = n - (t.length + 1) := ⟨_, rfl⟩
    rw [show n - t.length = p + 1 by omega] at x1
    have HPE := Lib.hid (show (p : Int) = ((n - (t.length + 1) : Nat) : Int) by rw [hp])
    have hpn : (p : Int) < 4194304 := by omega
    have HR1 := Lib.hid hR
    have HT := Lib.hid hT
    clear hT hR hp hle hl2
    have x2 : w1.cell? ⟨g, 1, none⟩ = some (.int .i64 ((p : Int) + 1)) := x1
    clear x1
    go_upto_region 2 with (fail)
    by_cases hm : may b = true
    · have HM := Lib.hid (show byteR may er (b :: t) = .ok (b, t) from if_pos hm)
      have HF1 := Lib.hid (fun W hT' => by have := HF.out b W hT'; rw [hm] at this; exact this : ∀ W, Touch g w W → Calls Try.prog K #[.int .i64 b, .pointer (some q)] W fun e w' => e = .returned (.bool true) ∧ W = w')
      clear hm HF
      refine wp_region_tail 9 (by kernel_rfl) (by kernel_rfl) fun W hW => ?_
      simp only [List.take_succ_cons, List.take_zero, List.drop_succ_cons, List.drop_zero]
      have y1 : W.cell? ⟨g, 1, none⟩ = some (.int .i64 ((p : Int) + 1)) := by rw [hW]; exact x2
      have HTW := Lib.hid (show Touch g w W by rw [hW]; exact HT.out.trans (Touch.drewN w1 1))
      have HRW := Lib.hid (show Rd W g A n c B t by rw [hW]; exact HR1.out.drewN 1)
      clear x2 hW HT HR1
      iterate 2 still_step
      still_call ((HF1.out W HTW.out).mono fun _ _ h => ⟨h.1, h.2.symm⟩)
      iterate 6 still_step
      refine wpStill_nil ?_
      go_wp2_with fail
      refine (need_yes _ _ _).mono ?_
      rintro e w2 ⟨rfl, rfl⟩
      go_wp2_with fail
      go_ret
      exact RdEnd.mk HM.out rfl HRW.out HTW.out
    · have HM := Lib.hid (show byteR may er (b :: t) = .error ((b :: t).length, er) from if_neg hm)
      have hm2 : may b = false := by simpa using hm
      have HF1 := Lib.hid (fun W hT' => by have := HF.out b W hT'; rw [hm2] at this; exact this : ∀ W, Touch g w W → Calls Try.prog K #[.int .i64 b, .pointer (some q)] W fun e w' => e = .returned (.bool false) ∧ W = w')
      clear hm HF hm2
      refine wp_region_tail 9 (by kernel_rfl) (by kernel_rfl) fun W hW => ?_
      simp only [List.take_succ_cons, List.take_zero, List.drop_succ_cons, List.drop_zero]
      have y1 : W.cell? ⟨g, 1, none⟩ = some (.int .i64 ((p : Int) + 1)) := by rw [hW]; exact x2
      have HTW := Lib.hid (show Touch g w W by rw [hW]; exact HT.out.trans (Touch.drewN w1 1))
      clear x2 hW HT HR1
      iterate 2 still_step
      still_call ((HF1.out W HTW.out).mono fun _ _ h => ⟨h.1, h.2.symm⟩)
      iterate 6 still_step
      refine wpStill_nil ?_
      go_wp2_with fail
      refine (need_no _ _ _).mono ?_
      rintro e w2 ⟨rfl, rfl⟩
      go_wp2_with fail
      exact ⟨rfl, RdEnd.bad HM.out (by rw [HPE.out]; rfl) HTW.out⟩

set_option maxHeartbeats 1000000 in
theorem number_any (w : World) (g : Nat) (A : Option Addr) (n c : Nat) (B L : List Int) (hn : n ≤ 4194304) (h : Rd w g A n c B L) (K : Nat) (may : Int → Bool) (er : Int)
    (hen : ∀ (a : Array Value) (W : World), (callFunc K a).run Try.prog W = .ok (.enter K a) W)
    (hf : ∀ b W, Touch g w W → Calls Try.prog K #[.int .i64 b] W fun e w' => e = .returned (.bool (may b)) ∧ W = w') :
    Calls Try.prog 81 #[.pointer (some ⟨g, 0, none⟩), .func (.func K) #[] #[], .int .i64 er] w (RdEnd i64V w g A n c B (numR may er L)) := by
  have HR := Lib.hid h
  have HF := Lib.hid hf
  have x1 := h.at1
  obtain ⟨p, hp⟩ : ∃ p : Nat, p = n - L.length := ⟨_, rfl⟩
  rw [← hp] at x1
  have HPE := Lib.hid (show (p : Int) = ((n - L.length : Nat) : Int) by rw [hp])
  clear h hf hp
  go_enter Try.func81, Try.ntmps81
  go_wp2_with fail
  refine (groups_any _ g A n c B L hn HR.out).mono ?_
  intro e w1 hE
  clear x1
  cases hg : groupsR L with
  | error x =>
    obtain ⟨lf, er'⟩ := x
    obtain ⟨rfl, hT⟩ := hE.no hg
    have HT := Lib.hid hT
    have HE := Lib.hid (numR_err (may := may) (er := er) hg)
    clear hT hg hE
    go_wp2_with fail
    exact ⟨rfl, RdEnd.bad HE.out rfl HT.out⟩
  | ok x =>
    obtain ⟨m, t⟩ := x
    obtain ⟨rfl, hR, hT⟩ := hE.ok hg
    unfold i64V
    have HT := Lib.hid hT
    have HR1 := Lib.hid hR
    have hE2 : numR may er L = if may m = true then .ok (m, t) else .error (L.length, er) := by unfold numR; rw [hg]; rfl
    clear hT hR hg hE
    go_upto_region 3 with (fail)
    by_cases hm : may m = true
    · rw [if_pos hm] at hE2
      have HE := Lib.hid hE2
      have HF1 := Lib.hid (fun W hT' => by have := HF.out m W hT'; rw [hm] at this; exact this : ∀ W, Touch g w W → Calls Try.prog K #[.int .i64 m] W fun e w' => e = .returned (.bool true) ∧ W = w')
      clear hm HF hE2
      go_wp2_with fail
      refine (HF1.out _ HT.out).mono ?_
      rintro e w2 ⟨rfl, rfl⟩
      go_wp2_with fail
      go_at_call 61
      refine (need_yes _ _ _).mono ?_
      rintro e w2 ⟨rfl, rfl⟩
      go_wp2_with fail
      go_ret
      exact RdEnd.mk HE.out rfl HR1.out HT.out
    · rw [if_neg hm] at hE2
      have HE := Lib.hid hE2
      have hm2 : may m = false := by simpa using hm
      have HF1 := Lib.hid (fun W hT' => by have := HF.out m W hT'; rw [hm2] at this; exact this : ∀ W, Touch g w W → Calls Try.prog K #[.int .i64 m] W fun e w' => e = .returned (.bool false) ∧ W = w')
      clear hm HF hE2 hm2
      go_wp2_with fail
      refine (HF1.out _ HT.out).mono ?_
      rintro e w2 ⟨rfl, rfl⟩
      go_wp2_with fail
      go_at_call 61
      refine (need_no _ _ _).mono ?_
      rintro e w2 ⟨rfl, rfl⟩
      go_wp2_with fail
      exact ⟨rfl, RdEnd.bad HE.out (by rw [HPE.out]) HT.out⟩

set_option maxHeartbeats 1000000 in
theorem number_any1 (w : World) (g : Nat) (A : Option Addr) (n c : Nat) (B L : List Int) (hn : n ≤ 4194304) (h : Rd w g A n c B L) (K : Nat) (q : Addr) (may : Int → Bool) (er : Int)
    (hen : ∀ (a : Array Value) (W : World), (callFunc K a).run Try.prog W = .ok (.enter K a) W)
    (hf : ∀ b W, Touch g w W → Calls Try.prog K #[.int .i64 b, .pointer (some q)] W fun e w' => e = .returned (.bool (may b)) ∧ W = w') :
    Calls Try.prog 81 #[.pointer (some ⟨g, 0, none⟩), .func (.func K) #[] #[.pointer (some q)], .int .i64 er] w (RdEnd i64V w g A n c B (numR may er L)) := by
  have HR := Lib.hid h
  have HF := Lib.hid hf
  have x1 := h.at1
  obtain ⟨p, hp⟩ : ∃ p : Nat, p = n - L.length := ⟨_, rfl⟩
  rw [← hp] at x1
  have HPE := Lib.hid (show (p : Int) = ((n - L.length : Nat) : Int) by rw [hp])
  clear h hf hp
  go_enter Try.func81, Try.ntmps81
  go_wp2_with fail
  refine (groups_any _ g A n c B L hn HR.out).mono ?_
  intro e w1 hE
  clear x1
  cases hg : groupsR L with
  | error x =>
    obtain ⟨lf, er'⟩ := x
    obtain ⟨rfl, hT⟩ := hE.no hg
    have HT := Lib.hid hT
    have HE := Lib.hid (numR_err (may := may) (er := er) hg)
    clear hT hg hE
    go_wp2_with fail
    exact ⟨rfl, RdEnd.bad HE.out rfl HT.out⟩
  | ok x =>
    obtain ⟨m, t⟩ := x
    obtain ⟨rfl, hR, hT⟩ := hE.ok hg
    unfold i64V
    have HT := Lib.hid hT
    have HR1 := Lib.hid hR
    have hE2 : numR may er L = if may m = true then .ok (m, t) else .error (L.length, er) := by unfold numR; rw [hg]; rfl
    clear hT hR hg hE
    go_upto_region 3 with (fail)
    by_cases hm : may m = true
    · rw [if_pos hm] at hE2
      have HE := Lib.hid hE2
      have HF1 := Lib.hid (fun W hT' => by have := HF.out m W hT'; rw [hm] at this; exact this : ∀ W, Touch g w W → Calls Try.prog K #[.int .i64 m, .pointer (some q)] W fun e w' => e = .returned (.bool true) ∧ W = w')
      clear hm HF hE2
      go_wp2_with fail
      refine (HF1.out _ HT.out).mono ?_
      rintro e w2 ⟨rfl, rfl⟩
      go_wp2_with fail
      go_at_call 61
      refine (need_yes _ _ _).mono ?_
      rintro e w2 ⟨rfl, rfl⟩
      go_wp2_with fail
      go_ret
      exact RdEnd.mk HE.out rfl HR1.out HT.out
    · rw [if_neg hm] at hE2
      have HE := Lib.hid hE2
      have hm2 : may m = false := by simpa using hm
      have HF1 := Lib.hid (fun W hT' => by have := HF.out m W hT'; rw [hm2] at this; exact this : ∀ W, Touch g w W → Calls Try.prog K #[.int .i64 m, .pointer (some q)] W fun e w' => e = .returned (.bool false) ∧ W = w')
      clear hm HF hE2 hm2
      go_wp2_with fail
      refine (HF1.out _ HT.out).mono ?_
      rintro e w2 ⟨rfl, rfl⟩
      go_wp2_with fail
      go_at_call 61
      refine (need_no _ _ _).mono ?_
      rintro e w2 ⟨rfl, rfl⟩
      go_wp2_with fail
      exact ⟨rfl, RdEnd.bad HE.out (by rw [HPE.out]) HT.out⟩

theorem and1 (x : Int) : bits BinOp.and IntKind.i64 x 1 = x % 2 := and_lowI x 1 (by decide)
set_option maxHeartbeats 1000000 in
theorem signed_deed (w : World) (g : Nat) (A : Option Addr) (n c : Nat) (B L : List Int) (hn : n ≤ 4194304) (h : Rd w g A n c B L) (K : Nat) (may : Int → Bool) (er : Int)
    (hen : ∀ (a : Array Value) (W : World), (callFunc K a).run Try.prog W = .ok (.enter K a) W)
    (hf : ∀ b W, Touch g w W → Calls Try.prog K #[.int .i64 b] W fun e w' => e = .returned (.bool (may b)) ∧ W = w') :
    Calls Try.prog 83 #[.pointer (some ⟨g, 0, none⟩), .func (.func K) #[] #[], .int .i64 er] w (RdEnd i64V w g A n c B (sgnR may er L)) := by
  have HR := Lib.hid h
  have HF := Lib.hid hf
  have x1 := h.at1
  obtain ⟨p, hp⟩ : ∃ p : Nat, p = n - L.length := ⟨_, rfl⟩
  rw [← hp] at x1
  have HPE := Lib.hid (show (p : Int) = ((n - L.length : Nat) : Int) by rw [hp])
  clear h hf hp
  go_enter Try.func83, Try.ntmps83
  go_wp2_with fail
  refine (groups_any _ g A n c B L hn HR.out).mono ?_
  intro e w1 hE
  clear x1
  cases hg : groupsR L with
  | error x =>
    obtain ⟨lf, er'⟩ := x
    obtain ⟨rfl, hT⟩ := hE.no hg
    have HT := Lib.hid hT
    have HE := Lib.hid (sgnR_err (may := may) (er := er) hg)
    clear hT hg hE
    go_wp2_with fail
    exact ⟨rfl, RdEnd.bad HE.out rfl HT.out⟩
  | ok x =>
    obtain ⟨m, t⟩ := x
    obtain ⟨rfl, hR, hT⟩ := hE.ok hg
    unfold i64V
    have hm0 := groups_rng HR.out.byteL hg
    obtain ⟨hm1, hm2⟩ := hm0
    have HT := Lib.hid hT
    have HR1 := Lib.hid hR
    have hE2 : sgnR may er L = if may (unz m) = true then .ok (unz m, t) else .error (L.length, er) := by unfold sgnR; rw [hg]; rfl
    clear hT hR hg hE
    have hA := and1 m
    have HU := Lib.hid (show unz m = if m % 2 = 0 then m / 2 else -(m / 2) - 1 from rfl)
    obtain ⟨u, hu⟩ : ∃ u, u = unz m := ⟨_, rfl⟩
    rw [← hu] at hE2 HU
    have HE2 := Lib.hid hE2
    clear hu hE2
    go_upto_if 17 with (fail)
    go_cut [8] (fun s8 wx => ∃ v : Int, s8 = .int .i64 v ∧ v = u ∧ wx = w1)
    case first =>
      by_cases h2 : m % 2 = 0
      · have t2 : (m % 2 == 0) = true := by rw [beq_iff_eq]; exact h2
        have HV := Lib.hid (show m / 2 = u by rw [HU.out, if_pos h2])
        clear h2 HU
        go_wp2_with fail
        go_meet
        case rel => exact ⟨_, rfl, HV.out, rfl⟩
      · have t2 : (m % 2 == 0) = false := by rw [beq_eq_false_iff_ne]; exact h2
        have HV := Lib.hid (show -(m / 2) - 1 = u by rw [HU.out, if_neg h2])
        have hd0 : 0 ≤ m / 2 := by omega
        have hd1 : m / 2 ≤ 4611686018427387904 := by omega
        clear h2 HU
        go_wp2_with fail
        go_meet
        case rel => exact ⟨_, rfl, HV.out, rfl⟩
    case rest =>
      obtain ⟨v, rfl, rfl, rfl⟩ := hcut
      clear HU hA
      have hE2 := HE2.out
      go_upto_region 6 with (fail)
      by_cases hm : may v = true
      · rw [if_pos hm] at hE2
        have HE := Lib.hid hE2
        have HF1 := Lib.hid (fun W hT' => by have := HF.out v W hT'; rw [hm] at this; exact this : ∀ W, Touch g w W → Calls Try.prog K #[.int .i64 v] W fun e w' => e = .returned (.bool true) ∧ W = w')
        clear hm HF hE2 HE2
        go_wp2_with fail
        refine (HF1.out _ HT.out).mono ?_
        rintro e w2 ⟨rfl, rfl⟩
        go_wp2_with fail
        go_at_call 61
        refine (need_yes _ _ _).mono ?_
        rintro e w2 ⟨rfl, rfl⟩
        go_wp2_with fail
        go_ret
        exact RdEnd.mk HE.out rfl HR1.out HT.out
      · rw [if_neg hm] at hE2
        have HE := Lib.hid hE2
        have hm2 : may v = false := by simpa using hm
        have HF1 := Lib.hid (fun W hT' => by have := HF.out v W hT'; rw [hm2] at this; exact this : ∀ W, Touch g w W → Calls Try.prog K #[.int .i64 v] W fun e w' => e = .returned (.bool false) ∧ W = w')
        clear hm HF hE2 HE2 hm2
        go_wp2_with fail
        refine (HF1.out _ HT.out).mono ?_
        rintro e w2 ⟨rfl, rfl⟩
        go_wp2_with fail
        go_at_call 61
        refine (need_no _ _ _).mono ?_
        rintro e w2 ⟨rfl, rfl⟩
        go_wp2_with fail
        exact ⟨rfl, RdEnd.bad HE.out (by rw [HPE.out]) HT.out⟩
end Go.Proofs.Ytbomihdnnidelaa
