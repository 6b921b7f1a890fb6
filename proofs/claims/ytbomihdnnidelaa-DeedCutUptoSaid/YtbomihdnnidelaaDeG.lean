/- Package deed: a claim's constraints and slots. -/
import Derived.Test.YtbomihdnnidelaaDeF
namespace Go.Proofs.Ytbomihdnnidelaa
open Go.ChangeShapes Go.WideShapes Go.ChangeAt Go.RowKit
open Dee
set_option linter.unusedVariables false
set_option linter.unusedSimpArgs false
set_option maxRecDepth 100000
theorem touch_grown {w w' : World} {row : Option Nat} (h : w.grownBy w' row) {k : Nat} (hk : ∀ b, row = some b → b = k) : Touch k w w' :=
  ⟨h.os, h.tape, h.output, h.size, fun i hi hne => h.block i hi fun e => hne (hk i e.symm)⟩
theorem below_grown {w w' : World} (h : w.grownBy w' none) : Below w.heap.size w w' := ⟨h.os, h.tape, h.output, h.size, fun i hi => h.block i hi (by simp)⟩
theorem Rd.grown {w w' : World} {g : Nat} {A : Option Addr} {n c : Nat} {B L : List Int} {row : Option Nat} (h : Rd w g A n c B L) (hg : w.grownBy w' row) (hr : ∀ b, row = some b → g < b) : Rd w' g A n c B L := by
  cases row with
  | none => exact h.up (below_grown hg)
  | some k => exact h.far (hr k rfl) (touch_grown hg fun b e => by injection e with e; exact e.symm)
theorem Touch.grown {w0 w w' : World} {g : Nat} {row : Option Nat} (h : Touch g w0 w) (hg : w.grownBy w' row) (hr : ∀ b, row = some b → w0.heap.size ≤ b) : Touch g w0 w' := by
  cases row with
  | none => exact h.up (below_grown hg)
  | some k => exact h.own (hr k rfl) (touch_grown hg fun b e => by injection e with e; exact e.symm)
theorem OwnR.lo {α : Type} {e : TypeId} {s : Nat} {f : α → Nat → Value} {w : World} {base : Nat} {v : Value} {l : List α} (h : OwnR e s f w base v l) {b : Nat} (hb : v.ownBlock = some b) : base ≤ b ∧ b < w.heap.size := World.ownsRow.lt h b hb
theorem OwnR.ne {α : Type} {e t : TypeId} {s : Nat} {f : α → Nat → Value} {w : World} {base g : Nat} {v : Value} {l : List α} {cs : Array Value} (h : OwnR e s f w base v l) (hg : Blk w g t cs) (hne : e ≠ t) : v.ownBlock ≠ some g := own_blk_ne h hg hne
/-- how a reader of a list ends -/
def ListEnd {α : Type} (ty : TypeId) (s : Nat) (f : α → Nat → Value) (w : World) (g : Nat) (A : Option Addr) (n c : Nat) (B : List Int) (r : Rs (List α)) (e : Ending) (w' : World) : Prop :=
  Touch g w w' ∧ match r with
  | .ok (l, t) => ∃ v, e = .returned v ∧ OwnR ty s f w' w.heap.size v l ∧ Rd w' g A n c B t
  | .error (lf, er) => e = .panicked (fltV ((n - lf : Nat) : Int) er)
section
variable {α : Type} {ty : TypeId} {s : Nat} {f : α → Nat → Value} {w w' : World} {g : Nat} {A : Option Addr} {n c : Nat} {B : List Int} {r : Rs (List α)} {e : Ending}
theorem ListEnd.ok {l : List α} {t : List Int} (h : ListEnd ty s f w g A n c B r e w') (hr : r = .ok (l, t)) : ∃ v, e = .returned v ∧ OwnR ty s f w' w.heap.size v l ∧ Rd w' g A n c B t ∧ Touch g w w' := by
  subst hr
  obtain ⟨h1, v, h2, h3, h4⟩ := h
  exact ⟨v, h2, h3, h4, h1⟩
theorem ListEnd.no {lf : Nat} {er : Int} (h : ListEnd ty s f w g A n c B r e w') (hr : r = .error (lf, er)) : e = .panicked (fltV ((n - lf : Nat) : Int) er) ∧ Touch g w w' := by
  subst hr
  exact ⟨h.2, h.1⟩
theorem ListEnd.mk {l : List α} {t : List Int} {v : Value} (hr : r = .ok (l, t)) (h1 : e = .returned v) (h2 : OwnR ty s f w' w.heap.size v l) (h3 : Rd w' g A n c B t) (h4 : Touch g w w') : ListEnd ty s f w g A n c B r e w' := by
  subst hr
  exact ⟨h4, v, h1, h2, h3⟩
theorem ListEnd.bad {lf : Nat} {er : Int} (hr : r = .error (lf, er)) (h1 : e = .panicked (fltV ((n - lf : Nat) : Int) er)) (h4 : Touch g w w') : ListEnd ty s f w g A n c B r e w' := by
  subst hr
  exact ⟨h4, h1⟩
end
theorem countR_err {α : Type} {m : Int} {p : List α → List Int → Rs α} {L : List Int} {x : Nat × Int} (h : numR (mostB m) 112 L = .error x) : countR m p L = .error x := by unfold countR; rw [h]; rfl
theorem numR_rng {may : Int → Bool} {er : Int} {L : List Int} {x : Int} {t : List Int} (hB : Bytes L) (h : numR may er L = .ok (x, t)) : 0 ≤ x ∧ may x = true := by
  unfold numR at h
  cases hg : groupsR L with
  | error y => rw [hg] at h; cases h
  | ok y =>
    obtain ⟨m, s⟩ := y
    rw [hg, bnd_ok] at h
    by_cases hm : may m = true
    · rw [if_pos hm] at h
      injection h with h; injection h with e1 e2
      subst e1
      exact ⟨(groups_rng hB hg).1, hm⟩
    · rw [if_neg hm] at h; cases h
theorem count_fits {m : Nat} {L : List Int} {x : Int} {t : List Int} (hB : Bytes L) (h : numR (mostB m) 112 L = .ok (x, t)) : ∃ k : Nat, x = k ∧ k ≤ m := by
  obtain ⟨h1, h2⟩ := numR_rng hB h
  unfold mostB at h2
  exact ⟨x.toNat, by omega, by have := of_decide_eq_true h2; omega⟩
theorem infCon : (Try.prog.info? 63).map (fun i => (i.zero.map Value.cells, i.size, i.bytes)) = some (some (arr 3 (coF ⟨0, 0, 0⟩)), 3, 24) := by kernel_rfl
set_option maxHeartbeats 4000000 in
theorem cons_any (w : World) (g : Nat) (A : Option Addr) (n c : Nat) (B L : List Int) (hn : n ≤ 4194304) (h : Rd w g A n c B L) :
    Calls Try.prog 88 #[.pointer (some ⟨g, 0, none⟩)] w (ListEnd 63 3 coF w g A n c B (countR 3540 conR L)) := by
  have HR := Lib.hid h
  have HG := Lib.hid h.blk.lt
  clear h
  go_enter Try.func88, Try.ntmps88
  go_wp2_with fail
  refine (count_any _ g A n c B L hn HR.out 3540).mono ?_
  intro e w1 hE
  cases hg0 : numR (mostB 3540) 112 L with
  | error x =>
    obtain ⟨lf, er⟩ := x
    obtain ⟨rfl, hT⟩ := hE.no hg0
    have HT := Lib.hid hT
    have HG := Lib.hid (countR_err (p := conR) hg0)
    clear hE hg0 hT
    go_wp2_with fail
    exact ⟨rfl, ListEnd.bad HG.out rfl HT.out⟩
  | ok x =>
    obtain ⟨k0, L1⟩ := x
    obtain ⟨rfl, hR, hT⟩ := hE.ok hg0
    obtain ⟨K, rfl, hK⟩ := count_fits (m := 3540) HR.out.byteL hg0
    unfold i64V
    have HCR := Lib.hid (show countR 3540 conR L = manyR conR K [] L1 by unfold countR; rw [hg0, bnd_ok]; rfl)
    have HR1 := Lib.hid hR
    have HT1 := Lib.hid hT
    clear hE hg0 hR hT HR
    go_wp2_with fail
    go_loopw [3, 6, 8, 9, 10, 11, 12, 13, 14] (fun a3 a6 _ _ _ _ _ _ _ wr => ∃ (j : Nat) (l : List Con) (L' : List Int), j ≤ K ∧ a6 = .int .i64 j ∧ l.length = j ∧ OwnR 63 3 coF wr w.heap.size a3 l ∧ Rd wr g A n c B L' ∧ Touch g w wr ∧ manyR conR (K - j) l L' = manyR conR K [] L1) (fun _ a6 _ _ _ _ _ _ _ _ => (K - intOf a6).toNat)
    case atStart => exact ⟨0, [], L1, by omega, rfl, rfl, OwnR.nil _ _ _ _ _, HR1.out, HT1.out, rfl⟩
    case round =>
      obtain ⟨j, l, L', hj, rfl, hl, hown, hRr, hTr, hmany⟩ := hrel
      clear HR1 HT1
      have HO := Lib.hid hown
      have HR := Lib.hid hRr
      have HT := Lib.hid hTr
      have HMA := Lib.hid hmany
      have HL := Lib.hid hl
      obtain ⟨A', m', c', rfl, hm', hmc, hrows, hA'⟩ := hown.form
      have HM := Lib.hid (show l.length = m' from hm'.out.symm)
      have HA := Lib.hid hA'
      have HROW := Lib.hid hrows
      clear hown hRr hTr hmany hl hm' hmc hrows hA'
      by_cases hlt : j < K
      · have hlt' : (j : Int) < K := by omega
        go_wp2_with fail
        refine (con_any _ g A n c B L' hn HR.out A' m' c' l HM.out (by have := HM.out; have := HL.out; omega) HROW.out (fun b off e => ⟨fun eb => ?_, (HA.out b off e).2.1⟩)).mono ?_
        · exact HO.out.ne HR.out.blk (by decide) (by rw [(HA.out b off e).2.2, eb])
        intro e w2 hE
        have hstep : manyR conR (K - j) l L' = bnd (conR l L') fun a t => manyR conR (K - (j + 1)) (l ++ [a]) t := by
          rw [show K - j = (K - (j + 1)) + 1 by omega]; rfl
        cases hg1 : conR l L' with
        | error x =>
          obtain ⟨lf, er⟩ := x
          obtain ⟨rfl, hT⟩ := hE.no hg1
          have HT2 := Lib.hid (HT.out.trans hT)
          have HG2 := Lib.hid (show countR 3540 conR L = .error (lf, er) by rw [HCR.out, ← HMA.out, hstep, hg1]; rfl)
          clear hE hg1 hT hstep
          go_wp2_with fail
          exact ⟨rfl, ListEnd.bad HG2.out rfl HT2.out⟩
        | ok x =>
          obtain ⟨y, L2⟩ := x
          obtain ⟨rfl, hR2, hT⟩ := hE.ok hg1
          unfold coV
          have HMA2 := Lib.hid (show manyR conR (K - (j + 1)) (l ++ [y]) L2 = manyR conR K [] L1 by rw [← HMA.out, hstep, hg1]; rfl)
          have HO2 := Lib.hid (HO.out.touch hT (HO.out.ne HR.out.blk (by decide)))
          have HR2 := Lib.hid hR2
          have HT2 := Lib.hid (HT.out.trans hT)
          have HL2 := Lib.hid (show (l ++ [y]).length = j + 1 by rw [List.length_append, HL.out]; rfl)
          clear hE hg1 hR2 hT hstep HO HR HT HMA HROW
          go_upto_region 5 with (first
            | (refine wpList_slice1_seg rfl 59 63 _ rfl 3 (coF y) (coF ⟨0, 0, 0⟩) rfl Try.underlying59 zeroCon sizeCon (by decide) (by decide) ?_; intro w3 h3 hB3 hs3)
            | (refine append_row 59 63 3 24 coF (coF ⟨0, 0, 0⟩) Try.underlying59 infCon (by decide) w3 rfl (.tmp 8) (.tmp 12) rfl w.heap.size _ l rfl (HO2.out.up hB3) w2.heap.size y rfl h3 (coF_one y) (by have := HL.out; omega) (by have := HL.out; unfold maxLen; omega) (by have := HT2.out.size; omega) ?_; intro v4 w4 h4 hB4 hg4))
          have HO4 := Lib.hid h4
          have hlo : ∀ b, (Value.slice A' m' c').ownBlock = some b → w.heap.size ≤ b := fun b hb => ((HO2.out.up hB3).lo hb).1
          have HR4 := Lib.hid ((HR2.out.up hB3).grown hg4 (fun b hb => by have := hlo b hb; have := HG.out; omega))
          have HT4 := Lib.hid ((HT2.out.up hB3).grown hg4 hlo)
          clear h3 hB3 hs3 h4 hB4 hg4 hlo HO2 HR2 HT2
          go_wp2_with fail
          go_roundw
          case rel => exact ⟨j + 1, l ++ [y], L2, by omega, by go_num, HL2.out, HO4.out, HR4.out, HT4.out, HMA2.out⟩
          case measure => simp [intOf]; omega
      · have hjK : j = K := by omega
        have HE := Lib.hid (show countR 3540 conR L = .ok (l, L') by rw [HCR.out, ← HMA.out, hjK, Nat.sub_self]; rfl)
        have hlt' : decide (j < K) = false := by simp; omega
        clear hjK HMA
        go_wp2_with fail
        go_ret
        exact ListEnd.mk HE.out rfl HO.out HR.out HT.out
end Go.Proofs.Ytbomihdnnidelaa
