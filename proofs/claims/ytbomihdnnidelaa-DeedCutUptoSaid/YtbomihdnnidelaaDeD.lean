/- Package deed: what may stand there; counts; loops. Laid by wip/tools/mkded.py. -/
import Derived.Test.YtbomihdnnidelaaDeC
namespace Go.Proofs.Ytbomihdnnidelaa
open Go.ChangeShapes Go.WideShapes Go.ChangeAt Go.RowKit
open Dee
set_option linter.unusedVariables false
set_option linter.unusedSimpArgs false
set_option maxRecDepth 100000
theorem within_any (a b x : Int) (w : World) : Calls Try.prog 71 #[.int .i64 x, .int .i64 a, .int .i64 b] w fun e w' => e = .returned (.bool (decide (a ≤ x) && decide (x ≤ b))) ∧ w = w' := by
  cases h1 : decide (a ≤ x)
  · go_enter Try.func71, Try.ntmps71
    go_wp2_with fail
    go_ret
    exact ⟨rfl, rfl⟩
  · cases h2 : decide (x ≤ b)
    all_goals
      go_enter Try.func71, Try.ntmps71
      go_wp2_with fail
      go_ret
      exact ⟨rfl, rfl⟩
theorem BB (p q : Bool) (h : p = q) (w : World) : (fun (e : Ending) (w' : World) => e = .returned (.bool p) ∧ w = w') = (fun e w' => e = .returned (.bool q) ∧ w = w') := by rw [h]
theorem head_deed (x : Int) (w : World) : Calls Try.prog 46 #[.int .i64 x] w fun e w' => e = .returned (.bool (headB x)) ∧ w = w' := by
  go_enter Try.func46, Try.ntmps46
  go_wp2_with fail
  refine (within_any _ _ x _).mono ?_
  rintro e w' ⟨rfl, rfl⟩
  obtain ⟨b, hb⟩ : ∃ b, b = headB x := ⟨_, rfl⟩
  have HBB := Lib.hid hb
  unfold headB at hb
  rw [← hb]
  clear hb
  go_wp2_with fail
  go_ret
  exact ⟨ret_bool HBB.out, rfl⟩
theorem en_head : ∀ (a : Array Value) (W : World), (callFunc 46 a).run Try.prog W = .ok (.enter 46 a) W := fun _ _ => by kernel_rfl
theorem variable_deed (x : Int) (w : World) : Calls Try.prog 47 #[.int .i64 x] w fun e w' => e = .returned (.bool (varB x)) ∧ w = w' := by
  go_enter Try.func47, Try.ntmps47
  go_wp2_with fail
  refine (within_any _ _ x _).mono ?_
  rintro e w' ⟨rfl, rfl⟩
  obtain ⟨b, hb⟩ : ∃ b, b = varB x := ⟨_, rfl⟩
  have HBB := Lib.hid hb
  unfold varB at hb
  rw [← hb]
  clear hb
  go_wp2_with fail
  go_ret
  exact ⟨ret_bool HBB.out, rfl⟩
theorem en_variable : ∀ (a : Array Value) (W : World), (callFunc 47 a).run Try.prog W = .ok (.enter 47 a) W := fun _ _ => by kernel_rfl
theorem constant_deed (x : Int) (w : World) : Calls Try.prog 48 #[.int .i64 x] w fun e w' => e = .returned (.bool (constB x)) ∧ w = w' := by
  go_enter Try.func48, Try.ntmps48
  go_wp2_with fail
  refine (within_any _ _ x _).mono ?_
  rintro e w' ⟨rfl, rfl⟩
  obtain ⟨b, hb⟩ : ∃ b, b = constB x := ⟨_, rfl⟩
  have HBB := Lib.hid hb
  unfold constB at hb
  rw [← hb]
  clear hb
  go_wp2_with fail
  go_ret
  exact ⟨ret_bool HBB.out, rfl⟩
theorem en_constant : ∀ (a : Array Value) (W : World), (callFunc 48 a).run Try.prog W = .ok (.enter 48 a) W := fun _ _ => by kernel_rfl
theorem fall_deed (x : Int) (w : World) : Calls Try.prog 49 #[.int .i64 x] w fun e w' => e = .returned (.bool (fallB x)) ∧ w = w' := by
  go_enter Try.func49, Try.ntmps49
  go_wp2_with fail
  refine (within_any _ _ x _).mono ?_
  rintro e w' ⟨rfl, rfl⟩
  obtain ⟨b, hb⟩ : ∃ b, b = fallB x := ⟨_, rfl⟩
  have HBB := Lib.hid hb
  unfold fallB at hb
  rw [← hb]
  clear hb
  go_wp2_with fail
  go_ret
  exact ⟨ret_bool HBB.out, rfl⟩
theorem en_fall : ∀ (a : Array Value) (W : World), (callFunc 49 a).run Try.prog W = .ok (.enter 49 a) W := fun _ _ => by kernel_rfl
theorem kind_deed (x : Int) (w : World) : Calls Try.prog 93 #[.int .i64 x] w fun e w' => e = .returned (.bool (kindB x)) ∧ w = w' := by
  go_enter Try.func93, Try.ntmps93
  go_wp2_with fail
  refine (within_any _ _ x _).mono ?_
  rintro e w' ⟨rfl, rfl⟩
  obtain ⟨b, hb⟩ : ∃ b, b = kindB x := ⟨_, rfl⟩
  have HBB := Lib.hid hb
  unfold kindB at hb
  rw [← hb]
  clear hb
  go_wp2_with fail
  go_ret
  exact ⟨ret_bool HBB.out, rfl⟩
theorem en_kind : ∀ (a : Array Value) (W : World), (callFunc 93 a).run Try.prog W = .ok (.enter 93 a) W := fun _ _ => by kernel_rfl
theorem table_deed (x : Int) (w : World) : Calls Try.prog 94 #[.int .i64 x] w fun e w' => e = .returned (.bool (tableB x)) ∧ w = w' := by
  go_enter Try.func94, Try.ntmps94
  go_wp2_with fail
  refine (within_any _ _ x _).mono ?_
  rintro e w' ⟨rfl, rfl⟩
  obtain ⟨b, hb⟩ : ∃ b, b = tableB x := ⟨_, rfl⟩
  have HBB := Lib.hid hb
  unfold tableB at hb
  rw [← hb]
  clear hb
  go_wp2_with fail
  go_ret
  exact ⟨ret_bool HBB.out, rfl⟩
theorem en_table : ∀ (a : Array Value) (W : World), (callFunc 94 a).run Try.prog W = .ok (.enter 94 a) W := fun _ _ => by kernel_rfl
theorem slot_deed (x : Int) (w : World) : Calls Try.prog 96 #[.int .i64 x] w fun e w' => e = .returned (.bool (slotB x)) ∧ w = w' := by
  go_enter Try.func96, Try.ntmps96
  go_wp2_with fail
  refine (within_any _ _ x _).mono ?_
  rintro e w' ⟨rfl, rfl⟩
  obtain ⟨b, hb⟩ : ∃ b, b = slotB x := ⟨_, rfl⟩
  have HBB := Lib.hid hb
  unfold slotB at hb
  rw [← hb]
  clear hb
  go_wp2_with fail
  go_ret
  exact ⟨ret_bool HBB.out, rfl⟩
theorem en_slot : ∀ (a : Array Value) (W : World), (callFunc 96 a).run Try.prog W = .ok (.enter 96 a) W := fun _ _ => by kernel_rfl
theorem written_deed (x : Int) (w : World) : Calls Try.prog 95 #[.int .i64 x] w fun e w' => e = .returned (.bool (writB x)) ∧ w = w' := by
  go_enter Try.func95, Try.ntmps95
  go_wp2_with fail
  refine (within_any _ _ x _).mono ?_
  rintro e w' ⟨rfl, rfl⟩
  obtain ⟨b, hb⟩ : ∃ b, b = writB x := ⟨_, rfl⟩
  have HBB := Lib.hid hb
  unfold writB at hb
  rw [← hb]
  clear hb
  go_wp2_with fail
  go_ret
  exact ⟨ret_bool HBB.out, rfl⟩
theorem en_written : ∀ (a : Array Value) (W : World), (callFunc 95 a).run Try.prog W = .ok (.enter 95 a) W := fun _ _ => by kernel_rfl
theorem tabled_any (x : Int) (w : World) : Calls Try.prog 90 #[.int .i64 x] w fun e w' => e = .returned (.bool (tabledB x)) ∧ w = w' := by
  have HT := Lib.hid (show tabledB x = (decide (x = 5) || decide (x = 6)) from rfl)
  by_cases h1 : x = 5
  · subst h1
    go_enter Try.func90, Try.ntmps90
    go_wp2_with fail
    go_ret
    exact ⟨rfl, rfl⟩
  · have t1 : (x == 5) = false := by rw [beq_eq_false_iff_ne]; exact h1
    by_cases h2 : x = 6
    · subst h2
      clear t1 h1
      go_enter Try.func90, Try.ntmps90
      go_wp2_with fail
      go_ret
      exact ⟨rfl, rfl⟩
    · have t2 : (x == 6) = false := by rw [beq_eq_false_iff_ne]; exact h2
      have HT2 := Lib.hid (show false = tabledB x by rw [HT.out, decide_eq_false h1, decide_eq_false h2]; rfl)
      clear h1 h2 HT
      go_enter Try.func90, Try.ntmps90
      go_wp2_with fail
      go_ret
      exact ⟨ret_bool HT2.out, rfl⟩
theorem en_count1 : ∀ (a : Array Value) (W : World), (callFunc 82 a).run Try.prog W = .ok (.enter 82 a) W := fun _ _ => by kernel_rfl
theorem count1_any (x m : Int) (q : Addr) (w : World) (h : w.cell? q = some (.int .i64 m)) : Calls Try.prog 82 #[.int .i64 x, .pointer (some q)] w fun e w' => e = .returned (.bool (mostB m x)) ∧ w = w' := by
  cases h1 : decide (x ≤ m)
  all_goals
    have HM := Lib.hid (show decide (x ≤ m) = mostB m x from rfl)
    rw [h1] at HM
    go_enter Try.func82, Try.ntmps82
    go_wp2_with fail
    go_ret
    exact ⟨ret_bool HM.out, rfl⟩
theorem Blk.touch {w w' : World} {b g : Nat} {t : TypeId} {cs : Array Value} (h : Blk w b t cs) (ht : Touch g w w') (hne : b ≠ g) : Blk w' b t cs := (ht.block b h.lt hne).trans h
theorem RdEnd.from_ {α : Type} {val : α → Value} {w w1 w' : World} {g : Nat} {A : Option Addr} {n c : Nat} {B : List Int} {r : Rs α} {e : Ending} (h : RdEnd val w1 g A n c B r e w') (ht : Touch g w w1) : RdEnd val w g A n c B r e w' := ⟨ht.trans h.1, h.2⟩
set_option maxHeartbeats 1000000 in
theorem count_any (w : World) (g : Nat) (A : Option Addr) (n c : Nat) (B L : List Int) (hn : n ≤ 4194304) (h : Rd w g A n c B L) (m : Int) :
    Calls Try.prog 58 #[.pointer (some ⟨g, 0, none⟩), .int .i64 m] w (RdEnd i64V w g A n c B (numR (mostB m) 112 L)) := by
  have hB := below_box w (.cells #[.int .i64 m] 3)
  have HR1 := Lib.hid (h.up hB)
  have hq := Blk.new w 3 #[.int .i64 m]
  have HQ := Lib.hid hq
  have HNE := Lib.hid (show w.heap.size ≠ g by have := h.blk.lt; omega)
  have HT := Lib.hid (Touch.of_below hB (g := g))
  clear h hB hq
  go_enter Try.func58, Try.ntmps58
  go_wp2_with fail
  refine (number_any1 _ g A n c B L hn HR1.out _ _ (mostB m) 112 en_count1 (fun b W hW => count1_any b m _ W ?_)).mono ?_
  · exact (HQ.out.touch hW HNE.out).cell 0
  intro e w1 hE
  cases hg : numR (mostB m) 112 L with
  | error x =>
    obtain ⟨lf, er⟩ := x
    obtain ⟨rfl, hT⟩ := hE.no hg
    have HT1 := Lib.hid (HT.out.trans hT)
    have HG := Lib.hid hg
    clear hE hg hT
    go_wp2_with fail
    exact ⟨rfl, RdEnd.bad (by first | exact HG.out | rfl) rfl HT1.out⟩
  | ok x =>
    obtain ⟨k, t⟩ := x
    obtain ⟨rfl, hR, hT⟩ := hE.ok hg
    have HT1 := Lib.hid (HT.out.trans hT)
    have HR2 := Lib.hid hR
    have HG := Lib.hid hg
    clear hE hg hT hR
    unfold i64V
    go_wp2_with fail
    go_ret
    exact RdEnd.mk (by first | exact HG.out | rfl) rfl HR2.out HT1.out
/-- the cells of a loop -/
def loF (l : Lp) : Nat → Value := fun q => if q = 0 then .int .i64 l.h else if q = 1 then .int .i64 l.a else if q = 2 then .int .i64 l.b else if q = 3 then .int .i64 l.k else .int .i64 l.d
def loV (l : Lp) : Value := .agg (arr 5 (loF l))
theorem zeroLoop : (Try.prog.info? 54).bind (fun i => i.zero.map Value.cells) = some (arr 5 (loF ⟨0, 0, 0, 0, 0⟩)) := by kernel_rfl
theorem sizeLoop : (Try.prog.info? 54).map (·.size) = some 5 := by kernel_rfl
/-- what (*reader).loop holds: its two variables and the reader -/
structure LoS (w0 : World) (g gr gl : Nat) (A : Option Addr) (n c : Nat) (B L : List Int) (l : Lp) (w : World) : Prop where
  rd : Rd w g A n c B L
  res : FB w gr 54 5 (loF ⟨0, 0, 0, 0, 0⟩)
  var : FB w gl 54 5 (loF l)
  touch : Touch g w0 w
  lr : g < gr
  ll : g < gl
  ne : gr ≠ gl
  nr : w0.heap.size ≤ gr
  nl : w0.heap.size ≤ gl
section
variable {w0 w w' : World} {g gr gl : Nat} {A : Option Addr} {n c : Nat} {B L L' : List Int} {l l' : Lp}
theorem LoS.read (h : LoS w0 g gr gl A n c B L l w) (hR : Rd w' g A n c B L') (hT : Touch g w w') : LoS w0 g gr gl A n c B L' l w' :=
  ⟨hR, h.res.touch hT (by have := h.lr; omega), h.var.touch hT (by have := h.ll; omega), h.touch.trans hT, h.lr, h.ll, h.ne, h.nr, h.nl⟩
theorem Touch.own {g k : Nat} {a w w' : World} (h : Touch g a w) (hk : a.heap.size ≤ k) (ht : Touch k w w') : Touch g a w' :=
  ⟨ht.os.trans h.os, ht.tape.trans h.tape, ht.output.trans h.output, Nat.le_trans h.size ht.size, fun i hi hne => (ht.block i (Nat.lt_of_lt_of_le hi h.size) (by omega)).trans (h.block i hi hne)⟩
theorem LoS.put (h : LoS w0 g gr gl A n c B L l w) (k : Nat) (v : Value) (e : ∀ q, q < 5 → upd (loF l) k v q = loF l' q) : LoS w0 g gr gl A n c B L l' (w.setCell ⟨gl, k, none⟩ v) :=
  ⟨h.rd.far h.ll (Touch.set_ w k v), h.res.touch (Touch.set_ w k v) h.ne, (h.var.set_ k v).congr e, h.touch.own h.nl (Touch.set_ w k v), h.lr, h.ll, h.ne, h.nr, h.nl⟩
end
set_option maxHeartbeats 4000000 in
theorem loop_any (w : World) (g : Nat) (A : Option Addr) (n c : Nat) (B L : List Int) (hn : n ≤ 4194304) (h : Rd w g A n c B L) :
    Calls Try.prog 59 #[.pointer (some ⟨g, 0, none⟩)] w (RdEnd loV w g A n c B (loopR L)) := by
  have HR := Lib.hid h
  have HG := Lib.hid h.blk.lt
  clear h
  go_enter Try.func59, Try.ntmps59
  go_upto_region 1 with (refine wpList_alloc_seg rfl 54 rfl 5 (loF ⟨0, 0, 0, 0, 0⟩) zeroLoop ?_; intro w1 h1 hB1 hs1)
  go_upto_region 2 with (refine wpList_alloc_seg rfl 54 rfl 5 (loF ⟨0, 0, 0, 0, 0⟩) zeroLoop ?_; intro w2 h2 hB2 hs2)
  obtain ⟨gr, hgr⟩ : ∃ gr, gr = w.heap.size := ⟨_, rfl⟩
  obtain ⟨gl, hgl⟩ : ∃ gl, gl = w1.heap.size := ⟨_, rfl⟩
  have H0 := Lib.hid (show LoS w g gr gl A n c B L ⟨0, 0, 0, 0, 0⟩ w2 from ⟨(HR.out.up hB1).up hB2, by rw [hgr]; exact h1.up hB2, by rw [hgl]; exact h2, .of_below (hB1.trans (hB2.mono hB1.size)), by rw [hgr]; exact HG.out, by have := HG.out; omega, by omega, by omega, by omega⟩)
  rw [← hgr, ← hgl]
  clear h1 hB1 hs1 h2 hB2 hs2 hgr hgl HR HG
  go_wp2_with fail
  refine (number_any _ g A n c B L hn H0.out.rd _ headB 113 en_head (fun b W _ => head_deed b W)).mono ?_
  intro e v0 hE
  cases hg0 : numR headB 113 L with
  | error x =>
    obtain ⟨lf, er⟩ := x
    obtain ⟨rfl, hT⟩ := hE.no hg0
    have HT1 := Lib.hid (H0.out.touch.trans hT)
    have HG := Lib.hid (show loopR L = .error (lf, er) by unfold loopR; rw [hg0]; rfl)
    clear hE hg0 hT
    go_wp2_with fail
    exact ⟨rfl, RdEnd.bad HG.out rfl HT1.out⟩
  | ok x =>
    obtain ⟨xh, L1⟩ := x
    obtain ⟨rfl, hR, hT⟩ := hE.ok hg0
    unfold i64V
    have hS := H0.out.read hR hT
    have k0 : v0.cell? ⟨gl, 0, none⟩ = some (.int .i64 0) := hS.var.cell 0 (by decide)
    have f0 : v0.frozen? ⟨gl, 0, none⟩ = false := FB.frozen hS.var 0
    have HS := Lib.hid hS
    have HG0 := Lib.hid hg0
    clear hS hE hg0 hR hT H0
    go_upto_region 3 with (fail)
    obtain ⟨u0, hu⟩ : ∃ u, u = v0.setCell ⟨gl, 0, none⟩ (.int .i64 xh) := ⟨_, rfl⟩
    have H1 := Lib.hid (show LoS w g gr gl A n c B L1 ⟨xh, 0, 0, 0, 0⟩ u0 by
      rw [hu]
      refine HS.out.put 0 _ fun q hq => ?_
      unfold upd
      rcases (show q = 0 ∨ q = 1 ∨ q = 2 ∨ q = 3 ∨ q = 4 by omega) with rfl | rfl | rfl | rfl | rfl <;> rfl)
    rw [← hu]
    clear hu HS k0 f0
    go_wp2_with fail
    refine (number_any _ g A n c B L1 hn H1.out.rd _ varB 113 en_variable (fun b W _ => variable_deed b W)).mono ?_
    intro e v1 hE
    cases hg1 : numR varB 113 L1 with
    | error x =>
      obtain ⟨lf, er⟩ := x
      obtain ⟨rfl, hT⟩ := hE.no hg1
      have HT1 := Lib.hid (H1.out.touch.trans hT)
      have HG := Lib.hid (show loopR L = .error (lf, er) by unfold loopR; rw [HG0.out, bnd_ok, hg1]; rfl)
      clear hE hg1 hT
      go_wp2_with fail
      exact ⟨rfl, RdEnd.bad HG.out rfl HT1.out⟩
    | ok x =>
      obtain ⟨xa, L2⟩ := x
      obtain ⟨rfl, hR, hT⟩ := hE.ok hg1
      unfold i64V
      have hS := H1.out.read hR hT
      have k1 : v1.cell? ⟨gl, 1, none⟩ = some (.int .i64 0) := hS.var.cell 1 (by decide)
      have f1 : v1.frozen? ⟨gl, 1, none⟩ = false := FB.frozen hS.var 1
      have HS := Lib.hid hS
      have HG1 := Lib.hid hg1
      clear hS hE hg1 hR hT H1
      go_upto_region 4 with (fail)
      obtain ⟨u1, hu⟩ : ∃ u, u = v1.setCell ⟨gl, 1, none⟩ (.int .i64 xa) := ⟨_, rfl⟩
      have H2 := Lib.hid (show LoS w g gr gl A n c B L2 ⟨xh, xa, 0, 0, 0⟩ u1 by
        rw [hu]
        refine HS.out.put 1 _ fun q hq => ?_
        unfold upd
        rcases (show q = 0 ∨ q = 1 ∨ q = 2 ∨ q = 3 ∨ q = 4 by omega) with rfl | rfl | rfl | rfl | rfl <;> rfl)
      rw [← hu]
      clear hu HS k1 f1
      go_wp2_with fail
      refine (number_any _ g A n c B L2 hn H2.out.rd _ varB 113 en_variable (fun b W _ => variable_deed b W)).mono ?_
      intro e v2 hE
      cases hg2 : numR varB 113 L2 with
      | error x =>
        obtain ⟨lf, er⟩ := x
        obtain ⟨rfl, hT⟩ := hE.no hg2
        have HT1 := Lib.hid (H2.out.touch.trans hT)
        have HG := Lib.hid (show loopR L = .error (lf, er) by unfold loopR; rw [HG0.out, bnd_ok, HG1.out, bnd_ok, hg2]; rfl)
        clear hE hg2 hT
        go_wp2_with fail
        exact ⟨rfl, RdEnd.bad HG.out rfl HT1.out⟩
      | ok x =>
        obtain ⟨xb, L3⟩ := x
        obtain ⟨rfl, hR, hT⟩ := hE.ok hg2
        unfold i64V
        have hS := H2.out.read hR hT
        have k2 : v2.cell? ⟨gl, 2, none⟩ = some (.int .i64 0) := hS.var.cell 2 (by decide)
        have f2 : v2.frozen? ⟨gl, 2, none⟩ = false := FB.frozen hS.var 2
        have HS := Lib.hid hS
        have HG2 := Lib.hid hg2
        clear hS hE hg2 hR hT H2
        go_upto_region 5 with (fail)
        obtain ⟨u2, hu⟩ : ∃ u, u = v2.setCell ⟨gl, 2, none⟩ (.int .i64 xb) := ⟨_, rfl⟩
        have H3 := Lib.hid (show LoS w g gr gl A n c B L3 ⟨xh, xa, xb, 0, 0⟩ u2 by
          rw [hu]
          refine HS.out.put 2 _ fun q hq => ?_
          unfold upd
          rcases (show q = 0 ∨ q = 1 ∨ q = 2 ∨ q = 3 ∨ q = 4 by omega) with rfl | rfl | rfl | rfl | rfl <;> rfl)
        rw [← hu]
        clear hu HS k2 f2
        go_wp2_with fail
        refine (signed_deed _ g A n c B L3 hn H3.out.rd _ constB 113 en_constant (fun b W _ => constant_deed b W)).mono ?_
        intro e v3 hE
        cases hg3 : sgnR constB 113 L3 with
        | error x =>
          obtain ⟨lf, er⟩ := x
          obtain ⟨rfl, hT⟩ := hE.no hg3
          have HT1 := Lib.hid (H3.out.touch.trans hT)
          have HG := Lib.hid (show loopR L = .error (lf, er) by unfold loopR; rw [HG0.out, bnd_ok, HG1.out, bnd_ok, HG2.out, bnd_ok, hg3]; rfl)
          clear hE hg3 hT
          go_wp2_with fail
          exact ⟨rfl, RdEnd.bad HG.out rfl HT1.out⟩
        | ok x =>
          obtain ⟨xk, L4⟩ := x
          obtain ⟨rfl, hR, hT⟩ := hE.ok hg3
          unfold i64V
          have hS := H3.out.read hR hT
          have k3 : v3.cell? ⟨gl, 3, none⟩ = some (.int .i64 0) := hS.var.cell 3 (by decide)
          have f3 : v3.frozen? ⟨gl, 3, none⟩ = false := FB.frozen hS.var 3
          have HS := Lib.hid hS
          have HG3 := Lib.hid hg3
          clear hS hE hg3 hR hT H3
          go_upto_region 6 with (fail)
          obtain ⟨u3, hu⟩ : ∃ u, u = v3.setCell ⟨gl, 3, none⟩ (.int .i64 xk) := ⟨_, rfl⟩
          have H4 := Lib.hid (show LoS w g gr gl A n c B L4 ⟨xh, xa, xb, xk, 0⟩ u3 by
            rw [hu]
            refine HS.out.put 3 _ fun q hq => ?_
            unfold upd
            rcases (show q = 0 ∨ q = 1 ∨ q = 2 ∨ q = 3 ∨ q = 4 by omega) with rfl | rfl | rfl | rfl | rfl <;> rfl)
          rw [← hu]
          clear hu HS k3 f3
          go_wp2_with fail
          refine (number_any _ g A n c B L4 hn H4.out.rd _ fallB 113 en_fall (fun b W _ => fall_deed b W)).mono ?_
          intro e v4 hE
          cases hg4 : numR fallB 113 L4 with
          | error x =>
            obtain ⟨lf, er⟩ := x
            obtain ⟨rfl, hT⟩ := hE.no hg4
            have HT1 := Lib.hid (H4.out.touch.trans hT)
            have HG := Lib.hid (show loopR L = .error (lf, er) by unfold loopR; rw [HG0.out, bnd_ok, HG1.out, bnd_ok, HG2.out, bnd_ok, HG3.out, bnd_ok, hg4]; rfl)
            clear hE hg4 hT
            go_wp2_with fail
            exact ⟨rfl, RdEnd.bad HG.out rfl HT1.out⟩
          | ok x =>
            obtain ⟨xd, L5⟩ := x
            obtain ⟨rfl, hR, hT⟩ := hE.ok hg4
            unfold i64V
            have hS := H4.out.read hR hT
            have k4 : v4.cell? ⟨gl, 4, none⟩ = some (.int .i64 0) := hS.var.cell 4 (by decide)
            have f4 : v4.frozen? ⟨gl, 4, none⟩ = false := FB.frozen hS.var 4
            have HS := Lib.hid hS
            have HG4 := Lib.hid hg4
            clear hS hE hg4 hR hT H4
            go_upto_region 7 with (fail)
            obtain ⟨u4, hu⟩ : ∃ u, u = v4.setCell ⟨gl, 4, none⟩ (.int .i64 xd) := ⟨_, rfl⟩
            have H5 := Lib.hid (show LoS w g gr gl A n c B L5 ⟨xh, xa, xb, xk, xd⟩ u4 by
              rw [hu]
              refine HS.out.put 4 _ fun q hq => ?_
              unfold upd
              rcases (show q = 0 ∨ q = 1 ∨ q = 2 ∨ q = 3 ∨ q = 4 by omega) with rfl | rfl | rfl | rfl | rfl <;> rfl)
            rw [← hu]
            clear hu HS k4 f4
            have HG := Lib.hid (show loopR L = .ok (⟨xh, xa, xb, xk, xd⟩, L5) by unfold loopR; rw [HG0.out, bnd_ok, HG1.out, bnd_ok, HG2.out, bnd_ok, HG3.out, bnd_ok, HG4.out]; rfl)
            clear HG0 HG1 HG2 HG3 HG4
            have hO : ∀ q, q < 5 → (loF ⟨xh, xa, xb, xk, xd⟩ q).oneCell' = true := fun q hq => by
              rcases (show q = 0 ∨ q = 1 ∨ q = 2 ∨ q = 3 ∨ q = 4 by omega) with rfl | rfl | rfl | rfl | rfl <;> rfl
            obtain ⟨F, hF⟩ : ∃ F, F = loF ⟨xh, xa, xb, xk, xd⟩ := ⟨_, rfl⟩
            have H6 := Lib.hid (show FB u4 gl 54 5 F by rw [hF]; exact H5.out.var)
            rw [← hF] at hO
            have HO := Lib.hid hO
            have HF := Lib.hid hF
            clear hO hF
            go_wp2_with (first
              | (refine wpList_load_all rfl 54 _ rfl gl rfl 54 5 F _ H6.out Try.underlying54 rfl sizeLoop ?_)
              | (refine wpList_store_all rfl 54 _ _ rfl gr 54 5 _ F rfl rfl H5.out.res sizeLoop HO.out ?_; intro w7 h7 hT7 hs7))
            refine bodyPost_ret (result_seg rfl _ _ gr _ 5 _ _ rfl h7 Try.underlying54 rfl sizeLoop) rfl (RdEnd.mk HG.out (by rw [HF.out]; rfl) (H5.out.rd.far H5.out.lr hT7) (H5.out.touch.own H5.out.nr hT7))
end Go.Proofs.Ytbomihdnnidelaa
