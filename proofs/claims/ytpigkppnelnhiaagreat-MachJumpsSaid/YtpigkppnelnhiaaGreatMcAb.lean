/- Package mach: programs of arithmetic and jumps: what their instructions do. Written by gen_mcab.py. -/
import Derived.Test.YtpigkppnelnhiaaGreatMcG
import Derived.Test.YtpigkppnelnhiaaGreatMcH
import Derived.Test.YtpigkppnelnhiaaGreatMcO
namespace Go.Proofs.YtpigkppnelnhiaaGreat
open Go.ChangeShapes Go.WideShapes Go.ChangeAt Go.RowKit
open Cod
set_option linter.unusedVariables false
set_option linter.unusedSimpArgs false
set_option maxRecDepth 100000
theorem bool3 {a b c : Bool} (h : (a && b && c) = true) : a = true ∧ b = true ∧ c = true := by cases a <;> cases b <;> cases c <;> simp_all
theorem regs_ok (i : Ins) (h : i.wrong = 0) : (0 ≤ i.dst ∧ i.dst < 11) ∧ (0 ≤ i.src ∧ i.src < 11) := by
  obtain ⟨op, nar, reg, size, dst, src, off, imm⟩ := i
  unfold Ins.wrong wrongL at h
  simp only at h
  have h2 : registersL op nar reg dst src imm = true := by
    cases e : registersL op nar reg dst src imm
    · rw [e] at h; split at h <;> simp at h
    · rfl
  have h3 : fieldsL op nar reg dst src off = true := by
    cases e : fieldsL op nar reg dst src off
    · rw [h2, e] at h; split at h <;> simp at h
    · rfl
  unfold registersL at h2
  unfold fieldsL at h3
  unfold registerL at h2
  simp only [Bool.and_eq_true, Bool.or_eq_true, beq_iff_eq, decide_eq_true_eq] at h2 h3
  obtain ⟨a, b⟩ := h2
  obtain ⟨⟨⟨c, d⟩, _⟩, _⟩ := h3
  show (0 ≤ dst ∧ dst < 11) ∧ (0 ≤ src ∧ src < 11)
  constructor
  · rcases c with c | c
    · rcases a with a | ⟨a1, a2 | ⟨a2, _⟩⟩ <;> omega
    · omega
  · rcases d with d | d
    · rcases b with b | ⟨b1, b2 | ⟨b2, _⟩⟩ <;> omega
    · omega
/-- what an instruction of arithmetic or a jump does -/
def doL (P : Pg) (i : Ins) (S : St) : Int × St :=
  if i.op = 1 then addL P S i else if i.op = 2 then subL P S i else if i.op = 15 then movL P S i else if i.op = 16 then extL P S i else if i.op = 17 ∨ i.op = 18 ∨ i.op = 19 then swapL P S i
  else if i.op = 20 then conL P S i else if i.op = 26 then jumpL P S else if i.op = 39 then exitL S else if 27 ≤ i.op ∧ i.op ≤ 37 then brL P S i else joinL P S i
/-- arithmetic and jumps -/
def Plain (op : Int) : Prop := (1 ≤ op ∧ op ≤ 20) ∨ (26 ≤ op ∧ op ≤ 37) ∨ op = 39
theorem cf_add : ∀ a W, (callFunc 52 a).run Tryz.prog W = .ok (.enter 52 a) W := fun _ _ => by kernel_rfl
theorem cf_sub : ∀ a W, (callFunc 53 a).run Tryz.prog W = .ok (.enter 53 a) W := fun _ _ => by kernel_rfl
theorem cf_mov : ∀ a W, (callFunc 54 a).run Tryz.prog W = .ok (.enter 54 a) W := fun _ _ => by kernel_rfl
theorem cf_extend : ∀ a W, (callFunc 55 a).run Tryz.prog W = .ok (.enter 55 a) W := fun _ _ => by kernel_rfl
theorem cf_swap : ∀ a W, (callFunc 56 a).run Tryz.prog W = .ok (.enter 56 a) W := fun _ _ => by kernel_rfl
theorem cf_constant : ∀ a W, (callFunc 57 a).run Tryz.prog W = .ok (.enter 57 a) W := fun _ _ => by kernel_rfl
theorem cf_jump : ∀ a W, (callFunc 61 a).run Tryz.prog W = .ok (.enter 61 a) W := fun _ _ => by kernel_rfl
theorem cf_exit : ∀ a W, (callFunc 63 a).run Tryz.prog W = .ok (.enter 63 a) W := fun _ _ => by kernel_rfl
theorem cf_branch : ∀ a W, (callFunc 64 a).run Tryz.prog W = .ok (.enter 64 a) W := fun _ _ => by kernel_rfl
theorem cf_join : ∀ a W, (callFunc 65 a).run Tryz.prog W = .ok (.enter 65 a) W := fun _ _ => by kernel_rfl
theorem MAt.does {P : Pg} {i : Ins} {f : Nat} {r : St → Int × St} (hf : doF i.op = f) (h : ∀ (w : World) (base g : Nat) (S : St) (vc vk vg vn : Value), Mem w base g P S vc vk vg vn → S.pc < P.code.length → Calls Tryz.prog f #[.pointer (some ⟨g, 0, none⟩), i.val] w (Went base g P vc vk vg vn (r S) w)) : Does P i r := by
  intro w base g S hM hp
  obtain ⟨vc, vk, vg, vn, hm⟩ := hM
  rw [hf]
  exact (h w base g S vc vk vg vn hm hp).mono fun e w' hw => hw.stepped hm
theorem plain_does (P : Pg) (i : Ins) (hw : i.wrong = 0) (hp : Plain i.op) (hg : P.goals.length = P.code.length) (hl : P.code.length ≤ 4096) : Does P i (doL P i) ∧ ∀ a W, (callFunc (doF i.op) a).run Tryz.prog W = .ok (.enter (doF i.op) a) W := by
  obtain ⟨hd, hs⟩ := regs_ok i hw
  obtain ⟨op, nar, reg, size, dst, src, off, imm⟩ := i
  simp only at hd hs hp
  clear hw
  have hc : op = 1 ∨ op = 2 ∨ op = 15 ∨ op = 16 ∨ op = 17 ∨ op = 18 ∨ op = 19 ∨ op = 20 ∨ op = 26 ∨ op = 39 ∨ op = 27 ∨ op = 28 ∨ op = 29 ∨ op = 30 ∨ op = 31 ∨ op = 32 ∨ op = 33 ∨ op = 34 ∨ op = 35 ∨ op = 36 ∨ op = 37 ∨ op = 3 ∨ op = 4 ∨ op = 5 ∨ op = 6 ∨ op = 7 ∨ op = 8 ∨ op = 9 ∨ op = 10 ∨ op = 11 ∨ op = 12 ∨ op = 13 ∨ op = 14 := by unfold Plain at hp; omega
  clear hp
  rcases hc with rfl | rfl | rfl | rfl | rfl | rfl | rfl | rfl | rfl | rfl | rfl | rfl | rfl | rfl | rfl | rfl | rfl | rfl | rfl | rfl | rfl | rfl | rfl | rfl | rfl | rfl | rfl | rfl | rfl | rfl | rfl | rfl | rfl
  · exact ⟨MAt.does (f := 52) rfl (fun w base g S vc vk vg vn h hpc => add_v h (by omega) 1 nar reg size dst src off imm hd (fun _ => hs)), cf_add⟩
  · exact ⟨MAt.does (f := 53) rfl (fun w base g S vc vk vg vn h hpc => sub_v h (by omega) 2 nar reg size dst src off imm hd (fun _ => hs)), cf_sub⟩
  · exact ⟨MAt.does (f := 54) rfl (fun w base g S vc vk vg vn h hpc => mov_v h (by omega) 15 nar reg size dst src off imm hd (fun _ => hs)), cf_mov⟩
  · exact ⟨MAt.does (f := 55) rfl (fun w base g S vc vk vg vn h hpc => extend_v h (by omega) 16 nar reg size dst src off imm hd hs), cf_extend⟩
  · exact ⟨MAt.does (f := 56) rfl (fun w base g S vc vk vg vn h hpc => swapI_v h (by omega) 17 nar reg size dst src off imm hd), cf_swap⟩
  · exact ⟨MAt.does (f := 56) rfl (fun w base g S vc vk vg vn h hpc => swapI_v h (by omega) 18 nar reg size dst src off imm hd), cf_swap⟩
  · exact ⟨MAt.does (f := 56) rfl (fun w base g S vc vk vg vn h hpc => swapI_v h (by omega) 19 nar reg size dst src off imm hd), cf_swap⟩
  · exact ⟨MAt.does (f := 57) rfl (fun w base g S vc vk vg vn h hpc => constant_v h (by omega) 20 nar reg size dst src off imm hd), cf_constant⟩
  · exact ⟨MAt.does (f := 61) rfl (fun w base g S vc vk vg vn h hpc => jump_v h (by omega) 26 nar reg size dst src off imm), cf_jump⟩
  · exact ⟨MAt.does (f := 63) rfl (fun w base g S vc vk vg vn h hpc => exit_v h 39 nar reg size dst src off imm), cf_exit⟩
  · exact ⟨MAt.does (f := 64) rfl (fun w base g S vc vk vg vn h hpc => branch_v h (by omega) 27 nar reg size dst src off imm hd (fun _ => hs) (by omega)), cf_branch⟩
  · exact ⟨MAt.does (f := 64) rfl (fun w base g S vc vk vg vn h hpc => branch_v h (by omega) 28 nar reg size dst src off imm hd (fun _ => hs) (by omega)), cf_branch⟩
  · exact ⟨MAt.does (f := 64) rfl (fun w base g S vc vk vg vn h hpc => branch_v h (by omega) 29 nar reg size dst src off imm hd (fun _ => hs) (by omega)), cf_branch⟩
  · exact ⟨MAt.does (f := 64) rfl (fun w base g S vc vk vg vn h hpc => branch_v h (by omega) 30 nar reg size dst src off imm hd (fun _ => hs) (by omega)), cf_branch⟩
  · exact ⟨MAt.does (f := 64) rfl (fun w base g S vc vk vg vn h hpc => branch_v h (by omega) 31 nar reg size dst src off imm hd (fun _ => hs) (by omega)), cf_branch⟩
  · exact ⟨MAt.does (f := 64) rfl (fun w base g S vc vk vg vn h hpc => branch_v h (by omega) 32 nar reg size dst src off imm hd (fun _ => hs) (by omega)), cf_branch⟩
  · exact ⟨MAt.does (f := 64) rfl (fun w base g S vc vk vg vn h hpc => branch_v h (by omega) 33 nar reg size dst src off imm hd (fun _ => hs) (by omega)), cf_branch⟩
  · exact ⟨MAt.does (f := 64) rfl (fun w base g S vc vk vg vn h hpc => branch_v h (by omega) 34 nar reg size dst src off imm hd (fun _ => hs) (by omega)), cf_branch⟩
  · exact ⟨MAt.does (f := 64) rfl (fun w base g S vc vk vg vn h hpc => branch_v h (by omega) 35 nar reg size dst src off imm hd (fun _ => hs) (by omega)), cf_branch⟩
  · exact ⟨MAt.does (f := 64) rfl (fun w base g S vc vk vg vn h hpc => branch_v h (by omega) 36 nar reg size dst src off imm hd (fun _ => hs) (by omega)), cf_branch⟩
  · exact ⟨MAt.does (f := 64) rfl (fun w base g S vc vk vg vn h hpc => branch_v h (by omega) 37 nar reg size dst src off imm hd (fun _ => hs) (by omega)), cf_branch⟩
  · exact ⟨MAt.does (f := 65) rfl (fun w base g S vc vk vg vn h hpc => join_v h (by omega) 3 nar reg size dst src off imm hd (fun _ => hs)), cf_join⟩
  · exact ⟨MAt.does (f := 65) rfl (fun w base g S vc vk vg vn h hpc => join_v h (by omega) 4 nar reg size dst src off imm hd (fun _ => hs)), cf_join⟩
  · exact ⟨MAt.does (f := 65) rfl (fun w base g S vc vk vg vn h hpc => join_v h (by omega) 5 nar reg size dst src off imm hd (fun _ => hs)), cf_join⟩
  · exact ⟨MAt.does (f := 65) rfl (fun w base g S vc vk vg vn h hpc => join_v h (by omega) 6 nar reg size dst src off imm hd (fun _ => hs)), cf_join⟩
  · exact ⟨MAt.does (f := 65) rfl (fun w base g S vc vk vg vn h hpc => join_v h (by omega) 7 nar reg size dst src off imm hd (fun _ => hs)), cf_join⟩
  · exact ⟨MAt.does (f := 65) rfl (fun w base g S vc vk vg vn h hpc => join_v h (by omega) 8 nar reg size dst src off imm hd (fun _ => hs)), cf_join⟩
  · exact ⟨MAt.does (f := 65) rfl (fun w base g S vc vk vg vn h hpc => join_v h (by omega) 9 nar reg size dst src off imm hd (fun _ => hs)), cf_join⟩
  · exact ⟨MAt.does (f := 65) rfl (fun w base g S vc vk vg vn h hpc => join_v h (by omega) 10 nar reg size dst src off imm hd (fun _ => hs)), cf_join⟩
  · exact ⟨MAt.does (f := 65) rfl (fun w base g S vc vk vg vn h hpc => join_v h (by omega) 11 nar reg size dst src off imm hd (fun _ => hs)), cf_join⟩
  · exact ⟨MAt.does (f := 65) rfl (fun w base g S vc vk vg vn h hpc => join_v h (by omega) 12 nar reg size dst src off imm hd (fun _ => hs)), cf_join⟩
  · exact ⟨MAt.does (f := 65) rfl (fun w base g S vc vk vg vn h hpc => join_v h (by omega) 13 nar reg size dst src off imm hd (fun _ => hs)), cf_join⟩
  · exact ⟨MAt.does (f := 65) rfl (fun w base g S vc vk vg vn h hpc => join_v h (by omega) 14 nar reg size dst src off imm hd (fun _ => hs)), cf_join⟩
theorem fit_go {P : Pg} {S : St} (h : Fit P S) (q : Int) : Fit P (goToL P S q).2 := by
  unfold goToL
  split
  · exact h
  · exact ⟨by show q.toNat < _; omega, h.gl, h.ctx, h.sent⟩
theorem fit_set {P : Pg} {S : St} (h : Fit P S) (r : Nat) (v : V) : Fit P (setL P S r v).2 := by
  unfold setL
  split
  · exact h
  · exact ⟨by show S.pc + 1 < _; omega, h.gl, h.ctx, h.sent⟩
theorem fit_join {P : Pg} {S : St} (h : Fit P S) (i : Ins) : Fit P (joinL P S i).2 := by
  unfold joinL
  split
  · split
    · exact fit_set h _ _
    · exact h
  · exact h
theorem fit_moved {P : Pg} {S : St} (h : Fit P S) (d : Nat) (p : V) (y : Int) : Fit P (movedL P S d p y).2 := by
  unfold movedL
  split
  · exact h
  · exact fit_set h _ _
theorem fit_do {P : Pg} {S : St} (h : Fit P S) (i : Ins) : Fit P (doL P i S).2 := by
  unfold doL
  split
  · unfold addL; split
    · exact fit_moved h _ _ _
    · split
      · exact fit_moved h _ _ _
      · exact fit_join h i
  split
  · unfold subL; split
    · exact fit_moved h _ _ _
    · split
      · exact fit_set h _ _
      · exact fit_join h i
  split
  · unfold movL; split
    · exact fit_set h _ _
    · split
      · exact h
      · exact fit_set h _ _
  split
  · unfold extL; split
    · exact fit_set h _ _
    · exact h
  split
  · unfold swapL; split
    · exact fit_set h _ _
    · exact h
  split
  · exact fit_set h _ _
  split
  · exact fit_go h _
  split
  · unfold exitL; split
    · exact ⟨h.pc, h.gl, h.ctx, h.sent⟩
    · exact h
  split
  · unfold brL; split
    · split
      · exact fit_go h _
      · exact fit_go h _
    · exact h
  · exact fit_join h i
theorem plain_able (P : Pg) (hw : ∀ i ∈ P.code, i.wrong = 0) (hp : ∀ i ∈ P.code, Plain i.op) (hg : P.goals.length = P.code.length) (hl : P.code.length ≤ 4096) : Able P (doL P) :=
  ⟨fun i hi => (plain_does P i (hw i hi) (hp i hi) hg hl).1, fun i hi => (plain_does P i (hw i hi) (hp i hi) hg hl).2, fun i hi S hS => fit_do hS i⟩
end Go.Proofs.YtpigkppnelnhiaaGreat
