/- Package mach: State. Written by gen_mcst.py. -/
import Derived.Test.YtpigkppnelnhiaaGreatMcAb
import Derived.Test.YtpigkppnelnhiaaGreatDraw
namespace Go.Proofs.YtpigkppnelnhiaaGreat
open Go.ChangeShapes Go.WideShapes Go.ChangeAt Go.RowKit
open Cod Bits
set_option linter.unusedVariables false
set_option linter.unusedSimpArgs false
set_option maxRecDepth 100000
/-- a state's cells -/
def stF (r s : Nat → Value) (va vt vn vp vs vd : Value) (k : Nat) : Value :=
  if k < 44 then r k else if k < 460 then s (k - 44) else if k = 460 then va else if k = 461 then vt else if k = 462 then vn else if k = 463 then vp else if k = 464 then vs else vd
def st0 (k : Nat) : Value :=
  if k < 44 then .int .i64 0 else if k < 460 then (if (k - 44) % 13 < 4 then .int .i64 0 else if (k - 44) % 13 < 12 then .int .u8 0 else .int .i64 0) else if k < 463 then .slice none 0 0 else if k < 465 then .int .i64 0 else .bool false
theorem built_state (r s : Nat → Value) (A : Option Addr) (n c : Nat) (B : Option Addr) (m d : Nat) (pc steps : Int) (done : Bool) : Tryz.prog.built 50 [(0, .agg (arr 44 r)), (1, .agg (arr 416 s)), (2, .slice A n c), (3, .slice none 0 0), (4, .slice B m d), (5, .int .i64 pc), (6, .int .i64 steps), (7, .bool done)] = some (arr 466 (stF r s (.slice A n c) (.slice none 0 0) (.slice B m d) (.int .i64 pc) (.int .i64 steps) (.bool done))) := by kernel_rfl
theorem state_zero : (Tryz.prog.info? 50).bind (fun i => i.zero.map Value.cells) = some (arr 466 st0) := by kernel_rfl
theorem state_size : (Tryz.prog.info? 50).map (·.size) = some 466 := by kernel_rfl
theorem exec_load_seg {P : Program} {o : Oper} {a : Act} {w : World} (ty : TypeId) (x : Operand) (ho : o.op = .load ty x)
    (g off : Nat) (hx : a.eval x = .pointer (some ⟨g, off, none⟩)) (t : TypeId) (N n : Nat) (f : Nat → Value) (d : TypeDesc) (hg : FB w g t N f) (hn : off + n ≤ N)
    (hu : P.underlying ty = some d) (hd : (match d with | .struct _ | .array _ _ => true | _ => false) = true) (hi : (P.info? ty).map (·.size) = some n) :
    (execOp a.eval o).run P w = .ok (.value (.agg (arr n fun q => f (off + q)))) w := by
  unfold execOp
  simp only [ho, hx, Instr.loadAt, Instr.sureAddr, Sem.run_bind, Sem.run_pure, Result.andThen_ok, run_loadVar_seg w g off t ty N n f d hg hn hu hd hi]
theorem mC_one {S : St} {vc vk vg vn : Value} (h1 : vc.oneCell' = true) (h2 : vk.oneCell' = true) (h3 : vg.oneCell' = true) (h4 : vn.oneCell' = true) (k : Nat) : (mC S vc vk vg vn k).oneCell' = true := by
  unfold mC slC vC
  repeat' split
  all_goals first | assumption | rfl
theorem stF_one {r s : Nat → Value} {va vt vn vp vs vd : Value} (hr : ∀ k, (r k).oneCell' = true) (hs : ∀ k, (s k).oneCell' = true) (h1 : va.oneCell' = true) (h2 : vt.oneCell' = true) (h3 : vn.oneCell' = true) (h4 : vp.oneCell' = true) (h5 : vs.oneCell' = true) (h6 : vd.oneCell' = true) (k : Nat) : (stF r s va vt vn vp vs vd k).oneCell' = true := by
  unfold stF
  repeat' split
  all_goals first | assumption | exact hr _ | exact hs _
/-- what State answers -/
def Told (S : St) (w : World) (e : Ending) (w' : World) : Prop := ∃ f : Nat → Value, e = .returned (.agg (arr 466 f)) ∧ (∀ k, (f k).oneCell' = true) ∧ f 463 = .int .i64 S.pc ∧ f 464 = .int .i64 S.steps ∧ f 465 = .bool S.done ∧ Below w.heap.size w w'
theorem wp_store_all {P : Program} {o : Oper} {a : Act} {w : World} {K : Act → World → Prop} {Q : Exit → Act → World → Prop} (ty : TypeId) (x y : Operand) (ho : o.op = .store ty x y)
    (g : Nat) (t : TypeId) (n : Nat) (f c : Nat → Value) (hx : a.eval x = .pointer (some ⟨g, 0, none⟩)) (hy : a.eval y = .agg (arr n c))
    (hg : FB w g t n f) (hi : (P.info? ty).map (·.size) = some n) (h1 : ∀ q, q < n → (c q).oneCell' = true)
    (h : ∀ w', FB w' g t n c → Touch g w w' → w'.heap.size = w.heap.size → K (a.put o.dst undef) w') : o.wp P a w K Q := by
  unfold Oper.wp execOp
  simp only [ho, hx, hy, Instr.storeAt, Instr.sureAddr, Sem.run_bind, Sem.run_pure, Result.andThen_ok, run_storeVar_seg w g 0 t ty n n f c hg (by omega) hi h1]
  refine h _ ((setRow_FB hg).congr fun k hk => ?_) (setRow_touch w g _) (by simp)
  unfold updR
  rw [if_pos (by omega), Nat.sub_zero]
end Go.Proofs.YtpigkppnelnhiaaGreat
