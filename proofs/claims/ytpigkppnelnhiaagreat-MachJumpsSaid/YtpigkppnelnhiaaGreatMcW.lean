/- Package word for package mach: Alu, Swap, Holds, over Core: texts in one. -/
import Derived.Test.YtpigkppnelnhiaaGreatCore
import Derived.MapKept
import Derived.Carry
import Derived.WalkKit
import Derived.ProofKit
import Derived.OpenShut
import Derived.Lib.Hide
/- What stands below Alu: the operations of words, found in maps of method expressions; the halves of two words. -/
namespace Go.Proofs.YtpigkppnelnhiaaGreat
open Go.ChangeShapes Go.WideShapes Go.ChangeAt Go.RowKit
open Bits

theorem add_w (x y : Int) (_hx : 0 ≤ x ∧ x < 18446744073709551616) (_hy : 0 ≤ y ∧ y < 18446744073709551616) (w : World) :
    Calls Tryz.prog 142 #[.int .u64 x, .int .u64 y] w fun e w' => e = .returned (.int .u64 (IntKind.u64.wrap (x + y))) ∧ w = w' := by
  go_enter Tryz.func142, Tryz.ntmps142
  go_wp2_with fail
  go_ret
  exact ⟨rfl, rfl⟩

theorem sub_w (x y : Int) (_hx : 0 ≤ x ∧ x < 18446744073709551616) (_hy : 0 ≤ y ∧ y < 18446744073709551616) (w : World) :
    Calls Tryz.prog 143 #[.int .u64 x, .int .u64 y] w fun e w' => e = .returned (.int .u64 (IntKind.u64.wrap (x - y))) ∧ w = w' := by
  go_enter Tryz.func143, Tryz.ntmps143
  go_wp2_with fail
  go_ret
  exact ⟨rfl, rfl⟩

theorem mul_w (x y : Int) (_hx : 0 ≤ x ∧ x < 18446744073709551616) (_hy : 0 ≤ y ∧ y < 18446744073709551616) (w : World) :
    Calls Tryz.prog 144 #[.int .u64 x, .int .u64 y] w fun e w' => e = .returned (.int .u64 (IntKind.u64.wrap (x * y))) ∧ w = w' := by
  go_enter Tryz.func144, Tryz.ntmps144
  go_wp2_with fail
  go_ret
  exact ⟨rfl, rfl⟩

theorem or_w (x y : Int) (_hx : 0 ≤ x ∧ x < 18446744073709551616) (_hy : 0 ≤ y ∧ y < 18446744073709551616) (w : World) :
    Calls Tryz.prog 145 #[.int .u64 x, .int .u64 y] w fun e w' => e = .returned (.int .u64 (bits BinOp.or IntKind.u64 x y)) ∧ w = w' := by
  go_enter Tryz.func145, Tryz.ntmps145
  go_wp2_with fail
  go_ret
  exact ⟨rfl, rfl⟩

theorem and_w (x y : Int) (_hx : 0 ≤ x ∧ x < 18446744073709551616) (_hy : 0 ≤ y ∧ y < 18446744073709551616) (w : World) :
    Calls Tryz.prog 146 #[.int .u64 x, .int .u64 y] w fun e w' => e = .returned (.int .u64 (bits BinOp.and IntKind.u64 x y)) ∧ w = w' := by
  go_enter Tryz.func146, Tryz.ntmps146
  go_wp2_with fail
  go_ret
  exact ⟨rfl, rfl⟩

theorem xor_w (x y : Int) (_hx : 0 ≤ x ∧ x < 18446744073709551616) (_hy : 0 ≤ y ∧ y < 18446744073709551616) (w : World) :
    Calls Tryz.prog 147 #[.int .u64 x, .int .u64 y] w fun e w' => e = .returned (.int .u64 (bits BinOp.xor IntKind.u64 x y)) ∧ w = w' := by
  go_enter Tryz.func147, Tryz.ntmps147
  go_wp2_with fail
  go_ret
  exact ⟨rfl, rfl⟩

theorem neg_w (x y : Int) (_hx : 0 ≤ x ∧ x < 18446744073709551616) (_hy : 0 ≤ y ∧ y < 18446744073709551616) (w : World) :
    Calls Tryz.prog 148 #[.int .u64 x, .int .u64 y] w fun e w' => e = .returned (.int .u64 (IntKind.u64.wrap (-x))) ∧ w = w' := by
  go_enter Tryz.func148, Tryz.ntmps148
  go_wp2_with fail
  go_ret
  exact ⟨rfl, rfl⟩

theorem mov_w (x y : Int) (_hx : 0 ≤ x ∧ x < 18446744073709551616) (_hy : 0 ≤ y ∧ y < 18446744073709551616) (w : World) :
    Calls Tryz.prog 149 #[.int .u64 x, .int .u64 y] w fun e w' => e = .returned (.int .u64 (y)) ∧ w = w' := by
  go_enter Tryz.func149, Tryz.ntmps149
  go_wp2_with fail
  go_ret
  exact ⟨rfl, rfl⟩

theorem lsh_w (x y : Int) (_hx : 0 ≤ x ∧ x < 18446744073709551616) (hy : 0 ≤ y ∧ y < 18446744073709551616) (w : World) :
    Calls Tryz.prog 150 #[.int .u64 x, .int .u64 y] w fun e w' => e = .returned (.int .u64 (IntKind.u64.wrap (x * 2 ^ (y % 64).toNat))) ∧ w = w' := by
  go_enter Tryz.func150, Tryz.ntmps150
  go_wp2_with (go_at_call 107; refine (low_any _ 6 (by omega) hy _).mono ?_; rintro e w' ⟨rfl, rfl⟩)
  go_ret
  exact ⟨rfl, rfl⟩

theorem rsh_w (x y : Int) (_hx : 0 ≤ x ∧ x < 18446744073709551616) (hy : 0 ≤ y ∧ y < 18446744073709551616) (w : World) :
    Calls Tryz.prog 151 #[.int .u64 x, .int .u64 y] w fun e w' => e = .returned (.int .u64 (x / 2 ^ (y % 64).toNat)) ∧ w = w' := by
  go_enter Tryz.func151, Tryz.ntmps151
  go_wp2_with (go_at_call 107; refine (low_any _ 6 (by omega) hy _).mono ?_; rintro e w' ⟨rfl, rfl⟩)
  go_ret
  exact ⟨rfl, rfl⟩

theorem arsh_w (x y : Int) (_hx : 0 ≤ x ∧ x < 18446744073709551616) (hy : 0 ≤ y ∧ y < 18446744073709551616) (w : World) :
    Calls Tryz.prog 152 #[.int .u64 x, .int .u64 y] w fun e w' => e = .returned (.int .u64 (IntKind.u64.wrap (wrap64 x / 2 ^ (y % 64).toNat))) ∧ w = w' := by
  go_enter Tryz.func152, Tryz.ntmps152
  go_wp2_with (go_at_call 107; refine (low_any _ 6 (by omega) hy _).mono ?_; rintro e w' ⟨rfl, rfl⟩)
  go_ret
  exact ⟨rfl, rfl⟩

theorem div_w (x y : Int) (_hx : 0 ≤ x ∧ x < 18446744073709551616) (_hy : 0 ≤ y ∧ y < 18446744073709551616) (h0 : 1 ≤ y) (w : World) :
    Calls Tryz.prog 153 #[.int .u64 x, .int .u64 y] w fun e w' => e = .returned (.int .u64 (x / y)) ∧ w = w' := by
  go_enter Tryz.func153, Tryz.ntmps153
  go_wp2_with fail
  go_ret
  exact ⟨rfl, rfl⟩

theorem mod_w (x y : Int) (_hx : 0 ≤ x ∧ x < 18446744073709551616) (_hy : 0 ≤ y ∧ y < 18446744073709551616) (h0 : 1 ≤ y) (w : World) :
    Calls Tryz.prog 154 #[.int .u64 x, .int .u64 y] w fun e w' => e = .returned (.int .u64 (x % y)) ∧ w = w' := by
  go_enter Tryz.func154, Tryz.ntmps154
  go_wp2_with fail
  go_ret
  exact ⟨rfl, rfl⟩

theorem sdiv_w (x y : Int) (_hx : 0 ≤ x ∧ x < 18446744073709551616) (_hy : 0 ≤ y ∧ y < 18446744073709551616) (h0 : ¬ wrap64 y = 0) (w : World) :
    Calls Tryz.prog 155 #[.int .u64 x, .int .u64 y] w fun e w' => e = .returned (.int .u64 (IntKind.u64.wrap (wrap64 ((wrap64 x).tdiv (wrap64 y))))) ∧ w = w' := by
  go_enter Tryz.func155, Tryz.ntmps155
  go_wp2_with fail
  go_ret
  exact ⟨rfl, rfl⟩

theorem smod_w (x y : Int) (_hx : 0 ≤ x ∧ x < 18446744073709551616) (_hy : 0 ≤ y ∧ y < 18446744073709551616) (h0 : ¬ wrap64 y = 0) (w : World) :
    Calls Tryz.prog 156 #[.int .u64 x, .int .u64 y] w fun e w' => e = .returned (.int .u64 (IntKind.u64.wrap ((wrap64 x).tmod (wrap64 y)))) ∧ w = w' := by
  go_enter Tryz.func156, Tryz.ntmps156
  go_wp2_with fail
  go_ret
  exact ⟨rfl, rfl⟩


/-! ### maps of functions -/
abbrev TM : TypeId := 180
theorem under_map : Tryz.prog.underlying TM = some (.map 3 140) := by kernel_rfl

theorem run_ins (w : World) (es es' : Array MapEntry) (c : Nat) (k : Int) (v : Value) (hf : Instr.findNow (.int .i64) (.int .i64 k) es.toList 0 = some none) (he : es.push { key := .int .i64 k, val := v, born := c } = es') :
    (Instr.mapUpdate TM (.map (some w.heap.size)) (.int .i64 k) v).run Tryz.prog (w.alloc (.map es c)) = .ok () (w.alloc (.map es' (c + 1))) := by
  subst he
  have hb : (w.alloc (.map es c)).heap[w.heap.size]? = some (.map es c) := (MapKept.heap_alloc w _).1
  have hk := Tryz.underlying3
  have hc := MapKept.run_checkKey (P := Tryz.prog) (w := w.alloc (.map es c)) (k := .int .i64 k) hk (by simp [MapKept.IsKey]) false 9999
  have hs : (w.heap.push (.map es c)).setIfInBounds w.heap.size (.map (es.push { key := .int .i64 k, val := v, born := c }) (c + 1)) = w.heap.push (.map (es.push { key := .int .i64 k, val := v, born := c }) (c + 1)) := by
    apply Array.ext_getElem?
    intro i
    rw [Array.getElem?_setIfInBounds]
    by_cases h : w.heap.size = i
    · subst h; simp
    · rw [if_neg h, Array.getElem?_push, Array.getElem?_push, if_neg (Ne.symm h), if_neg (Ne.symm h)]
  simp [Instr.mapUpdate, run_underlying under_map, MapKept.run_getObj_map hb, hc, MapKept.run_findKey hk hf, MapKept.run_setObj_map _ hb, Result.andThen]
  show { w with heap := _ } = ({ w with heap := _ } : World)
  congr 1

theorem run_look (W : World) (r : Nat) (es : Array MapEntry) (c : Nat) (hb : W.heap[r]? = some (.map es c)) (k : Int) (i : Nat) (v : Value) (hf : Instr.findNow (.int .i64) (.int .i64 k) es.toList 0 = some (some (i, v))) :
    (Instr.lookup TM (.map (some r)) (.int .i64 k) true).run Tryz.prog W = .ok (.tuple #[v, .bool true]) W := by
  have hk := Tryz.underlying3
  have hc := MapKept.run_checkKey (P := Tryz.prog) (w := W) (k := .int .i64 k) hk (by simp [MapKept.IsKey]) es.isEmpty 9999
  simp [Instr.lookup, run_underlying under_map, MapKept.run_getObj_map hb, hc, MapKept.run_findKey hk hf, Result.andThen]
theorem run_look_none (W : World) (r : Nat) (es : Array MapEntry) (c : Nat) (hb : W.heap[r]? = some (.map es c)) (k : Int) (hf : Instr.findNow (.int .i64) (.int .i64 k) es.toList 0 = some none) :
    (Instr.lookup TM (.map (some r)) (.int .i64 k) true).run Tryz.prog W = .ok (.tuple #[.nilFunc, .bool false]) W := by
  have hk := Tryz.underlying3
  have hc := MapKept.run_checkKey (P := Tryz.prog) (w := W) (k := .int .i64 k) hk (by simp [MapKept.IsKey]) es.isEmpty 9999
  simp [Instr.lookup, run_underlying under_map, MapKept.run_getObj_map hb, hc, MapKept.run_findKey hk hf, Result.andThen]

def plainEs : Array MapEntry := #[{ key := .int .i64 1, val := .func (.func 142) #[] #[], born := 0 }, { key := .int .i64 2, val := .func (.func 143) #[] #[], born := 1 }, { key := .int .i64 3, val := .func (.func 144) #[] #[], born := 2 }, { key := .int .i64 8, val := .func (.func 145) #[] #[], born := 3 }, { key := .int .i64 9, val := .func (.func 146) #[] #[], born := 4 }, { key := .int .i64 10, val := .func (.func 147) #[] #[], born := 5 }, { key := .int .i64 14, val := .func (.func 148) #[] #[], born := 6 }, { key := .int .i64 15, val := .func (.func 149) #[] #[], born := 7 }]
set_option maxHeartbeats 1000000 in
theorem plain_any (w : World) : Calls Tryz.prog 131 #[] w fun e w' => e = .returned (.map (some w.heap.size)) ∧ w' = w.alloc (.map plainEs 8) := by
  have hmm := @run_makeMap Tryz.prog
  have i0 := run_ins w #[] #[{ key := .int .i64 1, val := .func (.func 142) #[] #[], born := 0 }] 0 1 (.func (.func 142) #[] #[]) rfl rfl
  have i1 := run_ins w #[{ key := .int .i64 1, val := .func (.func 142) #[] #[], born := 0 }] #[{ key := .int .i64 1, val := .func (.func 142) #[] #[], born := 0 }, { key := .int .i64 2, val := .func (.func 143) #[] #[], born := 1 }] 1 2 (.func (.func 143) #[] #[]) rfl rfl
  have i2 := run_ins w #[{ key := .int .i64 1, val := .func (.func 142) #[] #[], born := 0 }, { key := .int .i64 2, val := .func (.func 143) #[] #[], born := 1 }] #[{ key := .int .i64 1, val := .func (.func 142) #[] #[], born := 0 }, { key := .int .i64 2, val := .func (.func 143) #[] #[], born := 1 }, { key := .int .i64 3, val := .func (.func 144) #[] #[], born := 2 }] 2 3 (.func (.func 144) #[] #[]) rfl rfl
  have i3 := run_ins w #[{ key := .int .i64 1, val := .func (.func 142) #[] #[], born := 0 }, { key := .int .i64 2, val := .func (.func 143) #[] #[], born := 1 }, { key := .int .i64 3, val := .func (.func 144) #[] #[], born := 2 }] #[{ key := .int .i64 1, val := .func (.func 142) #[] #[], born := 0 }, { key := .int .i64 2, val := .func (.func 143) #[] #[], born := 1 }, { key := .int .i64 3, val := .func (.func 144) #[] #[], born := 2 }, { key := .int .i64 8, val := .func (.func 145) #[] #[], born := 3 }] 3 8 (.func (.func 145) #[] #[]) rfl rfl
  have i4 := run_ins w #[{ key := .int .i64 1, val := .func (.func 142) #[] #[], born := 0 }, { key := .int .i64 2, val := .func (.func 143) #[] #[], born := 1 }, { key := .int .i64 3, val := .func (.func 144) #[] #[], born := 2 }, { key := .int .i64 8, val := .func (.func 145) #[] #[], born := 3 }] #[{ key := .int .i64 1, val := .func (.func 142) #[] #[], born := 0 }, { key := .int .i64 2, val := .func (.func 143) #[] #[], born := 1 }, { key := .int .i64 3, val := .func (.func 144) #[] #[], born := 2 }, { key := .int .i64 8, val := .func (.func 145) #[] #[], born := 3 }, { key := .int .i64 9, val := .func (.func 146) #[] #[], born := 4 }] 4 9 (.func (.func 146) #[] #[]) rfl rfl
  have i5 := run_ins w #[{ key := .int .i64 1, val := .func (.func 142) #[] #[], born := 0 }, { key := .int .i64 2, val := .func (.func 143) #[] #[], born := 1 }, { key := .int .i64 3, val := .func (.func 144) #[] #[], born := 2 }, { key := .int .i64 8, val := .func (.func 145) #[] #[], born := 3 }, { key := .int .i64 9, val := .func (.func 146) #[] #[], born := 4 }] #[{ key := .int .i64 1, val := .func (.func 142) #[] #[], born := 0 }, { key := .int .i64 2, val := .func (.func 143) #[] #[], born := 1 }, { key := .int .i64 3, val := .func (.func 144) #[] #[], born := 2 }, { key := .int .i64 8, val := .func (.func 145) #[] #[], born := 3 }, { key := .int .i64 9, val := .func (.func 146) #[] #[], born := 4 }, { key := .int .i64 10, val := .func (.func 147) #[] #[], born := 5 }] 5 10 (.func (.func 147) #[] #[]) rfl rfl
  have i6 := run_ins w #[{ key := .int .i64 1, val := .func (.func 142) #[] #[], born := 0 }, { key := .int .i64 2, val := .func (.func 143) #[] #[], born := 1 }, { key := .int .i64 3, val := .func (.func 144) #[] #[], born := 2 }, { key := .int .i64 8, val := .func (.func 145) #[] #[], born := 3 }, { key := .int .i64 9, val := .func (.func 146) #[] #[], born := 4 }, { key := .int .i64 10, val := .func (.func 147) #[] #[], born := 5 }] #[{ key := .int .i64 1, val := .func (.func 142) #[] #[], born := 0 }, { key := .int .i64 2, val := .func (.func 143) #[] #[], born := 1 }, { key := .int .i64 3, val := .func (.func 144) #[] #[], born := 2 }, { key := .int .i64 8, val := .func (.func 145) #[] #[], born := 3 }, { key := .int .i64 9, val := .func (.func 146) #[] #[], born := 4 }, { key := .int .i64 10, val := .func (.func 147) #[] #[], born := 5 }, { key := .int .i64 14, val := .func (.func 148) #[] #[], born := 6 }] 6 14 (.func (.func 148) #[] #[]) rfl rfl
  have i7 := run_ins w #[{ key := .int .i64 1, val := .func (.func 142) #[] #[], born := 0 }, { key := .int .i64 2, val := .func (.func 143) #[] #[], born := 1 }, { key := .int .i64 3, val := .func (.func 144) #[] #[], born := 2 }, { key := .int .i64 8, val := .func (.func 145) #[] #[], born := 3 }, { key := .int .i64 9, val := .func (.func 146) #[] #[], born := 4 }, { key := .int .i64 10, val := .func (.func 147) #[] #[], born := 5 }, { key := .int .i64 14, val := .func (.func 148) #[] #[], born := 6 }] #[{ key := .int .i64 1, val := .func (.func 142) #[] #[], born := 0 }, { key := .int .i64 2, val := .func (.func 143) #[] #[], born := 1 }, { key := .int .i64 3, val := .func (.func 144) #[] #[], born := 2 }, { key := .int .i64 8, val := .func (.func 145) #[] #[], born := 3 }, { key := .int .i64 9, val := .func (.func 146) #[] #[], born := 4 }, { key := .int .i64 10, val := .func (.func 147) #[] #[], born := 5 }, { key := .int .i64 14, val := .func (.func 148) #[] #[], born := 6 }, { key := .int .i64 15, val := .func (.func 149) #[] #[], born := 7 }] 7 15 (.func (.func 149) #[] #[]) rfl rfl
  go_enter Tryz.func131, Tryz.ntmps131
  go_wp2_with fail
  go_ret
  exact ⟨rfl, rfl⟩
theorem plain_any' (w : World) : Calls Tryz.prog 131 #[] w fun e w' => e = .returned (.map (some w.heap.size)) ∧ w'.heap[w.heap.size]? = some (.map plainEs 8) ∧ Below w.heap.size w w' := by
  refine (plain_any w).mono ?_
  rintro e w' ⟨rfl, rfl⟩
  exact ⟨rfl, (MapKept.heap_alloc w _).1, (Below.refl _ _).alloc (Nat.le_refl _) _⟩

def shiftsEs : Array MapEntry := #[{ key := .int .i64 11, val := .func (.func 150) #[] #[], born := 0 }, { key := .int .i64 12, val := .func (.func 151) #[] #[], born := 1 }, { key := .int .i64 13, val := .func (.func 152) #[] #[], born := 2 }]
set_option maxHeartbeats 1000000 in
theorem shifts_any (w : World) : Calls Tryz.prog 132 #[] w fun e w' => e = .returned (.map (some w.heap.size)) ∧ w' = w.alloc (.map shiftsEs 3) := by
  have hmm := @run_makeMap Tryz.prog
  have i0 := run_ins w #[] #[{ key := .int .i64 11, val := .func (.func 150) #[] #[], born := 0 }] 0 11 (.func (.func 150) #[] #[]) rfl rfl
  have i1 := run_ins w #[{ key := .int .i64 11, val := .func (.func 150) #[] #[], born := 0 }] #[{ key := .int .i64 11, val := .func (.func 150) #[] #[], born := 0 }, { key := .int .i64 12, val := .func (.func 151) #[] #[], born := 1 }] 1 12 (.func (.func 151) #[] #[]) rfl rfl
  have i2 := run_ins w #[{ key := .int .i64 11, val := .func (.func 150) #[] #[], born := 0 }, { key := .int .i64 12, val := .func (.func 151) #[] #[], born := 1 }] #[{ key := .int .i64 11, val := .func (.func 150) #[] #[], born := 0 }, { key := .int .i64 12, val := .func (.func 151) #[] #[], born := 1 }, { key := .int .i64 13, val := .func (.func 152) #[] #[], born := 2 }] 2 13 (.func (.func 152) #[] #[]) rfl rfl
  go_enter Tryz.func132, Tryz.ntmps132
  go_wp2_with fail
  go_ret
  exact ⟨rfl, rfl⟩
theorem shifts_any' (w : World) : Calls Tryz.prog 132 #[] w fun e w' => e = .returned (.map (some w.heap.size)) ∧ w'.heap[w.heap.size]? = some (.map shiftsEs 3) ∧ Below w.heap.size w w' := by
  refine (shifts_any w).mono ?_
  rintro e w' ⟨rfl, rfl⟩
  exact ⟨rfl, (MapKept.heap_alloc w _).1, (Below.refl _ _).alloc (Nat.le_refl _) _⟩

def divisionsEs : Array MapEntry := #[{ key := .int .i64 4, val := .func (.func 153) #[] #[], born := 0 }, { key := .int .i64 5, val := .func (.func 154) #[] #[], born := 1 }, { key := .int .i64 6, val := .func (.func 155) #[] #[], born := 2 }, { key := .int .i64 7, val := .func (.func 156) #[] #[], born := 3 }]
set_option maxHeartbeats 1000000 in
theorem divisions_any (w : World) : Calls Tryz.prog 133 #[] w fun e w' => e = .returned (.map (some w.heap.size)) ∧ w' = w.alloc (.map divisionsEs 4) := by
  have hmm := @run_makeMap Tryz.prog
  have i0 := run_ins w #[] #[{ key := .int .i64 4, val := .func (.func 153) #[] #[], born := 0 }] 0 4 (.func (.func 153) #[] #[]) rfl rfl
  have i1 := run_ins w #[{ key := .int .i64 4, val := .func (.func 153) #[] #[], born := 0 }] #[{ key := .int .i64 4, val := .func (.func 153) #[] #[], born := 0 }, { key := .int .i64 5, val := .func (.func 154) #[] #[], born := 1 }] 1 5 (.func (.func 154) #[] #[]) rfl rfl
  have i2 := run_ins w #[{ key := .int .i64 4, val := .func (.func 153) #[] #[], born := 0 }, { key := .int .i64 5, val := .func (.func 154) #[] #[], born := 1 }] #[{ key := .int .i64 4, val := .func (.func 153) #[] #[], born := 0 }, { key := .int .i64 5, val := .func (.func 154) #[] #[], born := 1 }, { key := .int .i64 6, val := .func (.func 155) #[] #[], born := 2 }] 2 6 (.func (.func 155) #[] #[]) rfl rfl
  have i3 := run_ins w #[{ key := .int .i64 4, val := .func (.func 153) #[] #[], born := 0 }, { key := .int .i64 5, val := .func (.func 154) #[] #[], born := 1 }, { key := .int .i64 6, val := .func (.func 155) #[] #[], born := 2 }] #[{ key := .int .i64 4, val := .func (.func 153) #[] #[], born := 0 }, { key := .int .i64 5, val := .func (.func 154) #[] #[], born := 1 }, { key := .int .i64 6, val := .func (.func 155) #[] #[], born := 2 }, { key := .int .i64 7, val := .func (.func 156) #[] #[], born := 3 }] 3 7 (.func (.func 156) #[] #[]) rfl rfl
  go_enter Tryz.func133, Tryz.ntmps133
  go_wp2_with fail
  go_ret
  exact ⟨rfl, rfl⟩
theorem divisions_any' (w : World) : Calls Tryz.prog 133 #[] w fun e w' => e = .returned (.map (some w.heap.size)) ∧ w'.heap[w.heap.size]? = some (.map divisionsEs 4) ∧ Below w.heap.size w w' := by
  refine (divisions_any w).mono ?_
  rintro e w' ⟨rfl, rfl⟩
  exact ⟨rfl, (MapKept.heap_alloc w _).1, (Below.refl _ _).alloc (Nat.le_refl _) _⟩

end Go.Proofs.YtpigkppnelnhiaaGreat

/- find: which operation a number names; halves: the low halves of two words. -/
namespace Go.Proofs.YtpigkppnelnhiaaGreat
open Go.ChangeShapes Go.WideShapes Go.ChangeAt Go.RowKit
open Bits
set_option linter.unusedVariables false

def Hits (es : Array MapEntry) (k : Int) (f : FuncId) : Prop := ∃ i, Instr.findNow (.int .i64) (.int .i64 k) es.toList 0 = some (some (i, .func (.func f) #[] #[]))
def Misses (es : Array MapEntry) (k : Int) : Prop := Instr.findNow (.int .i64) (.int .i64 k) es.toList 0 = some none

set_option maxHeartbeats 1000000 in
theorem find_1 (op : Int) (y : Int) (f : FuncId) (hf : Hits plainEs op f) (w : World) :
    Calls Tryz.prog 106 #[.int .i64 op, .int .u64 y] w fun e w' => e = .returned (.tuple #[.func (.func f) #[] #[], .int .i64 0]) ∧ Below w.heap.size w w' := by
  obtain ⟨i, hf⟩ := hf
  go_enter Tryz.func106, Tryz.ntmps106
  go_wp2_with fail
  refine (plain_any' _).mono ?_
  rintro e w1 ⟨rfl, hm1, hB1⟩
  have hl1 := run_look _ _ _ _ hm1 op i _ hf
  have hC1 : Below w.heap.size w w1 := hB1
  clear hm1 hB1
  go_wp2_with fail
  go_ret2
  exact ⟨rfl, hC1⟩

set_option maxHeartbeats 1000000 in
theorem find_2 (op : Int) (y : Int) (f : FuncId) (h1 : Misses plainEs op) (hf : Hits shiftsEs op f) (w : World) :
    Calls Tryz.prog 106 #[.int .i64 op, .int .u64 y] w fun e w' => e = .returned (.tuple #[.func (.func f) #[] #[], .int .i64 0]) ∧ Below w.heap.size w w' := by
  obtain ⟨i, hf⟩ := hf
  go_enter Tryz.func106, Tryz.ntmps106
  go_wp2_with fail
  refine (plain_any' _).mono ?_
  rintro e w1 ⟨rfl, hm1, hB1⟩
  have hl1 := run_look_none _ _ _ _ hm1 op h1
  have hC1 : Below w.heap.size w w1 := hB1
  clear hm1 hB1
  go_wp2_with fail
  refine (shifts_any' _).mono ?_
  rintro e w2 ⟨rfl, hm2, hB2⟩
  have hl2 := run_look _ _ _ _ hm2 op i _ hf
  have hC2 : Below w.heap.size w w2 := hC1.trans (hB2.mono hC1.size)
  clear hm2 hB2
  go_wp2_with fail
  go_ret2
  exact ⟨rfl, hC2⟩

set_option maxHeartbeats 1000000 in
theorem find_3 (op : Int) (y : Int) (hy : (y == 0) = false) (f : FuncId) (h1 : Misses plainEs op) (h2 : Misses shiftsEs op) (hf : Hits divisionsEs op f) (w : World) :
    Calls Tryz.prog 106 #[.int .i64 op, .int .u64 y] w fun e w' => e = .returned (.tuple #[.func (.func f) #[] #[], .int .i64 0]) ∧ Below w.heap.size w w' := by
  obtain ⟨i, hf⟩ := hf
  go_enter Tryz.func106, Tryz.ntmps106
  go_wp2_with fail
  refine (plain_any' _).mono ?_
  rintro e w1 ⟨rfl, hm1, hB1⟩
  have hl1 := run_look_none _ _ _ _ hm1 op h1
  have hC1 : Below w.heap.size w w1 := hB1
  clear hm1 hB1
  go_wp2_with fail
  refine (shifts_any' _).mono ?_
  rintro e w2 ⟨rfl, hm2, hB2⟩
  have hl2 := run_look_none _ _ _ _ hm2 op h2
  have hC2 : Below w.heap.size w w2 := hC1.trans (hB2.mono hC1.size)
  clear hm2 hB2
  go_wp2_with fail
  refine (divisions_any' _).mono ?_
  rintro e w3 ⟨rfl, hm3, hB3⟩
  have hl3 := run_look _ _ _ _ hm3 op i _ hf
  have hC3 : Below w.heap.size w w3 := hC2.trans (hB3.mono hC2.size)
  clear hm3 hB3
  go_wp2_with fail
  go_ret2
  exact ⟨rfl, hC3⟩

set_option maxHeartbeats 1000000 in
theorem find_zero (op : Int) (y : Int) (hy : (y == 0) = true) (f : FuncId) (h1 : Misses plainEs op) (h2 : Misses shiftsEs op) (hf : Hits divisionsEs op f) (w : World) :
    Calls Tryz.prog 106 #[.int .i64 op, .int .u64 y] w fun e w' => e = .returned (.tuple #[.nilFunc, .int .i64 84]) ∧ Below w.heap.size w w' := by
  obtain ⟨i, hf⟩ := hf
  go_enter Tryz.func106, Tryz.ntmps106
  go_wp2_with fail
  refine (plain_any' _).mono ?_
  rintro e w1 ⟨rfl, hm1, hB1⟩
  have hl1 := run_look_none _ _ _ _ hm1 op h1
  have hC1 : Below w.heap.size w w1 := hB1
  clear hm1 hB1
  go_wp2_with fail
  refine (shifts_any' _).mono ?_
  rintro e w2 ⟨rfl, hm2, hB2⟩
  have hl2 := run_look_none _ _ _ _ hm2 op h2
  have hC2 : Below w.heap.size w w2 := hC1.trans (hB2.mono hC1.size)
  clear hm2 hB2
  go_wp2_with fail
  refine (divisions_any' _).mono ?_
  rintro e w3 ⟨rfl, hm3, hB3⟩
  have hl3 := run_look _ _ _ _ hm3 op i _ hf
  have hC3 : Below w.heap.size w w3 := hC2.trans (hB3.mono hC2.size)
  clear hm3 hB3
  go_wp2_with fail
  go_ret2
  exact ⟨rfl, hC3⟩

set_option maxHeartbeats 1000000 in
theorem find_none (op : Int) (y : Int) (h1 : Misses plainEs op) (h2 : Misses shiftsEs op) (h3 : Misses divisionsEs op) (w : World) :
    Calls Tryz.prog 106 #[.int .i64 op, .int .u64 y] w fun e w' => e = .returned (.tuple #[.nilFunc, .int .i64 1]) ∧ Below w.heap.size w w' := by
  go_enter Tryz.func106, Tryz.ntmps106
  go_wp2_with fail
  refine (plain_any' _).mono ?_
  rintro e w1 ⟨rfl, hm1, hB1⟩
  have hl1 := run_look_none _ _ _ _ hm1 op h1
  have hC1 : Below w.heap.size w w1 := hB1
  clear hm1 hB1
  go_wp2_with fail
  refine (shifts_any' _).mono ?_
  rintro e w2 ⟨rfl, hm2, hB2⟩
  have hl2 := run_look_none _ _ _ _ hm2 op h2
  have hC2 : Below w.heap.size w w2 := hC1.trans (hB2.mono hC1.size)
  clear hm2 hB2
  go_wp2_with fail
  refine (divisions_any' _).mono ?_
  rintro e w3 ⟨rfl, hm3, hB3⟩
  have hl3 := run_look_none _ _ _ _ hm3 op h3
  have hC3 : Below w.heap.size w w3 := hC2.trans (hB3.mono hC2.size)
  clear hm3 hB3
  go_wp2_with fail
  go_ret2
  exact ⟨rfl, hC3⟩


/-- the low half with its sign, as a word -/
def sg (x : Int) : Int := IntKind.u64.wrap (sx 32 x)

set_option maxHeartbeats 1000000 in
theorem halves_l (op x y : Int) (hx : 0 ≤ x ∧ x < 18446744073709551616) (hy : 0 ≤ y ∧ y < 18446744073709551616) (t : (op == 11) = true ∨ (op == 11) = false ∧ (op == 12) = true) (w : World) :
    Calls Tryz.prog 105 #[.int .i64 op, .int .u64 x, .int .u64 y] w fun e w' => e = .returned (.tuple #[.int .u64 (x % 4294967296), .int .u64 (y % 32)]) ∧ w = w' := by
  have L32 := fun (x : Int) (hx : 0 ≤ x ∧ x < 18446744073709551616) (w : World) => low_any x 32 (by omega) hx w
  have L5 := fun (x : Int) (hx : 0 ≤ x ∧ x < 18446744073709551616) (w : World) => low_any x 5 (by omega) hx w
  have S32 := fun (x : Int) (w : World) => signed_w x 32 (by omega) (by omega) w
  have HL := Lib.hid L32
  have H5 := Lib.hid L5
  have HS := Lib.hid S32
  clear L32 L5 S32
  rcases t with t | ⟨t, t'⟩
  all_goals
    go_enter Tryz.func105, Tryz.ntmps105
    go_wp2_with fail
    refine (HL.out _ hx _).mono ?_
    rintro e w' ⟨rfl, rfl⟩
    go_wp2_with fail
    refine (H5.out _ hy _).mono ?_
    rintro e w' ⟨rfl, rfl⟩
    go_wp2_with fail
    go_ret2
    exact ⟨rfl, rfl⟩

set_option maxHeartbeats 1000000 in
theorem halves_a (op x y : Int) (hx : 0 ≤ x ∧ x < 18446744073709551616) (hy : 0 ≤ y ∧ y < 18446744073709551616) (t1 : (op == 11) = false) (t2 : (op == 12) = false) (t3 : (op == 13) = true) (w : World) :
    Calls Tryz.prog 105 #[.int .i64 op, .int .u64 x, .int .u64 y] w fun e w' => e = .returned (.tuple #[.int .u64 (sg x), .int .u64 (y % 32)]) ∧ w = w' := by
  have L32 := fun (x : Int) (hx : 0 ≤ x ∧ x < 18446744073709551616) (w : World) => low_any x 32 (by omega) hx w
  have L5 := fun (x : Int) (hx : 0 ≤ x ∧ x < 18446744073709551616) (w : World) => low_any x 5 (by omega) hx w
  have S32 := fun (x : Int) (w : World) => signed_w x 32 (by omega) (by omega) w
  have HL := Lib.hid L32
  have H5 := Lib.hid L5
  have HS := Lib.hid S32
  clear L32 L5 S32
  go_enter Tryz.func105, Tryz.ntmps105

  go_wp2_with fail
  refine (HS.out _ _).mono ?_
  rintro e w' ⟨rfl, rfl⟩
  go_wp2_with fail
  refine (H5.out _ hy _).mono ?_
  rintro e w' ⟨rfl, rfl⟩
  go_wp2_with fail
  go_ret2
  exact ⟨rfl, rfl⟩

set_option maxHeartbeats 1000000 in
theorem halves_s (op x y : Int) (hx : 0 ≤ x ∧ x < 18446744073709551616) (hy : 0 ≤ y ∧ y < 18446744073709551616) (t1 : (op == 11) = false) (t2 : (op == 12) = false) (t3 : (op == 13) = false) (t : (op == 6) = true ∨ (op == 6) = false ∧ (op == 7) = true) (w : World) :
    Calls Tryz.prog 105 #[.int .i64 op, .int .u64 x, .int .u64 y] w fun e w' => e = .returned (.tuple #[.int .u64 (sg x), .int .u64 (sg y)]) ∧ w = w' := by
  have L32 := fun (x : Int) (hx : 0 ≤ x ∧ x < 18446744073709551616) (w : World) => low_any x 32 (by omega) hx w
  have L5 := fun (x : Int) (hx : 0 ≤ x ∧ x < 18446744073709551616) (w : World) => low_any x 5 (by omega) hx w
  have S32 := fun (x : Int) (w : World) => signed_w x 32 (by omega) (by omega) w
  have HL := Lib.hid L32
  have H5 := Lib.hid L5
  have HS := Lib.hid S32
  clear L32 L5 S32
  rcases t with t | ⟨t, t'⟩
  all_goals
    go_enter Tryz.func105, Tryz.ntmps105
    go_wp2_with fail
    refine (HS.out _ _).mono ?_
    rintro e w' ⟨rfl, rfl⟩
    go_wp2_with fail
    refine (HS.out _ _).mono ?_
    rintro e w' ⟨rfl, rfl⟩
    go_wp2_with fail
    go_ret2
    exact ⟨rfl, rfl⟩

set_option maxHeartbeats 1000000 in
theorem halves_o (op x y : Int) (hx : 0 ≤ x ∧ x < 18446744073709551616) (hy : 0 ≤ y ∧ y < 18446744073709551616) (t1 : (op == 11) = false) (t2 : (op == 12) = false) (t3 : (op == 13) = false) (t4 : (op == 6) = false) (t5 : (op == 7) = false) (w : World) :
    Calls Tryz.prog 105 #[.int .i64 op, .int .u64 x, .int .u64 y] w fun e w' => e = .returned (.tuple #[.int .u64 (x % 4294967296), .int .u64 (y % 4294967296)]) ∧ w = w' := by
  have L32 := fun (x : Int) (hx : 0 ≤ x ∧ x < 18446744073709551616) (w : World) => low_any x 32 (by omega) hx w
  have L5 := fun (x : Int) (hx : 0 ≤ x ∧ x < 18446744073709551616) (w : World) => low_any x 5 (by omega) hx w
  have S32 := fun (x : Int) (w : World) => signed_w x 32 (by omega) (by omega) w
  have HL := Lib.hid L32
  have H5 := Lib.hid L5
  have HS := Lib.hid S32
  clear L32 L5 S32
  go_enter Tryz.func105, Tryz.ntmps105

  go_wp2_with fail
  refine (HL.out _ hx _).mono ?_
  rintro e w' ⟨rfl, rfl⟩
  go_wp2_with fail
  refine (HL.out _ hy _).mono ?_
  rintro e w' ⟨rfl, rfl⟩
  go_wp2_with fail
  go_ret2
  exact ⟨rfl, rfl⟩

end Go.Proofs.YtpigkppnelnhiaaGreat

/- Alu: what it answers, for every operation, two words, wide and narrow. -/
namespace Go.Proofs.YtpigkppnelnhiaaGreat
open Go.ChangeShapes Go.WideShapes Go.ChangeAt Go.RowKit
open Bits
set_option linter.unusedVariables false

/-- an operation of two words -/
def wv (op x y : Int) : Int :=
  if op = 1 then IntKind.u64.wrap (x + y) else
  if op = 2 then IntKind.u64.wrap (x - y) else
  if op = 3 then IntKind.u64.wrap (x * y) else
  if op = 4 then x / y else
  if op = 5 then x % y else
  if op = 6 then IntKind.u64.wrap (wrap64 ((wrap64 x).tdiv (wrap64 y))) else
  if op = 7 then IntKind.u64.wrap ((wrap64 x).tmod (wrap64 y)) else
  if op = 8 then bits BinOp.or IntKind.u64 x y else
  if op = 9 then bits BinOp.and IntKind.u64 x y else
  if op = 10 then bits BinOp.xor IntKind.u64 x y else
  if op = 11 then IntKind.u64.wrap (x * 2 ^ (y % 64).toNat) else
  if op = 12 then x / 2 ^ (y % 64).toNat else
  if op = 13 then IntKind.u64.wrap (wrap64 x / 2 ^ (y % 64).toNat) else
  if op = 14 then IntKind.u64.wrap (-x) else
  if op = 15 then y else
  0
/-- the halves on which an operation is done -/
def hv1 (op x : Int) : Int := if op = 13 ∨ op = 6 ∨ op = 7 then sg x else x % 4294967296
def hv2 (op y : Int) : Int := if op = 11 ∨ op = 12 ∨ op = 13 then y % 32 else if op = 6 ∨ op = 7 then sg y else y % 4294967296
def aluV (op : Int) (n : Bool) (a b : Int) : Int :=
  if n = true then wv op (hv1 op (IntKind.u64.wrap a)) (hv2 op (IntKind.u64.wrap b)) % 4294967296 else wrap64 (wv op (IntKind.u64.wrap a) (IntKind.u64.wrap b))
/-- the second operand of a division -/
def dv (op : Int) (n : Bool) (b : Int) : Int := if n = true then hv2 op (IntKind.u64.wrap b) else IntKind.u64.wrap b
def aluE (op : Int) (n : Bool) (b : Int) : Int :=
  if op < 1 ∨ 15 < op then 1 else if (4 ≤ op ∧ op ≤ 7) ∧ dv op n b = 0 then 84 else 0
def aluR (op : Int) (n : Bool) (a b : Int) : Int := if aluE op n b = 0 then aluV op n a b else 0

theorem sg_rng (x : Int) : 0 ≤ sg x ∧ sg x < 18446744073709551616 := by unfold sg; rw [IntKind.wrap_u64]; omega
theorem un_rng (x : Int) : 0 ≤ IntKind.u64.wrap x ∧ IntKind.u64.wrap x < 18446744073709551616 := by rw [IntKind.wrap_u64]; omega
theorem m32_rng (x : Int) : 0 ≤ x % 4294967296 ∧ x % 4294967296 < 18446744073709551616 := by omega
theorem m5_rng (x : Int) : 0 ≤ x % 32 ∧ x % 32 < 18446744073709551616 := by omega
theorem bits_rng (op : BinOp) (x y : Int) : 0 ≤ bits op IntKind.u64 x y ∧ bits op IntKind.u64 x y < 18446744073709551616 := by
  unfold bits; exact un_rng _
theorem w64_zero {y : Int} (hy : 0 ≤ y ∧ y < 18446744073709551616) (h : 1 ≤ y) : ¬ wrap64 y = 0 := by unfold wrap64; omega

theorem shr_rng {x : Int} (h : 0 ≤ x ∧ x < 18446744073709551616) (k : Nat) : 0 ≤ x / 2 ^ k ∧ x / 2 ^ k < 18446744073709551616 := by
  have hp := pow_pos' k
  exact ⟨Int.ediv_nonneg h.1 (Int.le_of_lt hp), Int.lt_of_le_of_lt (Int.ediv_le_self _ h.1) h.2⟩
theorem div_rng {x y : Int} (h : 0 ≤ x ∧ x < 18446744073709551616) (hy : 1 ≤ y) : 0 ≤ x / y ∧ x / y < 18446744073709551616 :=
  ⟨Int.ediv_nonneg h.1 (by omega), Int.lt_of_le_of_lt (Int.ediv_le_self _ h.1) h.2⟩
theorem mod_rng {x y : Int} (h : 0 ≤ x ∧ x < 18446744073709551616) (hy : 1 ≤ y) : 0 ≤ x % y ∧ x % y < 18446744073709551616 :=
  ⟨Int.emod_nonneg _ (by omega), by have h1 := Int.emod_nonneg x (show y ≠ 0 by omega); have h2 := Int.ediv_nonneg h.1 (show 0 ≤ y by omega); have h3 := Int.mul_nonneg (show 0 ≤ y by omega) h2; have h4 := Int.emod_def x y; omega⟩

theorem wv_1 (x y : Int) : wv 1 x y = IntKind.u64.wrap (x + y) := by unfold wv; rw [if_pos rfl]
theorem hv1_1 (x : Int) : hv1 1 x = x % 4294967296 := by unfold hv1; rw [if_neg (by decide)]
theorem hv2_1 (y : Int) : hv2 1 y = y % 4294967296 := by unfold hv2; rw [if_neg (by decide), if_neg (by decide)]
theorem wv_2 (x y : Int) : wv 2 x y = IntKind.u64.wrap (x - y) := by unfold wv; rw [if_neg (by decide), if_pos rfl]
theorem hv1_2 (x : Int) : hv1 2 x = x % 4294967296 := by unfold hv1; rw [if_neg (by decide)]
theorem hv2_2 (y : Int) : hv2 2 y = y % 4294967296 := by unfold hv2; rw [if_neg (by decide), if_neg (by decide)]
theorem wv_3 (x y : Int) : wv 3 x y = IntKind.u64.wrap (x * y) := by unfold wv; rw [if_neg (by decide), if_neg (by decide), if_pos rfl]
theorem hv1_3 (x : Int) : hv1 3 x = x % 4294967296 := by unfold hv1; rw [if_neg (by decide)]
theorem hv2_3 (y : Int) : hv2 3 y = y % 4294967296 := by unfold hv2; rw [if_neg (by decide), if_neg (by decide)]
theorem wv_4 (x y : Int) : wv 4 x y = x / y := by unfold wv; rw [if_neg (by decide), if_neg (by decide), if_neg (by decide), if_pos rfl]
theorem hv1_4 (x : Int) : hv1 4 x = x % 4294967296 := by unfold hv1; rw [if_neg (by decide)]
theorem hv2_4 (y : Int) : hv2 4 y = y % 4294967296 := by unfold hv2; rw [if_neg (by decide), if_neg (by decide)]
theorem wv_5 (x y : Int) : wv 5 x y = x % y := by unfold wv; rw [if_neg (by decide), if_neg (by decide), if_neg (by decide), if_neg (by decide), if_pos rfl]
theorem hv1_5 (x : Int) : hv1 5 x = x % 4294967296 := by unfold hv1; rw [if_neg (by decide)]
theorem hv2_5 (y : Int) : hv2 5 y = y % 4294967296 := by unfold hv2; rw [if_neg (by decide), if_neg (by decide)]
theorem wv_6 (x y : Int) : wv 6 x y = IntKind.u64.wrap (wrap64 ((wrap64 x).tdiv (wrap64 y))) := by unfold wv; rw [if_neg (by decide), if_neg (by decide), if_neg (by decide), if_neg (by decide), if_neg (by decide), if_pos rfl]
theorem hv1_6 (x : Int) : hv1 6 x = sg x := by unfold hv1; rw [if_pos (by decide)]
theorem hv2_6 (y : Int) : hv2 6 y = sg y := by unfold hv2; rw [if_neg (by decide), if_pos (by decide)]
theorem wv_7 (x y : Int) : wv 7 x y = IntKind.u64.wrap ((wrap64 x).tmod (wrap64 y)) := by unfold wv; rw [if_neg (by decide), if_neg (by decide), if_neg (by decide), if_neg (by decide), if_neg (by decide), if_neg (by decide), if_pos rfl]
theorem hv1_7 (x : Int) : hv1 7 x = sg x := by unfold hv1; rw [if_pos (by decide)]
theorem hv2_7 (y : Int) : hv2 7 y = sg y := by unfold hv2; rw [if_neg (by decide), if_pos (by decide)]
theorem wv_8 (x y : Int) : wv 8 x y = bits BinOp.or IntKind.u64 x y := by unfold wv; rw [if_neg (by decide), if_neg (by decide), if_neg (by decide), if_neg (by decide), if_neg (by decide), if_neg (by decide), if_neg (by decide), if_pos rfl]
theorem hv1_8 (x : Int) : hv1 8 x = x % 4294967296 := by unfold hv1; rw [if_neg (by decide)]
theorem hv2_8 (y : Int) : hv2 8 y = y % 4294967296 := by unfold hv2; rw [if_neg (by decide), if_neg (by decide)]
theorem wv_9 (x y : Int) : wv 9 x y = bits BinOp.and IntKind.u64 x y := by unfold wv; rw [if_neg (by decide), if_neg (by decide), if_neg (by decide), if_neg (by decide), if_neg (by decide), if_neg (by decide), if_neg (by decide), if_neg (by decide), if_pos rfl]
theorem hv1_9 (x : Int) : hv1 9 x = x % 4294967296 := by unfold hv1; rw [if_neg (by decide)]
theorem hv2_9 (y : Int) : hv2 9 y = y % 4294967296 := by unfold hv2; rw [if_neg (by decide), if_neg (by decide)]
theorem wv_10 (x y : Int) : wv 10 x y = bits BinOp.xor IntKind.u64 x y := by unfold wv; rw [if_neg (by decide), if_neg (by decide), if_neg (by decide), if_neg (by decide), if_neg (by decide), if_neg (by decide), if_neg (by decide), if_neg (by decide), if_neg (by decide), if_pos rfl]
theorem hv1_10 (x : Int) : hv1 10 x = x % 4294967296 := by unfold hv1; rw [if_neg (by decide)]
theorem hv2_10 (y : Int) : hv2 10 y = y % 4294967296 := by unfold hv2; rw [if_neg (by decide), if_neg (by decide)]
theorem wv_11 (x y : Int) : wv 11 x y = IntKind.u64.wrap (x * 2 ^ (y % 64).toNat) := by unfold wv; rw [if_neg (by decide), if_neg (by decide), if_neg (by decide), if_neg (by decide), if_neg (by decide), if_neg (by decide), if_neg (by decide), if_neg (by decide), if_neg (by decide), if_neg (by decide), if_pos rfl]
theorem hv1_11 (x : Int) : hv1 11 x = x % 4294967296 := by unfold hv1; rw [if_neg (by decide)]
theorem hv2_11 (y : Int) : hv2 11 y = y % 32 := by unfold hv2; rw [if_pos (by decide)]
theorem wv_12 (x y : Int) : wv 12 x y = x / 2 ^ (y % 64).toNat := by unfold wv; rw [if_neg (by decide), if_neg (by decide), if_neg (by decide), if_neg (by decide), if_neg (by decide), if_neg (by decide), if_neg (by decide), if_neg (by decide), if_neg (by decide), if_neg (by decide), if_neg (by decide), if_pos rfl]
theorem hv1_12 (x : Int) : hv1 12 x = x % 4294967296 := by unfold hv1; rw [if_neg (by decide)]
theorem hv2_12 (y : Int) : hv2 12 y = y % 32 := by unfold hv2; rw [if_pos (by decide)]
theorem wv_13 (x y : Int) : wv 13 x y = IntKind.u64.wrap (wrap64 x / 2 ^ (y % 64).toNat) := by unfold wv; rw [if_neg (by decide), if_neg (by decide), if_neg (by decide), if_neg (by decide), if_neg (by decide), if_neg (by decide), if_neg (by decide), if_neg (by decide), if_neg (by decide), if_neg (by decide), if_neg (by decide), if_neg (by decide), if_pos rfl]
theorem hv1_13 (x : Int) : hv1 13 x = sg x := by unfold hv1; rw [if_pos (by decide)]
theorem hv2_13 (y : Int) : hv2 13 y = y % 32 := by unfold hv2; rw [if_pos (by decide)]
theorem wv_14 (x y : Int) : wv 14 x y = IntKind.u64.wrap (-x) := by unfold wv; rw [if_neg (by decide), if_neg (by decide), if_neg (by decide), if_neg (by decide), if_neg (by decide), if_neg (by decide), if_neg (by decide), if_neg (by decide), if_neg (by decide), if_neg (by decide), if_neg (by decide), if_neg (by decide), if_neg (by decide), if_pos rfl]
theorem hv1_14 (x : Int) : hv1 14 x = x % 4294967296 := by unfold hv1; rw [if_neg (by decide)]
theorem hv2_14 (y : Int) : hv2 14 y = y % 4294967296 := by unfold hv2; rw [if_neg (by decide), if_neg (by decide)]
theorem wv_15 (x y : Int) : wv 15 x y = y := by unfold wv; rw [if_neg (by decide), if_neg (by decide), if_neg (by decide), if_neg (by decide), if_neg (by decide), if_neg (by decide), if_neg (by decide), if_neg (by decide), if_neg (by decide), if_neg (by decide), if_neg (by decide), if_neg (by decide), if_neg (by decide), if_neg (by decide), if_pos rfl]
theorem hv1_15 (x : Int) : hv1 15 x = x % 4294967296 := by unfold hv1; rw [if_neg (by decide)]
theorem hv2_15 (y : Int) : hv2 15 y = y % 4294967296 := by unfold hv2; rw [if_neg (by decide), if_neg (by decide)]
theorem hit_1 : Hits plainEs 1 142 := ⟨0, rfl⟩
theorem hit_2 : Hits plainEs 2 143 := ⟨1, rfl⟩
theorem hit_3 : Hits plainEs 3 144 := ⟨2, rfl⟩
theorem hit_8 : Hits plainEs 8 145 := ⟨3, rfl⟩
theorem hit_9 : Hits plainEs 9 146 := ⟨4, rfl⟩
theorem hit_10 : Hits plainEs 10 147 := ⟨5, rfl⟩
theorem hit_14 : Hits plainEs 14 148 := ⟨6, rfl⟩
theorem hit_15 : Hits plainEs 15 149 := ⟨7, rfl⟩
theorem hit_11 : Hits shiftsEs 11 150 := ⟨0, rfl⟩
theorem missP_11 : Misses plainEs 11 := rfl
theorem hit_12 : Hits shiftsEs 12 151 := ⟨1, rfl⟩
theorem missP_12 : Misses plainEs 12 := rfl
theorem hit_13 : Hits shiftsEs 13 152 := ⟨2, rfl⟩
theorem missP_13 : Misses plainEs 13 := rfl
theorem hit_4 : Hits divisionsEs 4 153 := ⟨0, rfl⟩
theorem missP_4 : Misses plainEs 4 := rfl
theorem missS_4 : Misses shiftsEs 4 := rfl
theorem hit_5 : Hits divisionsEs 5 154 := ⟨1, rfl⟩
theorem missP_5 : Misses plainEs 5 := rfl
theorem missS_5 : Misses shiftsEs 5 := rfl
theorem hit_6 : Hits divisionsEs 6 155 := ⟨2, rfl⟩
theorem missP_6 : Misses plainEs 6 := rfl
theorem missS_6 : Misses shiftsEs 6 := rfl
theorem hit_7 : Hits divisionsEs 7 156 := ⟨3, rfl⟩
theorem missP_7 : Misses plainEs 7 := rfl
theorem missS_7 : Misses shiftsEs 7 := rfl
theorem wv_1n (x y : Int) : wv 1 (x % 4294967296) (y % 4294967296) = x % 4294967296 + y % 4294967296 := by rw [wv_1]; exact IntWalk.u64_in _ (by omega)
theorem dv_f (op b : Int) : dv op false b = IntKind.u64.wrap b := by unfold dv; rw [if_neg Bool.false_ne_true]
theorem dv_t (op b : Int) : dv op true b = hv2 op (IntKind.u64.wrap b) := by unfold dv; rw [if_pos rfl]
theorem aluV_f (op a b : Int) : aluV op false a b = wrap64 (wv op (IntKind.u64.wrap a) (IntKind.u64.wrap b)) := by unfold aluV; rw [if_neg Bool.false_ne_true]
theorem aluV_t (op a b : Int) : aluV op true a b = wv op (hv1 op (IntKind.u64.wrap a)) (hv2 op (IntKind.u64.wrap b)) % 4294967296 := by unfold aluV; rw [if_pos rfl]

set_option maxHeartbeats 1000000 in
theorem alu_add (n : Bool) (a b : Int) (w : World) :
    Calls Tryz.prog 81 #[.int .i64 1, .bool n, .int .i64 a, .int .i64 b] w fun e w' => e = .returned (.tuple #[.int .i64 (aluV 1 n a b), .int .i64 0]) ∧ Below w.heap.size w w' := by
  cases n
  · have HV := Lib.hid (show wrap64 (IntKind.u64.wrap ((IntKind.u64.wrap a) + (IntKind.u64.wrap b))) = aluV 1 false a b by rw [aluV_f, wv_1])
    go_enter Tryz.func81, Tryz.ntmps81
    go_wp2_with fail
    refine (find_1 1 _ 142 hit_1 _).mono ?_
    rintro e w1 ⟨rfl, hB1⟩
    go_wp2_with fail
    refine (add_w _ _ (un_rng a) (un_rng b) _).mono ?_
    rintro e w' ⟨rfl, rfl⟩
    go_wp2_with fail
    go_ret2
    refine ⟨?_, hB1⟩
    rw [← HV.out]
    rfl
  · have HV := Lib.hid (show (IntKind.u64.wrap a + IntKind.u64.wrap b) % 4294967296 = aluV 1 true a b by rw [aluV_t, hv1_1, hv2_1, wv_1n, Int.emod_add_emod, Int.add_emod_emod])
    go_enter Tryz.func81, Tryz.ntmps81
    go_wp2_with fail
    refine (halves_o _ _ _ (un_rng a) (un_rng b) rfl rfl rfl rfl rfl _).mono ?_
    rintro e w' ⟨rfl, rfl⟩
    go_wp2_with fail
    refine (find_1 1 _ 142 hit_1 _).mono ?_
    rintro e w1 ⟨rfl, hB1⟩
    go_wp2_with fail
    refine (add_w _ _ (m32_rng _) (m32_rng _) _).mono ?_
    rintro e w' ⟨rfl, rfl⟩
    go_wp2_with fail
    refine (low_any _ 32 (by omega) (by omega) _).mono ?_
    rintro e w' ⟨rfl, rfl⟩
    go_wp2_with fail
    go_ret2
    refine ⟨?_, hB1⟩
    rw [← HV.out]
    rfl

set_option maxHeartbeats 1000000 in
theorem alu_sub (n : Bool) (a b : Int) (w : World) :
    Calls Tryz.prog 81 #[.int .i64 2, .bool n, .int .i64 a, .int .i64 b] w fun e w' => e = .returned (.tuple #[.int .i64 (aluV 2 n a b), .int .i64 0]) ∧ Below w.heap.size w w' := by
  cases n
  · have HV := Lib.hid (show wrap64 (IntKind.u64.wrap ((IntKind.u64.wrap a) - (IntKind.u64.wrap b))) = aluV 2 false a b by rw [aluV_f, wv_2])
    go_enter Tryz.func81, Tryz.ntmps81
    go_wp2_with fail
    refine (find_1 2 _ 143 hit_2 _).mono ?_
    rintro e w1 ⟨rfl, hB1⟩
    go_wp2_with fail
    refine (sub_w _ _ (un_rng a) (un_rng b) _).mono ?_
    rintro e w' ⟨rfl, rfl⟩
    go_wp2_with fail
    go_ret2
    refine ⟨?_, hB1⟩
    rw [← HV.out]
    rfl
  · have HV := Lib.hid (show (IntKind.u64.wrap ((IntKind.u64.wrap a % 4294967296) - (IntKind.u64.wrap b % 4294967296))) % 4294967296 = aluV 2 true a b by rw [aluV_t, wv_2, hv1_2, hv2_2])
    go_enter Tryz.func81, Tryz.ntmps81
    go_wp2_with fail
    refine (halves_o _ _ _ (un_rng a) (un_rng b) rfl rfl rfl rfl rfl _).mono ?_
    rintro e w' ⟨rfl, rfl⟩
    go_wp2_with fail
    refine (find_1 2 _ 143 hit_2 _).mono ?_
    rintro e w1 ⟨rfl, hB1⟩
    go_wp2_with fail
    refine (sub_w _ _ (m32_rng _) (m32_rng _) _).mono ?_
    rintro e w' ⟨rfl, rfl⟩
    go_wp2_with fail
    refine (low_any _ 32 (by omega) (un_rng _) _).mono ?_
    rintro e w' ⟨rfl, rfl⟩
    go_wp2_with fail
    go_ret2
    refine ⟨?_, hB1⟩
    rw [← HV.out]
    rfl

set_option maxHeartbeats 1000000 in
theorem alu_mul (n : Bool) (a b : Int) (w : World) :
    Calls Tryz.prog 81 #[.int .i64 3, .bool n, .int .i64 a, .int .i64 b] w fun e w' => e = .returned (.tuple #[.int .i64 (aluV 3 n a b), .int .i64 0]) ∧ Below w.heap.size w w' := by
  cases n
  · have HV := Lib.hid (show wrap64 (IntKind.u64.wrap ((IntKind.u64.wrap a) * (IntKind.u64.wrap b))) = aluV 3 false a b by rw [aluV_f, wv_3])
    go_enter Tryz.func81, Tryz.ntmps81
    go_wp2_with fail
    refine (find_1 3 _ 144 hit_3 _).mono ?_
    rintro e w1 ⟨rfl, hB1⟩
    go_wp2_with fail
    refine (mul_w _ _ (un_rng a) (un_rng b) _).mono ?_
    rintro e w' ⟨rfl, rfl⟩
    go_wp2_with fail
    go_ret2
    refine ⟨?_, hB1⟩
    rw [← HV.out]
    rfl
  · have HV := Lib.hid (show (IntKind.u64.wrap ((IntKind.u64.wrap a % 4294967296) * (IntKind.u64.wrap b % 4294967296))) % 4294967296 = aluV 3 true a b by rw [aluV_t, wv_3, hv1_3, hv2_3])
    go_enter Tryz.func81, Tryz.ntmps81
    go_wp2_with fail
    refine (halves_o _ _ _ (un_rng a) (un_rng b) rfl rfl rfl rfl rfl _).mono ?_
    rintro e w' ⟨rfl, rfl⟩
    go_wp2_with fail
    refine (find_1 3 _ 144 hit_3 _).mono ?_
    rintro e w1 ⟨rfl, hB1⟩
    go_wp2_with fail
    refine (mul_w _ _ (m32_rng _) (m32_rng _) _).mono ?_
    rintro e w' ⟨rfl, rfl⟩
    go_wp2_with fail
    refine (low_any _ 32 (by omega) (un_rng _) _).mono ?_
    rintro e w' ⟨rfl, rfl⟩
    go_wp2_with fail
    go_ret2
    refine ⟨?_, hB1⟩
    rw [← HV.out]
    rfl

set_option maxHeartbeats 1000000 in
theorem alu_div (n : Bool) (a b : Int) (h0 : 1 ≤ dv 4 n b) (w : World) :
    Calls Tryz.prog 81 #[.int .i64 4, .bool n, .int .i64 a, .int .i64 b] w fun e w' => e = .returned (.tuple #[.int .i64 (aluV 4 n a b), .int .i64 0]) ∧ Below w.heap.size w w' := by
  cases n
  · have HV := Lib.hid (show wrap64 ((IntKind.u64.wrap a) / (IntKind.u64.wrap b)) = aluV 4 false a b by rw [aluV_f, wv_4])
    rw [dv_f] at h0
    have HNZ := Lib.hid (show (IntKind.u64.wrap b == 0) = false by rw [beq_eq_false_iff_ne]; omega)
    go_enter Tryz.func81, Tryz.ntmps81
    go_wp2_with fail
    refine (find_3 4 _ HNZ.out 153 missP_4 missS_4 hit_4 _).mono ?_
    rintro e w1 ⟨rfl, hB1⟩
    go_wp2_with fail
    refine (div_w _ _ (un_rng a) (un_rng b) h0 _).mono ?_
    rintro e w' ⟨rfl, rfl⟩
    go_wp2_with fail
    go_ret2
    refine ⟨?_, hB1⟩
    rw [← HV.out]
    rfl
  · have HV := Lib.hid (show ((IntKind.u64.wrap a % 4294967296) / (IntKind.u64.wrap b % 4294967296)) % 4294967296 = aluV 4 true a b by rw [aluV_t, wv_4, hv1_4, hv2_4])
    rw [dv_t, hv2_4] at h0
    have HNZ := Lib.hid (show (IntKind.u64.wrap b % 4294967296 == 0) = false by rw [beq_eq_false_iff_ne]; omega)
    go_enter Tryz.func81, Tryz.ntmps81
    go_wp2_with fail
    refine (halves_o _ _ _ (un_rng a) (un_rng b) rfl rfl rfl rfl rfl _).mono ?_
    rintro e w' ⟨rfl, rfl⟩
    go_wp2_with fail
    refine (find_3 4 _ HNZ.out 153 missP_4 missS_4 hit_4 _).mono ?_
    rintro e w1 ⟨rfl, hB1⟩
    go_wp2_with fail
    refine (div_w _ _ (m32_rng _) (m32_rng _) h0 _).mono ?_
    rintro e w' ⟨rfl, rfl⟩
    go_wp2_with fail
    refine (low_any _ 32 (by omega) (div_rng (m32_rng _) h0) _).mono ?_
    rintro e w' ⟨rfl, rfl⟩
    go_wp2_with fail
    go_ret2
    refine ⟨?_, hB1⟩
    rw [← HV.out]
    rfl

set_option maxHeartbeats 1000000 in
theorem alu_mod (n : Bool) (a b : Int) (h0 : 1 ≤ dv 5 n b) (w : World) :
    Calls Tryz.prog 81 #[.int .i64 5, .bool n, .int .i64 a, .int .i64 b] w fun e w' => e = .returned (.tuple #[.int .i64 (aluV 5 n a b), .int .i64 0]) ∧ Below w.heap.size w w' := by
  cases n
  · have HV := Lib.hid (show wrap64 ((IntKind.u64.wrap a) % (IntKind.u64.wrap b)) = aluV 5 false a b by rw [aluV_f, wv_5])
    rw [dv_f] at h0
    have HNZ := Lib.hid (show (IntKind.u64.wrap b == 0) = false by rw [beq_eq_false_iff_ne]; omega)
    go_enter Tryz.func81, Tryz.ntmps81
    go_wp2_with fail
    refine (find_3 5 _ HNZ.out 154 missP_5 missS_5 hit_5 _).mono ?_
    rintro e w1 ⟨rfl, hB1⟩
    go_wp2_with fail
    refine (mod_w _ _ (un_rng a) (un_rng b) h0 _).mono ?_
    rintro e w' ⟨rfl, rfl⟩
    go_wp2_with fail
    go_ret2
    refine ⟨?_, hB1⟩
    rw [← HV.out]
    rfl
  · have HV := Lib.hid (show ((IntKind.u64.wrap a % 4294967296) % (IntKind.u64.wrap b % 4294967296)) % 4294967296 = aluV 5 true a b by rw [aluV_t, wv_5, hv1_5, hv2_5])
    rw [dv_t, hv2_5] at h0
    have HNZ := Lib.hid (show (IntKind.u64.wrap b % 4294967296 == 0) = false by rw [beq_eq_false_iff_ne]; omega)
    go_enter Tryz.func81, Tryz.ntmps81
    go_wp2_with fail
    refine (halves_o _ _ _ (un_rng a) (un_rng b) rfl rfl rfl rfl rfl _).mono ?_
    rintro e w' ⟨rfl, rfl⟩
    go_wp2_with fail
    refine (find_3 5 _ HNZ.out 154 missP_5 missS_5 hit_5 _).mono ?_
    rintro e w1 ⟨rfl, hB1⟩
    go_wp2_with fail
    refine (mod_w _ _ (m32_rng _) (m32_rng _) h0 _).mono ?_
    rintro e w' ⟨rfl, rfl⟩
    go_wp2_with fail
    refine (low_any _ 32 (by omega) (mod_rng (m32_rng _) h0) _).mono ?_
    rintro e w' ⟨rfl, rfl⟩
    go_wp2_with fail
    go_ret2
    refine ⟨?_, hB1⟩
    rw [← HV.out]
    rfl

set_option maxHeartbeats 1000000 in
theorem alu_sdiv (n : Bool) (a b : Int) (h0 : 1 ≤ dv 6 n b) (w : World) :
    Calls Tryz.prog 81 #[.int .i64 6, .bool n, .int .i64 a, .int .i64 b] w fun e w' => e = .returned (.tuple #[.int .i64 (aluV 6 n a b), .int .i64 0]) ∧ Below w.heap.size w w' := by
  cases n
  · have HV := Lib.hid (show wrap64 (IntKind.u64.wrap (wrap64 ((wrap64 (IntKind.u64.wrap a)).tdiv (wrap64 (IntKind.u64.wrap b))))) = aluV 6 false a b by rw [aluV_f, wv_6])
    rw [dv_f] at h0
    have HNZ := Lib.hid (show (IntKind.u64.wrap b == 0) = false by rw [beq_eq_false_iff_ne]; omega)
    go_enter Tryz.func81, Tryz.ntmps81
    go_wp2_with fail
    refine (find_3 6 _ HNZ.out 155 missP_6 missS_6 hit_6 _).mono ?_
    rintro e w1 ⟨rfl, hB1⟩
    go_wp2_with fail
    refine (sdiv_w _ _ (un_rng a) (un_rng b) (w64_zero (un_rng b) h0) _).mono ?_
    rintro e w' ⟨rfl, rfl⟩
    go_wp2_with fail
    go_ret2
    refine ⟨?_, hB1⟩
    rw [← HV.out]
    rfl
  · have HV := Lib.hid (show (IntKind.u64.wrap (wrap64 ((wrap64 (sg (IntKind.u64.wrap a))).tdiv (wrap64 (sg (IntKind.u64.wrap b)))))) % 4294967296 = aluV 6 true a b by rw [aluV_t, wv_6, hv1_6, hv2_6])
    rw [dv_t, hv2_6] at h0
    have HNZ := Lib.hid (show (sg (IntKind.u64.wrap b) == 0) = false by rw [beq_eq_false_iff_ne]; omega)
    go_enter Tryz.func81, Tryz.ntmps81
    go_wp2_with fail
    refine (halves_s _ _ _ (un_rng a) (un_rng b) rfl rfl rfl (by decide) _).mono ?_
    rintro e w' ⟨rfl, rfl⟩
    go_wp2_with fail
    refine (find_3 6 _ HNZ.out 155 missP_6 missS_6 hit_6 _).mono ?_
    rintro e w1 ⟨rfl, hB1⟩
    go_wp2_with fail
    refine (sdiv_w _ _ (sg_rng _) (sg_rng _) (w64_zero (sg_rng _) h0) _).mono ?_
    rintro e w' ⟨rfl, rfl⟩
    go_wp2_with fail
    refine (low_any _ 32 (by omega) (un_rng _) _).mono ?_
    rintro e w' ⟨rfl, rfl⟩
    go_wp2_with fail
    go_ret2
    refine ⟨?_, hB1⟩
    rw [← HV.out]
    rfl

set_option maxHeartbeats 1000000 in
theorem alu_smod (n : Bool) (a b : Int) (h0 : 1 ≤ dv 7 n b) (w : World) :
    Calls Tryz.prog 81 #[.int .i64 7, .bool n, .int .i64 a, .int .i64 b] w fun e w' => e = .returned (.tuple #[.int .i64 (aluV 7 n a b), .int .i64 0]) ∧ Below w.heap.size w w' := by
  cases n
  · have HV := Lib.hid (show wrap64 (IntKind.u64.wrap ((wrap64 (IntKind.u64.wrap a)).tmod (wrap64 (IntKind.u64.wrap b)))) = aluV 7 false a b by rw [aluV_f, wv_7])
    rw [dv_f] at h0
    have HNZ := Lib.hid (show (IntKind.u64.wrap b == 0) = false by rw [beq_eq_false_iff_ne]; omega)
    go_enter Tryz.func81, Tryz.ntmps81
    go_wp2_with fail
    refine (find_3 7 _ HNZ.out 156 missP_7 missS_7 hit_7 _).mono ?_
    rintro e w1 ⟨rfl, hB1⟩
    go_wp2_with fail
    refine (smod_w _ _ (un_rng a) (un_rng b) (w64_zero (un_rng b) h0) _).mono ?_
    rintro e w' ⟨rfl, rfl⟩
    go_wp2_with fail
    go_ret2
    refine ⟨?_, hB1⟩
    rw [← HV.out]
    rfl
  · have HV := Lib.hid (show (IntKind.u64.wrap ((wrap64 (sg (IntKind.u64.wrap a))).tmod (wrap64 (sg (IntKind.u64.wrap b))))) % 4294967296 = aluV 7 true a b by rw [aluV_t, wv_7, hv1_7, hv2_7])
    rw [dv_t, hv2_7] at h0
    have HNZ := Lib.hid (show (sg (IntKind.u64.wrap b) == 0) = false by rw [beq_eq_false_iff_ne]; omega)
    go_enter Tryz.func81, Tryz.ntmps81
    go_wp2_with fail
    refine (halves_s _ _ _ (un_rng a) (un_rng b) rfl rfl rfl (by decide) _).mono ?_
    rintro e w' ⟨rfl, rfl⟩
    go_wp2_with fail
    refine (find_3 7 _ HNZ.out 156 missP_7 missS_7 hit_7 _).mono ?_
    rintro e w1 ⟨rfl, hB1⟩
    go_wp2_with fail
    refine (smod_w _ _ (sg_rng _) (sg_rng _) (w64_zero (sg_rng _) h0) _).mono ?_
    rintro e w' ⟨rfl, rfl⟩
    go_wp2_with fail
    refine (low_any _ 32 (by omega) (un_rng _) _).mono ?_
    rintro e w' ⟨rfl, rfl⟩
    go_wp2_with fail
    go_ret2
    refine ⟨?_, hB1⟩
    rw [← HV.out]
    rfl

set_option maxHeartbeats 1000000 in
theorem alu_or (n : Bool) (a b : Int) (w : World) :
    Calls Tryz.prog 81 #[.int .i64 8, .bool n, .int .i64 a, .int .i64 b] w fun e w' => e = .returned (.tuple #[.int .i64 (aluV 8 n a b), .int .i64 0]) ∧ Below w.heap.size w w' := by
  cases n
  · have HV := Lib.hid (show wrap64 (bits BinOp.or IntKind.u64 (IntKind.u64.wrap a) (IntKind.u64.wrap b)) = aluV 8 false a b by rw [aluV_f, wv_8])
    go_enter Tryz.func81, Tryz.ntmps81
    go_wp2_with fail
    refine (find_1 8 _ 145 hit_8 _).mono ?_
    rintro e w1 ⟨rfl, hB1⟩
    go_wp2_with fail
    refine (or_w _ _ (un_rng a) (un_rng b) _).mono ?_
    rintro e w' ⟨rfl, rfl⟩
    go_wp2_with fail
    go_ret2
    refine ⟨?_, hB1⟩
    rw [← HV.out]
    rfl
  · have HV := Lib.hid (show (bits BinOp.or IntKind.u64 (IntKind.u64.wrap a % 4294967296) (IntKind.u64.wrap b % 4294967296)) % 4294967296 = aluV 8 true a b by rw [aluV_t, wv_8, hv1_8, hv2_8])
    go_enter Tryz.func81, Tryz.ntmps81
    go_wp2_with fail
    refine (halves_o _ _ _ (un_rng a) (un_rng b) rfl rfl rfl rfl rfl _).mono ?_
    rintro e w' ⟨rfl, rfl⟩
    go_wp2_with fail
    refine (find_1 8 _ 145 hit_8 _).mono ?_
    rintro e w1 ⟨rfl, hB1⟩
    go_wp2_with fail
    refine (or_w _ _ (m32_rng _) (m32_rng _) _).mono ?_
    rintro e w' ⟨rfl, rfl⟩
    go_wp2_with fail
    refine (low_any _ 32 (by omega) (bits_rng _ _ _) _).mono ?_
    rintro e w' ⟨rfl, rfl⟩
    go_wp2_with fail
    go_ret2
    refine ⟨?_, hB1⟩
    rw [← HV.out]
    rfl

set_option maxHeartbeats 1000000 in
theorem alu_and (n : Bool) (a b : Int) (w : World) :
    Calls Tryz.prog 81 #[.int .i64 9, .bool n, .int .i64 a, .int .i64 b] w fun e w' => e = .returned (.tuple #[.int .i64 (aluV 9 n a b), .int .i64 0]) ∧ Below w.heap.size w w' := by
  cases n
  · have HV := Lib.hid (show wrap64 (bits BinOp.and IntKind.u64 (IntKind.u64.wrap a) (IntKind.u64.wrap b)) = aluV 9 false a b by rw [aluV_f, wv_9])
    go_enter Tryz.func81, Tryz.ntmps81
    go_wp2_with fail
    refine (find_1 9 _ 146 hit_9 _).mono ?_
    rintro e w1 ⟨rfl, hB1⟩
    go_wp2_with fail
    refine (and_w _ _ (un_rng a) (un_rng b) _).mono ?_
    rintro e w' ⟨rfl, rfl⟩
    go_wp2_with fail
    go_ret2
    refine ⟨?_, hB1⟩
    rw [← HV.out]
    rfl
  · have HV := Lib.hid (show (bits BinOp.and IntKind.u64 (IntKind.u64.wrap a % 4294967296) (IntKind.u64.wrap b % 4294967296)) % 4294967296 = aluV 9 true a b by rw [aluV_t, wv_9, hv1_9, hv2_9])
    go_enter Tryz.func81, Tryz.ntmps81
    go_wp2_with fail
    refine (halves_o _ _ _ (un_rng a) (un_rng b) rfl rfl rfl rfl rfl _).mono ?_
    rintro e w' ⟨rfl, rfl⟩
    go_wp2_with fail
    refine (find_1 9 _ 146 hit_9 _).mono ?_
    rintro e w1 ⟨rfl, hB1⟩
    go_wp2_with fail
    refine (and_w _ _ (m32_rng _) (m32_rng _) _).mono ?_
    rintro e w' ⟨rfl, rfl⟩
    go_wp2_with fail
    refine (low_any _ 32 (by omega) (bits_rng _ _ _) _).mono ?_
    rintro e w' ⟨rfl, rfl⟩
    go_wp2_with fail
    go_ret2
    refine ⟨?_, hB1⟩
    rw [← HV.out]
    rfl

set_option maxHeartbeats 1000000 in
theorem alu_xor (n : Bool) (a b : Int) (w : World) :
    Calls Tryz.prog 81 #[.int .i64 10, .bool n, .int .i64 a, .int .i64 b] w fun e w' => e = .returned (.tuple #[.int .i64 (aluV 10 n a b), .int .i64 0]) ∧ Below w.heap.size w w' := by
  cases n
  · have HV := Lib.hid (show wrap64 (bits BinOp.xor IntKind.u64 (IntKind.u64.wrap a) (IntKind.u64.wrap b)) = aluV 10 false a b by rw [aluV_f, wv_10])
    go_enter Tryz.func81, Tryz.ntmps81
    go_wp2_with fail
    refine (find_1 10 _ 147 hit_10 _).mono ?_
    rintro e w1 ⟨rfl, hB1⟩
    go_wp2_with fail
    refine (xor_w _ _ (un_rng a) (un_rng b) _).mono ?_
    rintro e w' ⟨rfl, rfl⟩
    go_wp2_with fail
    go_ret2
    refine ⟨?_, hB1⟩
    rw [← HV.out]
    rfl
  · have HV := Lib.hid (show (bits BinOp.xor IntKind.u64 (IntKind.u64.wrap a % 4294967296) (IntKind.u64.wrap b % 4294967296)) % 4294967296 = aluV 10 true a b by rw [aluV_t, wv_10, hv1_10, hv2_10])
    go_enter Tryz.func81, Tryz.ntmps81
    go_wp2_with fail
    refine (halves_o _ _ _ (un_rng a) (un_rng b) rfl rfl rfl rfl rfl _).mono ?_
    rintro e w' ⟨rfl, rfl⟩
    go_wp2_with fail
    refine (find_1 10 _ 147 hit_10 _).mono ?_
    rintro e w1 ⟨rfl, hB1⟩
    go_wp2_with fail
    refine (xor_w _ _ (m32_rng _) (m32_rng _) _).mono ?_
    rintro e w' ⟨rfl, rfl⟩
    go_wp2_with fail
    refine (low_any _ 32 (by omega) (bits_rng _ _ _) _).mono ?_
    rintro e w' ⟨rfl, rfl⟩
    go_wp2_with fail
    go_ret2
    refine ⟨?_, hB1⟩
    rw [← HV.out]
    rfl

set_option maxHeartbeats 1000000 in
theorem alu_lsh (n : Bool) (a b : Int) (w : World) :
    Calls Tryz.prog 81 #[.int .i64 11, .bool n, .int .i64 a, .int .i64 b] w fun e w' => e = .returned (.tuple #[.int .i64 (aluV 11 n a b), .int .i64 0]) ∧ Below w.heap.size w w' := by
  cases n
  · have HV := Lib.hid (show wrap64 (IntKind.u64.wrap ((IntKind.u64.wrap a) * 2 ^ ((IntKind.u64.wrap b) % 64).toNat)) = aluV 11 false a b by rw [aluV_f, wv_11])
    go_enter Tryz.func81, Tryz.ntmps81
    go_wp2_with fail
    refine (find_2 11 _ 150 missP_11 hit_11 _).mono ?_
    rintro e w1 ⟨rfl, hB1⟩
    go_wp2_with fail
    refine (lsh_w _ _ (un_rng a) (un_rng b) _).mono ?_
    rintro e w' ⟨rfl, rfl⟩
    go_wp2_with fail
    go_ret2
    refine ⟨?_, hB1⟩
    rw [← HV.out]
    rfl
  · have HV := Lib.hid (show (IntKind.u64.wrap ((IntKind.u64.wrap a % 4294967296) * 2 ^ ((IntKind.u64.wrap b % 32) % 64).toNat)) % 4294967296 = aluV 11 true a b by rw [aluV_t, wv_11, hv1_11, hv2_11])
    go_enter Tryz.func81, Tryz.ntmps81
    go_wp2_with fail
    refine (halves_l _ _ _ (un_rng a) (un_rng b) (by decide) _).mono ?_
    rintro e w' ⟨rfl, rfl⟩
    go_wp2_with fail
    refine (find_2 11 _ 150 missP_11 hit_11 _).mono ?_
    rintro e w1 ⟨rfl, hB1⟩
    go_wp2_with fail
    refine (lsh_w _ _ (m32_rng _) (m5_rng _) _).mono ?_
    rintro e w' ⟨rfl, rfl⟩
    go_wp2_with fail
    refine (low_any _ 32 (by omega) (un_rng _) _).mono ?_
    rintro e w' ⟨rfl, rfl⟩
    go_wp2_with fail
    go_ret2
    refine ⟨?_, hB1⟩
    rw [← HV.out]
    rfl

set_option maxHeartbeats 1000000 in
theorem alu_rsh (n : Bool) (a b : Int) (w : World) :
    Calls Tryz.prog 81 #[.int .i64 12, .bool n, .int .i64 a, .int .i64 b] w fun e w' => e = .returned (.tuple #[.int .i64 (aluV 12 n a b), .int .i64 0]) ∧ Below w.heap.size w w' := by
  cases n
  · have HV := Lib.hid (show wrap64 ((IntKind.u64.wrap a) / 2 ^ ((IntKind.u64.wrap b) % 64).toNat) = aluV 12 false a b by rw [aluV_f, wv_12])
    go_enter Tryz.func81, Tryz.ntmps81
    go_wp2_with fail
    refine (find_2 12 _ 151 missP_12 hit_12 _).mono ?_
    rintro e w1 ⟨rfl, hB1⟩
    go_wp2_with fail
    refine (rsh_w _ _ (un_rng a) (un_rng b) _).mono ?_
    rintro e w' ⟨rfl, rfl⟩
    go_wp2_with fail
    go_ret2
    refine ⟨?_, hB1⟩
    rw [← HV.out]
    rfl
  · have HV := Lib.hid (show ((IntKind.u64.wrap a % 4294967296) / 2 ^ ((IntKind.u64.wrap b % 32) % 64).toNat) % 4294967296 = aluV 12 true a b by rw [aluV_t, wv_12, hv1_12, hv2_12])
    go_enter Tryz.func81, Tryz.ntmps81
    go_wp2_with fail
    refine (halves_l _ _ _ (un_rng a) (un_rng b) (by decide) _).mono ?_
    rintro e w' ⟨rfl, rfl⟩
    go_wp2_with fail
    refine (find_2 12 _ 151 missP_12 hit_12 _).mono ?_
    rintro e w1 ⟨rfl, hB1⟩
    go_wp2_with fail
    refine (rsh_w _ _ (m32_rng _) (m5_rng _) _).mono ?_
    rintro e w' ⟨rfl, rfl⟩
    go_wp2_with fail
    refine (low_any _ 32 (by omega) (shr_rng (m32_rng _) _) _).mono ?_
    rintro e w' ⟨rfl, rfl⟩
    go_wp2_with fail
    go_ret2
    refine ⟨?_, hB1⟩
    rw [← HV.out]
    rfl

set_option maxHeartbeats 1000000 in
theorem alu_arsh (n : Bool) (a b : Int) (w : World) :
    Calls Tryz.prog 81 #[.int .i64 13, .bool n, .int .i64 a, .int .i64 b] w fun e w' => e = .returned (.tuple #[.int .i64 (aluV 13 n a b), .int .i64 0]) ∧ Below w.heap.size w w' := by
  cases n
  · have HV := Lib.hid (show wrap64 (IntKind.u64.wrap (wrap64 (IntKind.u64.wrap a) / 2 ^ ((IntKind.u64.wrap b) % 64).toNat)) = aluV 13 false a b by rw [aluV_f, wv_13])
    go_enter Tryz.func81, Tryz.ntmps81
    go_wp2_with fail
    refine (find_2 13 _ 152 missP_13 hit_13 _).mono ?_
    rintro e w1 ⟨rfl, hB1⟩
    go_wp2_with fail
    refine (arsh_w _ _ (un_rng a) (un_rng b) _).mono ?_
    rintro e w' ⟨rfl, rfl⟩
    go_wp2_with fail
    go_ret2
    refine ⟨?_, hB1⟩
    rw [← HV.out]
    rfl
  · have HV := Lib.hid (show (IntKind.u64.wrap (wrap64 (sg (IntKind.u64.wrap a)) / 2 ^ ((IntKind.u64.wrap b % 32) % 64).toNat)) % 4294967296 = aluV 13 true a b by rw [aluV_t, wv_13, hv1_13, hv2_13])
    go_enter Tryz.func81, Tryz.ntmps81
    go_wp2_with fail
    refine (halves_a _ _ _ (un_rng a) (un_rng b) rfl rfl rfl _).mono ?_
    rintro e w' ⟨rfl, rfl⟩
    go_wp2_with fail
    refine (find_2 13 _ 152 missP_13 hit_13 _).mono ?_
    rintro e w1 ⟨rfl, hB1⟩
    go_wp2_with fail
    refine (arsh_w _ _ (sg_rng _) (m5_rng _) _).mono ?_
    rintro e w' ⟨rfl, rfl⟩
    go_wp2_with fail
    refine (low_any _ 32 (by omega) (un_rng _) _).mono ?_
    rintro e w' ⟨rfl, rfl⟩
    go_wp2_with fail
    go_ret2
    refine ⟨?_, hB1⟩
    rw [← HV.out]
    rfl

set_option maxHeartbeats 1000000 in
theorem alu_neg (n : Bool) (a b : Int) (w : World) :
    Calls Tryz.prog 81 #[.int .i64 14, .bool n, .int .i64 a, .int .i64 b] w fun e w' => e = .returned (.tuple #[.int .i64 (aluV 14 n a b), .int .i64 0]) ∧ Below w.heap.size w w' := by
  cases n
  · have HV := Lib.hid (show wrap64 (IntKind.u64.wrap (-(IntKind.u64.wrap a))) = aluV 14 false a b by rw [aluV_f, wv_14])
    go_enter Tryz.func81, Tryz.ntmps81
    go_wp2_with fail
    refine (find_1 14 _ 148 hit_14 _).mono ?_
    rintro e w1 ⟨rfl, hB1⟩
    go_wp2_with fail
    refine (neg_w _ _ (un_rng a) (un_rng b) _).mono ?_
    rintro e w' ⟨rfl, rfl⟩
    go_wp2_with fail
    go_ret2
    refine ⟨?_, hB1⟩
    rw [← HV.out]
    rfl
  · have HV := Lib.hid (show (IntKind.u64.wrap (-(IntKind.u64.wrap a % 4294967296))) % 4294967296 = aluV 14 true a b by rw [aluV_t, wv_14, hv1_14])
    go_enter Tryz.func81, Tryz.ntmps81
    go_wp2_with fail
    refine (halves_o _ _ _ (un_rng a) (un_rng b) rfl rfl rfl rfl rfl _).mono ?_
    rintro e w' ⟨rfl, rfl⟩
    go_wp2_with fail
    refine (find_1 14 _ 148 hit_14 _).mono ?_
    rintro e w1 ⟨rfl, hB1⟩
    go_wp2_with fail
    refine (neg_w _ _ (m32_rng _) (m32_rng _) _).mono ?_
    rintro e w' ⟨rfl, rfl⟩
    go_wp2_with fail
    refine (low_any _ 32 (by omega) (un_rng _) _).mono ?_
    rintro e w' ⟨rfl, rfl⟩
    go_wp2_with fail
    go_ret2
    refine ⟨?_, hB1⟩
    rw [← HV.out]
    rfl

set_option maxHeartbeats 1000000 in
theorem alu_mov (n : Bool) (a b : Int) (w : World) :
    Calls Tryz.prog 81 #[.int .i64 15, .bool n, .int .i64 a, .int .i64 b] w fun e w' => e = .returned (.tuple #[.int .i64 (aluV 15 n a b), .int .i64 0]) ∧ Below w.heap.size w w' := by
  cases n
  · have HV := Lib.hid (show wrap64 ((IntKind.u64.wrap b)) = aluV 15 false a b by rw [aluV_f, wv_15])
    go_enter Tryz.func81, Tryz.ntmps81
    go_wp2_with fail
    refine (find_1 15 _ 149 hit_15 _).mono ?_
    rintro e w1 ⟨rfl, hB1⟩
    go_wp2_with fail
    refine (mov_w _ _ (un_rng a) (un_rng b) _).mono ?_
    rintro e w' ⟨rfl, rfl⟩
    go_wp2_with fail
    go_ret2
    refine ⟨?_, hB1⟩
    rw [← HV.out]
    rfl
  · have HV := Lib.hid (show IntKind.u64.wrap b % 4294967296 = aluV 15 true a b by rw [aluV_t, wv_15, hv2_15, Int.emod_emod])
    go_enter Tryz.func81, Tryz.ntmps81
    go_wp2_with fail
    refine (halves_o _ _ _ (un_rng a) (un_rng b) rfl rfl rfl rfl rfl _).mono ?_
    rintro e w' ⟨rfl, rfl⟩
    go_wp2_with fail
    refine (find_1 15 _ 149 hit_15 _).mono ?_
    rintro e w1 ⟨rfl, hB1⟩
    go_wp2_with fail
    refine (mov_w _ _ (m32_rng _) (m32_rng _) _).mono ?_
    rintro e w' ⟨rfl, rfl⟩
    go_wp2_with fail
    refine (low_any _ 32 (by omega) (m32_rng _) _).mono ?_
    rintro e w' ⟨rfl, rfl⟩
    go_wp2_with fail
    go_ret2
    refine ⟨?_, hB1⟩
    rw [← HV.out]
    rfl

end Go.Proofs.YtpigkppnelnhiaaGreat

/- Alu whole: every operation and every number that is none; 'of' and 'is'. -/
namespace Go.Proofs.YtpigkppnelnhiaaGreat
open Go.ChangeShapes Go.WideShapes Go.ChangeAt Go.RowKit
open Bits
set_option linter.unusedVariables false

theorem dv_rng (op : Int) (n : Bool) (b : Int) : 0 ≤ dv op n b ∧ dv op n b < 18446744073709551616 := by
  cases n
  · rw [dv_f]; exact un_rng _
  · rw [dv_t]; unfold hv2
    split
    · exact m5_rng _
    · split
      · exact sg_rng _
      · exact m32_rng _

theorem miss_no (op : Int) (h : op < 1 ∨ 15 < op) : Misses plainEs op ∧ Misses shiftsEs op ∧ Misses divisionsEs op := by
  have t : ∀ k : Int, 1 ≤ k → k ≤ 15 → (op == k) = false := fun k h1 h2 => by rw [beq_eq_false_iff_ne]; omega
  refine ⟨?_, ?_, ?_⟩
  · simp [Misses, plainEs, Instr.findNow, Instr.sameNow, t 1, t 2, t 3, t 8, t 9, t 10, t 14, t 15]
  · simp [Misses, shiftsEs, Instr.findNow, Instr.sameNow, t 11, t 12, t 13]
  · simp [Misses, divisionsEs, Instr.findNow, Instr.sameNow, t 4, t 5, t 6, t 7]

/-- no operation -/
theorem alu_no (op : Int) (n : Bool) (a b : Int) (h : op < 1 ∨ 15 < op) (w : World) :
    Calls Tryz.prog 81 #[.int .i64 op, .bool n, .int .i64 a, .int .i64 b] w fun e w' => e = .returned (.tuple #[.int .i64 0, .int .i64 1]) ∧ Below w.heap.size w w' := by
  obtain ⟨h1, h2, h3⟩ := miss_no op h
  have t : ∀ k : Int, 1 ≤ k → k ≤ 15 → (op == k) = false := fun k h1 h2 => by rw [beq_eq_false_iff_ne]; omega
  have H := Lib.hid (fun (x y : Int) (hx : 0 ≤ x ∧ x < 18446744073709551616) (hy : 0 ≤ y ∧ y < 18446744073709551616) (w : World) =>
    halves_o op x y hx hy (t 11 (by decide) (by decide)) (t 12 (by decide) (by decide)) (t 13 (by decide) (by decide)) (t 6 (by decide) (by decide)) (t 7 (by decide) (by decide)) w)
  clear t
  cases n
  · go_enter Tryz.func81, Tryz.ntmps81
    go_wp2_with fail
    refine (find_none op _ h1 h2 h3 _).mono ?_
    rintro e w1 ⟨rfl, hB1⟩
    go_wp2_with fail
    go_ret2
    exact ⟨rfl, hB1⟩
  · go_enter Tryz.func81, Tryz.ntmps81
    go_wp2_with fail
    refine (H.out _ _ (un_rng a) (un_rng b) _).mono ?_
    rintro e w' ⟨rfl, rfl⟩
    go_wp2_with fail
    refine (find_none op _ h1 h2 h3 _).mono ?_
    rintro e w1 ⟨rfl, hB1⟩
    go_wp2_with fail
    go_ret2
    exact ⟨rfl, hB1⟩

/-- a division by 0 -/
theorem alu_zero (op : Int) (f : FuncId) (n : Bool) (a b : Int) (h0 : dv op n b = 0) (h1 : Misses plainEs op) (h2 : Misses shiftsEs op) (h3 : Hits divisionsEs op f)
    (hh : ∀ (w : World), Calls Tryz.prog 105 #[.int .i64 op, .int .u64 (IntKind.u64.wrap a), .int .u64 (IntKind.u64.wrap b)] w fun e w' => e = .returned (.tuple #[.int .u64 (hv1 op (IntKind.u64.wrap a)), .int .u64 (hv2 op (IntKind.u64.wrap b))]) ∧ w = w') (w : World) :
    Calls Tryz.prog 81 #[.int .i64 op, .bool n, .int .i64 a, .int .i64 b] w fun e w' => e = .returned (.tuple #[.int .i64 0, .int .i64 84]) ∧ Below w.heap.size w w' := by
  have H := Lib.hid hh
  clear hh
  cases n
  · rw [dv_f] at h0
    have HZ := Lib.hid (show (IntKind.u64.wrap b == 0) = true by rw [beq_iff_eq]; exact h0)
    clear h0
    go_enter Tryz.func81, Tryz.ntmps81
    go_wp2_with fail
    refine (find_zero op _ HZ.out f h1 h2 h3 _).mono ?_
    rintro e w1 ⟨rfl, hB1⟩
    go_wp2_with fail
    go_ret2
    exact ⟨rfl, hB1⟩
  · rw [dv_t] at h0
    have HZ := Lib.hid (show (hv2 op (IntKind.u64.wrap b) == 0) = true by rw [beq_iff_eq]; exact h0)
    clear h0
    go_enter Tryz.func81, Tryz.ntmps81
    go_wp2_with fail
    refine (H.out _).mono ?_
    rintro e w' ⟨rfl, rfl⟩
    go_wp2_with fail
    refine (find_zero op _ HZ.out f h1 h2 h3 _).mono ?_
    rintro e w1 ⟨rfl, hB1⟩
    go_wp2_with fail
    go_ret2
    exact ⟨rfl, hB1⟩

theorem aluE_no {op : Int} (h : op < 1 ∨ 15 < op) (n : Bool) (b : Int) : aluE op n b = 1 := by unfold aluE; rw [if_pos h]
theorem aluE_ok {op : Int} (h : ¬ (op < 1 ∨ 15 < op)) (n : Bool) (b : Int) (h2 : ¬ ((4 ≤ op ∧ op ≤ 7) ∧ dv op n b = 0)) : aluE op n b = 0 := by unfold aluE; rw [if_neg h, if_neg h2]
theorem aluE_zero {op : Int} (h : ¬ (op < 1 ∨ 15 < op)) (n : Bool) (b : Int) (h2 : (4 ≤ op ∧ op ≤ 7) ∧ dv op n b = 0) : aluE op n b = 84 := by unfold aluE; rw [if_neg h, if_pos h2]
theorem aluR_ok {op : Int} {n : Bool} {a b : Int} (h : aluE op n b = 0) : aluR op n a b = aluV op n a b := by unfold aluR; rw [if_pos h]
theorem aluR_no {op : Int} {n : Bool} {a b : Int} (h : aluE op n b ≠ 0) : aluR op n a b = 0 := by unfold aluR; rw [if_neg h]

/-- Alu, whatever it is asked -/
theorem alu_any (op : Int) (n : Bool) (a b : Int) (w : World) :
    Calls Tryz.prog 81 #[.int .i64 op, .bool n, .int .i64 a, .int .i64 b] w fun e w' => e = .returned (.tuple #[.int .i64 (aluR op n a b), .int .i64 (aluE op n b)]) ∧ Below w.heap.size w w' := by
  by_cases h : op < 1 ∨ 15 < op
  · have e := aluE_no h n b
    rw [aluR_no (by rw [e]; decide), e]
    exact alu_no op n a b h w
  by_cases h2 : (4 ≤ op ∧ op ≤ 7) ∧ dv op n b = 0
  · have e := aluE_zero h n b h2
    rw [aluR_no (by rw [e]; decide), e]
    obtain ⟨h3, h4⟩ := h2
    have hc : op = 4 ∨ op = 5 ∨ op = 6 ∨ op = 7 := by omega
    rcases hc with rfl | rfl | rfl | rfl
    · exact alu_zero 4 _ n a b h4 missP_4 missS_4 hit_4 (fun w => by rw [hv1_4, hv2_4]; exact halves_o _ _ _ (un_rng a) (un_rng b) rfl rfl rfl rfl rfl w) w
    · exact alu_zero 5 _ n a b h4 missP_5 missS_5 hit_5 (fun w => by rw [hv1_5, hv2_5]; exact halves_o _ _ _ (un_rng a) (un_rng b) rfl rfl rfl rfl rfl w) w
    · exact alu_zero 6 _ n a b h4 missP_6 missS_6 hit_6 (fun w => by rw [hv1_6, hv2_6]; exact halves_s _ _ _ (un_rng a) (un_rng b) rfl rfl rfl (by decide) w) w
    · exact alu_zero 7 _ n a b h4 missP_7 missS_7 hit_7 (fun w => by rw [hv1_7, hv2_7]; exact halves_s _ _ _ (un_rng a) (un_rng b) rfl rfl rfl (by decide) w) w
  have e := aluE_ok h n b h2
  rw [aluR_ok e, e]
  have hd : 4 ≤ op → op ≤ 7 → 1 ≤ dv op n b := fun h3 h4 => by
    have := dv_rng op n b
    have : dv op n b ≠ 0 := fun h5 => h2 ⟨⟨h3, h4⟩, h5⟩
    omega
  have hc : op = 1 ∨ op = 2 ∨ op = 3 ∨ op = 4 ∨ op = 5 ∨ op = 6 ∨ op = 7 ∨ op = 8 ∨ op = 9 ∨ op = 10 ∨ op = 11 ∨ op = 12 ∨ op = 13 ∨ op = 14 ∨ op = 15 := by omega
  rcases hc with rfl | rfl | rfl | rfl | rfl | rfl | rfl | rfl | rfl | rfl | rfl | rfl | rfl | rfl | rfl
  · exact alu_add n a b w
  · exact alu_sub n a b w
  · exact alu_mul n a b w
  · exact alu_div n a b (hd (by decide) (by decide)) w
  · exact alu_mod n a b (hd (by decide) (by decide)) w
  · exact alu_sdiv n a b (hd (by decide) (by decide)) w
  · exact alu_smod n a b (hd (by decide) (by decide)) w
  · exact alu_or n a b w
  · exact alu_and n a b w
  · exact alu_xor n a b w
  · exact alu_lsh n a b w
  · exact alu_rsh n a b w
  · exact alu_arsh n a b w
  · exact alu_neg n a b w
  · exact alu_mov n a b w

end Go.Proofs.YtpigkppnelnhiaaGreat

/- Swap: the program's and the document's, one function. -/
namespace Go.Proofs.YtpigkppnelnhiaaGreat
open Go.ChangeShapes Go.WideShapes Go.ChangeAt Go.RowKit
open Bits

/-- eight of a number's bits, from 8 t on -/
def un (a : Int) : Nat := (a % 18446744073709551616).toNat
theorem un_cast (a : Int) : ((un a : Nat) : Int) = IntKind.u64.wrap a := by rw [IntKind.wrap_u64]; unfold un; omega
theorem un_lt (a : Int) : un a < 18446744073709551616 := by unfold un; omega
/-- what Swap is, where its size is n bytes, n one of 2, 4, 8 -/
def swapV (n : Nat) (t : Bool) (a : Int) : Int := wrap64 (if t = true then (revN n (un a) : Int) else a % 2 ^ (8 * n))
theorem swap_no (k : Int) (t : Bool) (a : Int) (h8 : k ≠ 16) (h16 : k ≠ 32) (h32 : k ≠ 64) (w : World) :
    Calls Tryz.prog 83 #[.int .i64 k, .bool t, .int .i64 a] w fun e w' => e = .returned (.int .i64 0) ∧ w = w' := by
  have t8 : (k == 16) = false := by rw [beq_eq_false_iff_ne]; exact h8
  have t16 : (k == 32) = false := by rw [beq_eq_false_iff_ne]; exact h16
  have t32 : (k == 64) = false := by rw [beq_eq_false_iff_ne]; exact h32
  clear h8 h16 h32
  go_enter Tryz.func83, Tryz.ntmps83
  go_wp2_with fail
  go_ret
  exact ⟨rfl, rfl⟩

theorem rev_int (x : Int) (h : 0 ≤ x ∧ x < 18446744073709551616) (w : World) :
    Calls Tryz.prog 108 #[.int .u64 x] w fun e w' => e = .returned (.int .u64 (revN 8 x.toNat)) ∧ w = w' := by
  obtain ⟨n, rfl⟩ := Int.eq_ofNat_of_zero_le h.1
  exact rev_any n (by omega) w
theorem u64_rng' (x : Int) : 0 ≤ IntKind.u64.wrap x ∧ IntKind.u64.wrap x < 18446744073709551616 := by rw [IntKind.wrap_u64]; omega
theorem swapV_t (n m : Nat) (a : Int) (h : n + m = 8) : wrap64 (revN 8 (IntKind.u64.wrap (IntKind.u64.wrap a * 2 ^ (8 * m))).toNat) = swapV n true a := by
  have e : (IntKind.u64.wrap (IntKind.u64.wrap a * 2 ^ (8 * m))).toNat = un a * 2 ^ (8 * m) % 2 ^ 64 := by
    rw [← un_cast a, IntKind.wrap_u64]
    have e2 : ((un a : Int) * 2 ^ (8 * m)) = ((un a * 2 ^ (8 * m) : Nat) : Int) := by simp
    rw [e2]
    omega
  have e3 : revN 8 (un a * 2 ^ (8 * m) % 2 ^ 64) = revN n (un a) := by
    have := revN_shift n m (un a) (by omega)
    rw [h] at this
    exact this
  rw [e, e3]; rfl
theorem swapV_8 (a : Int) : wrap64 (revN 8 (IntKind.u64.wrap (IntKind.u64.wrap a)).toNat) = swapV 8 true a := by
  rw [IntWalk.u64_in _ (by have := u64_rng' a; omega)]
  have e : (IntKind.u64.wrap a).toNat = un a := by rw [← un_cast a, Int.toNat_natCast]
  rw [e]; rfl
theorem swapV_f (n : Nat) (a : Int) (h : n ≤ 8) : wrap64 (IntKind.u64.wrap a % 2 ^ (8 * n)) = swapV n false a := by
  have e : IntKind.u64.wrap a % 2 ^ (8 * n) = a % 2 ^ (8 * n) := by
    rw [u64_pow]
    exact Int.emod_emod_of_dvd a ⟨2 ^ (64 - 8 * n), (pow_split (show 8 * n + (64 - 8 * n) = 64 by omega)).symm⟩
  rw [e]; rfl

theorem swapV_g (n : Nat) (a : Int) (h : n ≤ 4) : IntKind.u64.wrap a % 2 ^ (8 * n) = swapV n false a := by
  rw [← swapV_f n a (by omega)]
  have h0 := Int.emod_nonneg (IntKind.u64.wrap a) (show (2 : Int) ^ (8 * n) ≠ 0 by have := pow_pos' (8 * n); omega)
  have h1 := Int.emod_lt_of_pos (IntKind.u64.wrap a) (pow_pos' (8 * n))
  have h2 : (2 : Int) ^ (8 * n) ≤ 2 ^ 32 := pow_le_of (by omega)
  rw [show (2 : Int) ^ 32 = 4294967296 from rfl] at h2
  rw [IntWalk.wrap64_in _ (by omega)]

set_option maxHeartbeats 4000000 in
theorem swap_core (n : Nat) (t : Bool) (a : Int) (hn : n = 2 ∨ n = 4 ∨ n = 8) (w : World) :
    Calls Tryz.prog 83 #[.int .i64 ((8 * n : Nat) : Int), .bool t, .int .i64 a] w fun e w' => e = .returned (.int .i64 (swapV n t a)) ∧ w = w' := by
  rcases hn with rfl | rfl | rfl
  · have HT := Lib.hid (swapV_t 2 6 a rfl)
    have HF := Lib.hid (swapV_f 2 a (by omega))
    have HG := Lib.hid (swapV_g 2 a (by omega))
    cases t
    all_goals
      go_enter Tryz.func83, Tryz.ntmps83
      go_wp2_with (first | (go_at_call 108; refine (rev_int _ (u64_rng' _) _).mono ?_; rintro e w' ⟨rfl, rfl⟩) | (go_at_call 107; refine (low_any _ 16 (by omega) (u64_rng' _) _).mono ?_; rintro e w' ⟨rfl, rfl⟩))
      go_ret
      exact ⟨congrArg (fun v => Ending.returned (.int .i64 v)) (by first | exact HT.out | exact HF.out | exact HG.out), rfl⟩
  · have HT := Lib.hid (swapV_t 4 4 a rfl)
    have HF := Lib.hid (swapV_f 4 a (by omega))
    have HG := Lib.hid (swapV_g 4 a (by omega))
    cases t
    all_goals
      go_enter Tryz.func83, Tryz.ntmps83
      go_wp2_with (first | (go_at_call 108; refine (rev_int _ (u64_rng' _) _).mono ?_; rintro e w' ⟨rfl, rfl⟩) | (go_at_call 107; refine (low_any _ 32 (by omega) (u64_rng' _) _).mono ?_; rintro e w' ⟨rfl, rfl⟩))
      go_ret
      exact ⟨congrArg (fun v => Ending.returned (.int .i64 v)) (by first | exact HT.out | exact HF.out | exact HG.out), rfl⟩
  · have HT := Lib.hid (swapV_8 a)
    have HF := Lib.hid (swapV_f 8 a (by omega))
    have HG := Lib.hid (swapV_f 8 a (by omega))
    cases t
    all_goals
      go_enter Tryz.func83, Tryz.ntmps83
      go_wp2_with (first | (go_at_call 108; refine (rev_int _ (u64_rng' _) _).mono ?_; rintro e w' ⟨rfl, rfl⟩) | (go_at_call 107; refine (low_any _ 64 (by omega) (u64_rng' _) _).mono ?_; rintro e w' ⟨rfl, rfl⟩))
      go_ret
      exact ⟨congrArg (fun v => Ending.returned (.int .i64 v)) (by first | exact HT.out | exact HF.out | exact HG.out), rfl⟩
end Go.Proofs.YtpigkppnelnhiaaGreat

/- Contracts of word.Holds and what it calls. -/
namespace Go.Proofs.YtpigkppnelnhiaaGreat
open Go.ChangeShapes Go.WideShapes Go.ChangeAt Go.RowKit

theorem nanI (x : Int) (w : World) : Calls Tryz.prog 66 #[.int .i64 x] w fun e w' => e = .returned (.bool false) ∧ w = w' := by
  go_enter Tryz.func66, Tryz.ntmps66
  go_wp2
  go_ret
  exact ⟨rfl, rfl⟩

def cmpM (x y : Int) : Int := if x < y then -1 else if y < x then 1 else 0

set_option maxHeartbeats 1000000 in
theorem cmpI (x y : Int) (w : World) : Calls Tryz.prog 39 #[.int .i64 x, .int .i64 y] w fun e w' => e = .returned (.int .i64 (cmpM x y)) ∧ w = w' := by
  unfold cmpM
  by_cases h : x < y
  · go_enter Tryz.func39, Tryz.ntmps39
    go_wp2_with (go_at_call 66; refine (nanI _ _).mono ?_; rintro e w' ⟨rfl, rfl⟩)
    go_ret
    exact ⟨rfl, rfl⟩
  · by_cases h2 : y < x
    · go_enter Tryz.func39, Tryz.ntmps39
      go_wp2_with (go_at_call 66; refine (nanI _ _).mono ?_; rintro e w' ⟨rfl, rfl⟩)
      go_ret
      exact ⟨rfl, rfl⟩
    · go_enter Tryz.func39, Tryz.ntmps39
      go_wp2_with (go_at_call 66; refine (nanI _ _).mono ?_; rintro e w' ⟨rfl, rfl⟩)
      go_ret
      exact ⟨rfl, rfl⟩
def standsM (op o : Int) : Bool :=
  if (op == 32) = true then decide (0 < -o) || (-o == 0)
  else if (op == 36) = true then decide (0 < -o) || (-o == 0)
  else if (op == 30) = true then decide (0 < o) || (o == 0)
  else if (op == 34) = true then decide (0 < o) || (o == 0)
  else if (op == 27) = true then o == 0
  else if (op == 31) = true then decide (0 < -o)
  else if (op == 35) = true then decide (0 < -o)
  else if (op == 29) = true then decide (0 < o)
  else if (op == 33) = true then decide (0 < o)
  else if (op == 28) = true then o != 0
  else false

set_option maxHeartbeats 2000000 in
theorem stands_any (op o : Int) (ho : o = -1 ∨ o = 0 ∨ o = 1) (w : World) : Calls Tryz.prog 38 #[.int .i64 op, .int .i64 o] w fun e w' => e = .returned (.bool (standsM op o)) ∧ w = w' := by
  rcases ho with rfl | rfl | rfl
  all_goals
    go_enter Tryz.func38, Tryz.ntmps38
    go_wp2
    all_goals
      go_ret
      refine ⟨?_, rfl⟩
      simp_all [standsM]
def S32 (x : Int) : Int := IntKind.u64.wrap (wrap64 (IntKind.u64.wrap (x * 4294967296)) / 4294967296)
theorem cmpM_cases (x y : Int) : cmpM x y = -1 ∨ cmpM x y = 0 ∨ cmpM x y = 1 := by
  unfold cmpM; split
  · exact .inl rfl
  · split
    · exact .inr (.inr rfl)
    · exact .inr (.inl rfl)

theorem signed32 (x : Int) (w : World) : Calls Tryz.prog 37 #[.int .u64 x, .int .i64 32] w fun e w' => e = .returned (.int .u64 (S32 x)) ∧ w = w' := by
  go_enter Tryz.func37, Tryz.ntmps37
  go_wp2
  go_ret
  exact ⟨rfl, rfl⟩

theorem nanU (x : Int) (w : World) : Calls Tryz.prog 67 #[.int .u64 x] w fun e w' => e = .returned (.bool false) ∧ w = w' := by
  go_enter Tryz.func67, Tryz.ntmps67
  go_wp2
  go_ret
  exact ⟨rfl, rfl⟩

set_option maxHeartbeats 1000000 in
theorem cmpU (x y : Int) (w : World) : Calls Tryz.prog 40 #[.int .u64 x, .int .u64 y] w fun e w' => e = .returned (.int .i64 (cmpM x y)) ∧ w = w' := by
  unfold cmpM
  by_cases h : x < y
  · go_enter Tryz.func40, Tryz.ntmps40
    go_wp2_with (go_at_call 67; refine (nanU _ _).mono ?_; rintro e w' ⟨rfl, rfl⟩)
    go_ret
    exact ⟨rfl, rfl⟩
  · by_cases h2 : y < x
    · go_enter Tryz.func40, Tryz.ntmps40
      go_wp2_with (go_at_call 67; refine (nanU _ _).mono ?_; rintro e w' ⟨rfl, rfl⟩)
      go_ret
      exact ⟨rfl, rfl⟩
    · go_enter Tryz.func40, Tryz.ntmps40
      go_wp2_with (go_at_call 67; refine (nanU _ _).mono ?_; rintro e w' ⟨rfl, rfl⟩)
      go_ret
      exact ⟨rfl, rfl⟩


def holdsW (op x y : Int) : Bool :=
  if (op == 37) = true then bits BinOp.and IntKind.u64 x y != 0
  else if (op == 33) = true then standsM op (cmpM (wrap64 x) (wrap64 y))
  else if (op == 34) = true then standsM op (cmpM (wrap64 x) (wrap64 y))
  else if (op == 35) = true then standsM op (cmpM (wrap64 x) (wrap64 y))
  else if (op == 36) = true then standsM op (cmpM (wrap64 x) (wrap64 y))
  else standsM op (cmpM x y)
def holdsM (op : Int) (n : Bool) (a b : Int) : Bool :=
  if n = true then holdsW op (S32 (IntKind.u64.wrap a)) (S32 (IntKind.u64.wrap b)) else holdsW op (IntKind.u64.wrap a) (IntKind.u64.wrap b)

set_option maxHeartbeats 4000000 in
theorem holds_any (op : Int) (n : Bool) (a b : Int) (w : World) : Calls Tryz.prog 16 #[.int .i64 op, .bool n, .int .i64 a, .int .i64 b] w fun e w' => e = .returned (.bool (holdsM op n a b)) ∧ w = w' := by
  cases n
  all_goals
    go_enter Tryz.func16, Tryz.ntmps16
    go_wp2_with (first | (go_at_call 37; refine (signed32 _ _).mono ?_; rintro e w' ⟨rfl, rfl⟩) | (go_at_call 39; refine (cmpI _ _ _).mono ?_; rintro e w' ⟨rfl, rfl⟩) | (go_at_call 40; refine (cmpU _ _ _).mono ?_; rintro e w' ⟨rfl, rfl⟩) | (go_at_call 38; refine (stands_any _ _ (cmpM_cases _ _) _).mono ?_; rintro e w' ⟨rfl, rfl⟩))
    all_goals
      go_ret
      refine ⟨congrArg (fun x => Ending.returned (.bool x)) ?_, rfl⟩
      simp only [holdsM, holdsW, if_true, if_false, Bool.false_eq_true]
      repeat (first | rw [if_pos (by assumption)] | rw [if_neg (Bool.eq_false_iff.mp (by assumption))])
end Go.Proofs.YtpigkppnelnhiaaGreat
