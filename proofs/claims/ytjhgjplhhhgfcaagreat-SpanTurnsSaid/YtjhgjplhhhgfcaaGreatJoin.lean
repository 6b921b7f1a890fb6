/- What stands below Alu: the operations of words, found in maps of method expressions; the halves of two words. -/
import Derived.Test.YtjhgjplhhhgfcaaGreatWord
import Derived.MapKept
import Derived.Carry
namespace Go.Proofs.YtjhgjplhhhgfcaaGreat
open Go.ChangeShapes Go.WideShapes Go.ChangeAt Go.RowKit
open Bits

theorem add_w (x y : Int) (_hx : 0 ≤ x ∧ x < 18446744073709551616) (_hy : 0 ≤ y ∧ y < 18446744073709551616) (w : World) :
    Calls Tryz.prog 102 #[.int .u64 x, .int .u64 y] w fun e w' => e = .returned (.int .u64 (IntKind.u64.wrap (x + y))) ∧ w = w' := by
  go_enter Tryz.func102, Tryz.ntmps102
  go_wp2_with fail
  go_ret
  exact ⟨rfl, rfl⟩

theorem sub_w (x y : Int) (_hx : 0 ≤ x ∧ x < 18446744073709551616) (_hy : 0 ≤ y ∧ y < 18446744073709551616) (w : World) :
    Calls Tryz.prog 103 #[.int .u64 x, .int .u64 y] w fun e w' => e = .returned (.int .u64 (IntKind.u64.wrap (x - y))) ∧ w = w' := by
  go_enter Tryz.func103, Tryz.ntmps103
  go_wp2_with fail
  go_ret
  exact ⟨rfl, rfl⟩

theorem mul_w (x y : Int) (_hx : 0 ≤ x ∧ x < 18446744073709551616) (_hy : 0 ≤ y ∧ y < 18446744073709551616) (w : World) :
    Calls Tryz.prog 104 #[.int .u64 x, .int .u64 y] w fun e w' => e = .returned (.int .u64 (IntKind.u64.wrap (x * y))) ∧ w = w' := by
  go_enter Tryz.func104, Tryz.ntmps104
  go_wp2_with fail
  go_ret
  exact ⟨rfl, rfl⟩

theorem or_w (x y : Int) (_hx : 0 ≤ x ∧ x < 18446744073709551616) (_hy : 0 ≤ y ∧ y < 18446744073709551616) (w : World) :
    Calls Tryz.prog 105 #[.int .u64 x, .int .u64 y] w fun e w' => e = .returned (.int .u64 (bits BinOp.or IntKind.u64 x y)) ∧ w = w' := by
  go_enter Tryz.func105, Tryz.ntmps105
  go_wp2_with fail
  go_ret
  exact ⟨rfl, rfl⟩

theorem and_w (x y : Int) (_hx : 0 ≤ x ∧ x < 18446744073709551616) (_hy : 0 ≤ y ∧ y < 18446744073709551616) (w : World) :
    Calls Tryz.prog 106 #[.int .u64 x, .int .u64 y] w fun e w' => e = .returned (.int .u64 (bits BinOp.and IntKind.u64 x y)) ∧ w = w' := by
  go_enter Tryz.func106, Tryz.ntmps106
  go_wp2_with fail
  go_ret
  exact ⟨rfl, rfl⟩

theorem xor_w (x y : Int) (_hx : 0 ≤ x ∧ x < 18446744073709551616) (_hy : 0 ≤ y ∧ y < 18446744073709551616) (w : World) :
    Calls Tryz.prog 107 #[.int .u64 x, .int .u64 y] w fun e w' => e = .returned (.int .u64 (bits BinOp.xor IntKind.u64 x y)) ∧ w = w' := by
  go_enter Tryz.func107, Tryz.ntmps107
  go_wp2_with fail
  go_ret
  exact ⟨rfl, rfl⟩

theorem neg_w (x y : Int) (_hx : 0 ≤ x ∧ x < 18446744073709551616) (_hy : 0 ≤ y ∧ y < 18446744073709551616) (w : World) :
    Calls Tryz.prog 108 #[.int .u64 x, .int .u64 y] w fun e w' => e = .returned (.int .u64 (IntKind.u64.wrap (-x))) ∧ w = w' := by
  go_enter Tryz.func108, Tryz.ntmps108
  go_wp2_with fail
  go_ret
  exact ⟨rfl, rfl⟩

theorem mov_w (x y : Int) (_hx : 0 ≤ x ∧ x < 18446744073709551616) (_hy : 0 ≤ y ∧ y < 18446744073709551616) (w : World) :
    Calls Tryz.prog 109 #[.int .u64 x, .int .u64 y] w fun e w' => e = .returned (.int .u64 (y)) ∧ w = w' := by
  go_enter Tryz.func109, Tryz.ntmps109
  go_wp2_with fail
  go_ret
  exact ⟨rfl, rfl⟩

theorem lsh_w (x y : Int) (_hx : 0 ≤ x ∧ x < 18446744073709551616) (hy : 0 ≤ y ∧ y < 18446744073709551616) (w : World) :
    Calls Tryz.prog 110 #[.int .u64 x, .int .u64 y] w fun e w' => e = .returned (.int .u64 (IntKind.u64.wrap (x * 2 ^ (y % 64).toNat))) ∧ w = w' := by
  go_enter Tryz.func110, Tryz.ntmps110
  go_wp2_with (go_at_call 58; refine (low_any _ 6 (by omega) hy _).mono ?_; rintro e w' ⟨rfl, rfl⟩)
  go_ret
  exact ⟨rfl, rfl⟩

theorem rsh_w (x y : Int) (_hx : 0 ≤ x ∧ x < 18446744073709551616) (hy : 0 ≤ y ∧ y < 18446744073709551616) (w : World) :
    Calls Tryz.prog 111 #[.int .u64 x, .int .u64 y] w fun e w' => e = .returned (.int .u64 (x / 2 ^ (y % 64).toNat)) ∧ w = w' := by
  go_enter Tryz.func111, Tryz.ntmps111
  go_wp2_with (go_at_call 58; refine (low_any _ 6 (by omega) hy _).mono ?_; rintro e w' ⟨rfl, rfl⟩)
  go_ret
  exact ⟨rfl, rfl⟩

theorem arsh_w (x y : Int) (_hx : 0 ≤ x ∧ x < 18446744073709551616) (hy : 0 ≤ y ∧ y < 18446744073709551616) (w : World) :
    Calls Tryz.prog 112 #[.int .u64 x, .int .u64 y] w fun e w' => e = .returned (.int .u64 (IntKind.u64.wrap (wrap64 x / 2 ^ (y % 64).toNat))) ∧ w = w' := by
  go_enter Tryz.func112, Tryz.ntmps112
  go_wp2_with (go_at_call 58; refine (low_any _ 6 (by omega) hy _).mono ?_; rintro e w' ⟨rfl, rfl⟩)
  go_ret
  exact ⟨rfl, rfl⟩

theorem div_w (x y : Int) (_hx : 0 ≤ x ∧ x < 18446744073709551616) (_hy : 0 ≤ y ∧ y < 18446744073709551616) (h0 : 1 ≤ y) (w : World) :
    Calls Tryz.prog 113 #[.int .u64 x, .int .u64 y] w fun e w' => e = .returned (.int .u64 (x / y)) ∧ w = w' := by
  go_enter Tryz.func113, Tryz.ntmps113
  go_wp2_with fail
  go_ret
  exact ⟨rfl, rfl⟩

theorem mod_w (x y : Int) (_hx : 0 ≤ x ∧ x < 18446744073709551616) (_hy : 0 ≤ y ∧ y < 18446744073709551616) (h0 : 1 ≤ y) (w : World) :
    Calls Tryz.prog 114 #[.int .u64 x, .int .u64 y] w fun e w' => e = .returned (.int .u64 (x % y)) ∧ w = w' := by
  go_enter Tryz.func114, Tryz.ntmps114
  go_wp2_with fail
  go_ret
  exact ⟨rfl, rfl⟩

theorem sdiv_w (x y : Int) (_hx : 0 ≤ x ∧ x < 18446744073709551616) (_hy : 0 ≤ y ∧ y < 18446744073709551616) (h0 : ¬ wrap64 y = 0) (w : World) :
    Calls Tryz.prog 115 #[.int .u64 x, .int .u64 y] w fun e w' => e = .returned (.int .u64 (IntKind.u64.wrap (wrap64 ((wrap64 x).tdiv (wrap64 y))))) ∧ w = w' := by
  go_enter Tryz.func115, Tryz.ntmps115
  go_wp2_with fail
  go_ret
  exact ⟨rfl, rfl⟩

theorem smod_w (x y : Int) (_hx : 0 ≤ x ∧ x < 18446744073709551616) (_hy : 0 ≤ y ∧ y < 18446744073709551616) (h0 : ¬ wrap64 y = 0) (w : World) :
    Calls Tryz.prog 116 #[.int .u64 x, .int .u64 y] w fun e w' => e = .returned (.int .u64 (IntKind.u64.wrap ((wrap64 x).tmod (wrap64 y)))) ∧ w = w' := by
  go_enter Tryz.func116, Tryz.ntmps116
  go_wp2_with fail
  go_ret
  exact ⟨rfl, rfl⟩


/-! ### maps of functions -/
abbrev TM : TypeId := 106
theorem under_map : Tryz.prog.underlying TM = some (.map 3 87) := by kernel_rfl

theorem run_ins (w : World) (es es' : Array MapEntry) (c : Nat) (k : Int) (v : Value) (hf : Instr.findNow (.int .i64) (.int .i64 k) es.toList 0 = some none) (he : es.push { key := .int .i64 k, val := v, born := c } = es') :
    (Instr.mapUpdate TM (.map (some w.heap.size)) (.int .i64 k) v).run Tryz.prog (w.alloc (.map es c)) = .ok () (w.alloc (.map es' (c + 1))) := by
  subst he
  have hb : (w.alloc (.map es c)).heap[w.heap.size]? = some (.map es c) := (MapKept.heap_alloc w _).1
  have hk := Tryz.underlying3
  have hc := MapKept.run_checkKey (P := Tryz.prog) (w := w.alloc (.map es c)) (k := .int .i64 k) hk (by simp [MapKept.IsKey]) false 9999
  have hs : (w.heap.push (.map es c)).setIfInBounds w.heap.size (.map (es.push { key := .int .i64 k, val := v, born := c }) (c + 1)) = w.heap.push (.map (es.push { key := .int .i64 k, val := v, born := c }) (c + 1)) := by
    apply Array.ext_getElem?
    intro i
    rw [Array.getElem?_setIfInBounds]
    by_cases h : w.heap.size = i
    · subst h; simp
    · rw [if_neg h, Array.getElem?_push, Array.getElem?_push, if_neg (Ne.symm h), if_neg (Ne.symm h)]
  simp [Instr.mapUpdate, run_underlying under_map, MapKept.run_getObj_map hb, hc, MapKept.run_findKey hk hf, MapKept.run_setObj_map _ hb, Result.andThen]
  show { w with heap := _ } = ({ w with heap := _ } : World)
  congr 1

theorem run_look (W : World) (r : Nat) (es : Array MapEntry) (c : Nat) (hb : W.heap[r]? = some (.map es c)) (k : Int) (i : Nat) (v : Value) (hf : Instr.findNow (.int .i64) (.int .i64 k) es.toList 0 = some (some (i, v))) :
    (Instr.lookup TM (.map (some r)) (.int .i64 k) true).run Tryz.prog W = .ok (.tuple #[v, .bool true]) W := by
  have hk := Tryz.underlying3
  have hc := MapKept.run_checkKey (P := Tryz.prog) (w := W) (k := .int .i64 k) hk (by simp [MapKept.IsKey]) es.isEmpty 9999
  simp [Instr.lookup, run_underlying under_map, MapKept.run_getObj_map hb, hc, MapKept.run_findKey hk hf, Result.andThen]
theorem run_look_none (W : World) (r : Nat) (es : Array MapEntry) (c : Nat) (hb : W.heap[r]? = some (.map es c)) (k : Int) (hf : Instr.findNow (.int .i64) (.int .i64 k) es.toList 0 = some none) :
    (Instr.lookup TM (.map (some r)) (.int .i64 k) true).run Tryz.prog W = .ok (.tuple #[.nilFunc, .bool false]) W := by
  have hk := Tryz.underlying3
  have hc := MapKept.run_checkKey (P := Tryz.prog) (w := W) (k := .int .i64 k) hk (by simp [MapKept.IsKey]) es.isEmpty 9999
  simp [Instr.lookup, run_underlying under_map, MapKept.run_getObj_map hb, hc, MapKept.run_findKey hk hf, Result.andThen]

def plainEs : Array MapEntry := #[{ key := .int .i64 1, val := .func (.func 102) #[] #[], born := 0 }, { key := .int .i64 2, val := .func (.func 103) #[] #[], born := 1 }, { key := .int .i64 3, val := .func (.func 104) #[] #[], born := 2 }, { key := .int .i64 8, val := .func (.func 105) #[] #[], born := 3 }, { key := .int .i64 9, val := .func (.func 106) #[] #[], born := 4 }, { key := .int .i64 10, val := .func (.func 107) #[] #[], born := 5 }, { key := .int .i64 14, val := .func (.func 108) #[] #[], born := 6 }, { key := .int .i64 15, val := .func (.func 109) #[] #[], born := 7 }]
set_option maxHeartbeats 1000000 in
theorem plain_any (w : World) : Calls Tryz.prog 81 #[] w fun e w' => e = .returned (.map (some w.heap.size)) ∧ w' = w.alloc (.map plainEs 8) := by
  have hmm := @run_makeMap Tryz.prog
  have i0 := run_ins w #[] #[{ key := .int .i64 1, val := .func (.func 102) #[] #[], born := 0 }] 0 1 (.func (.func 102) #[] #[]) rfl rfl
  have i1 := run_ins w #[{ key := .int .i64 1, val := .func (.func 102) #[] #[], born := 0 }] #[{ key := .int .i64 1, val := .func (.func 102) #[] #[], born := 0 }, { key := .int .i64 2, val := .func (.func 103) #[] #[], born := 1 }] 1 2 (.func (.func 103) #[] #[]) rfl rfl
  have i2 := run_ins w #[{ key := .int .i64 1, val := .func (.func 102) #[] #[], born := 0 }, { key := .int .i64 2, val := .func (.func 103) #[] #[], born := 1 }] #[{ key := .int .i64 1, val := .func (.func 102) #[] #[], born := 0 }, { key := .int .i64 2, val := .func (.func 103) #[] #[], born := 1 }, { key := .int .i64 3, val := .func (.func 104) #[] #[], born := 2 }] 2 3 (.func (.func 104) #[] #[]) rfl rfl
  have i3 := run_ins w #[{ key := .int .i64 1, val := .func (.func 102) #[] #[], born := 0 }, { key := .int .i64 2, val := .func (.func 103) #[] #[], born := 1 }, { key := .int .i64 3, val := .func (.func 104) #[] #[], born := 2 }] #[{ key := .int .i64 1, val := .func (.func 102) #[] #[], born := 0 }, { key := .int .i64 2, val := .func (.func 103) #[] #[], born := 1 }, { key := .int .i64 3, val := .func (.func 104) #[] #[], born := 2 }, { key := .int .i64 8, val := .func (.func 105) #[] #[], born := 3 }] 3 8 (.func (.func 105) #[] #[]) rfl rfl
  have i4 := run_ins w #[{ key := .int .i64 1, val := .func (.func 102) #[] #[], born := 0 }, { key := .int .i64 2, val := .func (.func 103) #[] #[], born := 1 }, { key := .int .i64 3, val := .func (.func 104) #[] #[], born := 2 }, { key := .int .i64 8, val := .func (.func 105) #[] #[], born := 3 }] #[{ key := .int .i64 1, val := .func (.func 102) #[] #[], born := 0 }, { key := .int .i64 2, val := .func (.func 103) #[] #[], born := 1 }, { key := .int .i64 3, val := .func (.func 104) #[] #[], born := 2 }, { key := .int .i64 8, val := .func (.func 105) #[] #[], born := 3 }, { key := .int .i64 9, val := .func (.func 106) #[] #[], born := 4 }] 4 9 (.func (.func 106) #[] #[]) rfl rfl
  have i5 := run_ins w #[{ key := .int .i64 1, val := .func (.func 102) #[] #[], born := 0 }, { key := .int .i64 2, val := .func (.func 103) #[] #[], born := 1 }, { key := .int .i64 3, val := .func (.func 104) #[] #[], born := 2 }, { key := .int .i64 8, val := .func (.func 105) #[] #[], born := 3 }, { key := .int .i64 9, val := .func (.func 106) #[] #[], born := 4 }] #[{ key := .int .i64 1, val := .func (.func 102) #[] #[], born := 0 }, { key := .int .i64 2, val := .func (.func 103) #[] #[], born := 1 }, { key := .int .i64 3, val := .func (.func 104) #[] #[], born := 2 }, { key := .int .i64 8, val := .func (.func 105) #[] #[], born := 3 }, { key := .int .i64 9, val := .func (.func 106) #[] #[], born := 4 }, { key := .int .i64 10, val := .func (.func 107) #[] #[], born := 5 }] 5 10 (.func (.func 107) #[] #[]) rfl rfl
  have i6 := run_ins w #[{ key := .int .i64 1, val := .func (.func 102) #[] #[], born := 0 }, { key := .int .i64 2, val := .func (.func 103) #[] #[], born := 1 }, { key := .int .i64 3, val := .func (.func 104) #[] #[], born := 2 }, { key := .int .i64 8, val := .func (.func 105) #[] #[], born := 3 }, { key := .int .i64 9, val := .func (.func 106) #[] #[], born := 4 }, { key := .int .i64 10, val := .func (.func 107) #[] #[], born := 5 }] #[{ key := .int .i64 1, val := .func (.func 102) #[] #[], born := 0 }, { key := .int .i64 2, val := .func (.func 103) #[] #[], born := 1 }, { key := .int .i64 3, val := .func (.func 104) #[] #[], born := 2 }, { key := .int .i64 8, val := .func (.func 105) #[] #[], born := 3 }, { key := .int .i64 9, val := .func (.func 106) #[] #[], born := 4 }, { key := .int .i64 10, val := .func (.func 107) #[] #[], born := 5 }, { key := .int .i64 14, val := .func (.func 108) #[] #[], born := 6 }] 6 14 (.func (.func 108) #[] #[]) rfl rfl
  have i7 := run_ins w #[{ key := .int .i64 1, val := .func (.func 102) #[] #[], born := 0 }, { key := .int .i64 2, val := .func (.func 103) #[] #[], born := 1 }, { key := .int .i64 3, val := .func (.func 104) #[] #[], born := 2 }, { key := .int .i64 8, val := .func (.func 105) #[] #[], born := 3 }, { key := .int .i64 9, val := .func (.func 106) #[] #[], born := 4 }, { key := .int .i64 10, val := .func (.func 107) #[] #[], born := 5 }, { key := .int .i64 14, val := .func (.func 108) #[] #[], born := 6 }] #[{ key := .int .i64 1, val := .func (.func 102) #[] #[], born := 0 }, { key := .int .i64 2, val := .func (.func 103) #[] #[], born := 1 }, { key := .int .i64 3, val := .func (.func 104) #[] #[], born := 2 }, { key := .int .i64 8, val := .func (.func 105) #[] #[], born := 3 }, { key := .int .i64 9, val := .func (.func 106) #[] #[], born := 4 }, { key := .int .i64 10, val := .func (.func 107) #[] #[], born := 5 }, { key := .int .i64 14, val := .func (.func 108) #[] #[], born := 6 }, { key := .int .i64 15, val := .func (.func 109) #[] #[], born := 7 }] 7 15 (.func (.func 109) #[] #[]) rfl rfl
  go_enter Tryz.func81, Tryz.ntmps81
  go_wp2_with fail
  go_ret
  exact ⟨rfl, rfl⟩
theorem plain_any' (w : World) : Calls Tryz.prog 81 #[] w fun e w' => e = .returned (.map (some w.heap.size)) ∧ w'.heap[w.heap.size]? = some (.map plainEs 8) ∧ Below w.heap.size w w' := by
  refine (plain_any w).mono ?_
  rintro e w' ⟨rfl, rfl⟩
  exact ⟨rfl, (MapKept.heap_alloc w _).1, (Below.refl _ _).alloc (Nat.le_refl _) _⟩

def shiftsEs : Array MapEntry := #[{ key := .int .i64 11, val := .func (.func 110) #[] #[], born := 0 }, { key := .int .i64 12, val := .func (.func 111) #[] #[], born := 1 }, { key := .int .i64 13, val := .func (.func 112) #[] #[], born := 2 }]
set_option maxHeartbeats 1000000 in
theorem shifts_any (w : World) : Calls Tryz.prog 82 #[] w fun e w' => e = .returned (.map (some w.heap.size)) ∧ w' = w.alloc (.map shiftsEs 3) := by
  have hmm := @run_makeMap Tryz.prog
  have i0 := run_ins w #[] #[{ key := .int .i64 11, val := .func (.func 110) #[] #[], born := 0 }] 0 11 (.func (.func 110) #[] #[]) rfl rfl
  have i1 := run_ins w #[{ key := .int .i64 11, val := .func (.func 110) #[] #[], born := 0 }] #[{ key := .int .i64 11, val := .func (.func 110) #[] #[], born := 0 }, { key := .int .i64 12, val := .func (.func 111) #[] #[], born := 1 }] 1 12 (.func (.func 111) #[] #[]) rfl rfl
  have i2 := run_ins w #[{ key := .int .i64 11, val := .func (.func 110) #[] #[], born := 0 }, { key := .int .i64 12, val := .func (.func 111) #[] #[], born := 1 }] #[{ key := .int .i64 11, val := .func (.func 110) #[] #[], born := 0 }, { key := .int .i64 12, val := .func (.func 111) #[] #[], born := 1 }, { key := .int .i64 13, val := .func (.func 112) #[] #[], born := 2 }] 2 13 (.func (.func 112) #[] #[]) rfl rfl
  go_enter Tryz.func82, Tryz.ntmps82
  go_wp2_with fail
  go_ret
  exact ⟨rfl, rfl⟩
theorem shifts_any' (w : World) : Calls Tryz.prog 82 #[] w fun e w' => e = .returned (.map (some w.heap.size)) ∧ w'.heap[w.heap.size]? = some (.map shiftsEs 3) ∧ Below w.heap.size w w' := by
  refine (shifts_any w).mono ?_
  rintro e w' ⟨rfl, rfl⟩
  exact ⟨rfl, (MapKept.heap_alloc w _).1, (Below.refl _ _).alloc (Nat.le_refl _) _⟩

def divisionsEs : Array MapEntry := #[{ key := .int .i64 4, val := .func (.func 113) #[] #[], born := 0 }, { key := .int .i64 5, val := .func (.func 114) #[] #[], born := 1 }, { key := .int .i64 6, val := .func (.func 115) #[] #[], born := 2 }, { key := .int .i64 7, val := .func (.func 116) #[] #[], born := 3 }]
set_option maxHeartbeats 1000000 in
theorem divisions_any (w : World) : Calls Tryz.prog 83 #[] w fun e w' => e = .returned (.map (some w.heap.size)) ∧ w' = w.alloc (.map divisionsEs 4) := by
  have hmm := @run_makeMap Tryz.prog
  have i0 := run_ins w #[] #[{ key := .int .i64 4, val := .func (.func 113) #[] #[], born := 0 }] 0 4 (.func (.func 113) #[] #[]) rfl rfl
  have i1 := run_ins w #[{ key := .int .i64 4, val := .func (.func 113) #[] #[], born := 0 }] #[{ key := .int .i64 4, val := .func (.func 113) #[] #[], born := 0 }, { key := .int .i64 5, val := .func (.func 114) #[] #[], born := 1 }] 1 5 (.func (.func 114) #[] #[]) rfl rfl
  have i2 := run_ins w #[{ key := .int .i64 4, val := .func (.func 113) #[] #[], born := 0 }, { key := .int .i64 5, val := .func (.func 114) #[] #[], born := 1 }] #[{ key := .int .i64 4, val := .func (.func 113) #[] #[], born := 0 }, { key := .int .i64 5, val := .func (.func 114) #[] #[], born := 1 }, { key := .int .i64 6, val := .func (.func 115) #[] #[], born := 2 }] 2 6 (.func (.func 115) #[] #[]) rfl rfl
  have i3 := run_ins w #[{ key := .int .i64 4, val := .func (.func 113) #[] #[], born := 0 }, { key := .int .i64 5, val := .func (.func 114) #[] #[], born := 1 }, { key := .int .i64 6, val := .func (.func 115) #[] #[], born := 2 }] #[{ key := .int .i64 4, val := .func (.func 113) #[] #[], born := 0 }, { key := .int .i64 5, val := .func (.func 114) #[] #[], born := 1 }, { key := .int .i64 6, val := .func (.func 115) #[] #[], born := 2 }, { key := .int .i64 7, val := .func (.func 116) #[] #[], born := 3 }] 3 7 (.func (.func 116) #[] #[]) rfl rfl
  go_enter Tryz.func83, Tryz.ntmps83
  go_wp2_with fail
  go_ret
  exact ⟨rfl, rfl⟩
theorem divisions_any' (w : World) : Calls Tryz.prog 83 #[] w fun e w' => e = .returned (.map (some w.heap.size)) ∧ w'.heap[w.heap.size]? = some (.map divisionsEs 4) ∧ Below w.heap.size w w' := by
  refine (divisions_any w).mono ?_
  rintro e w' ⟨rfl, rfl⟩
  exact ⟨rfl, (MapKept.heap_alloc w _).1, (Below.refl _ _).alloc (Nat.le_refl _) _⟩

end Go.Proofs.YtjhgjplhhhgfcaaGreat
