/- The law's assignments: full, with, place, met. -/
import Derived.Test.YtockoolcdhgopaaZS
import Derived.Great.Walk
namespace Go.Proofs.Ytockoolcdhgopaa
open Go.ChangeShapes Go.WideShapes Go.ChangeAt Go.RowKit
open Zon
set_option linter.unusedVariables false
set_option maxRecDepth 100000
/-- sixty numbers in a block -/
def VecAt (w : World) (g : Nat) (a : Nat → Int) : Prop := FB w g 3 60 (fun q => .int .i64 (a q))
abbrev vecV (g : Nat) : Value := .slice (some ⟨g, 0, none⟩) 60 60
theorem VecAt.up {w w' : World} {g : Nat} {a : Nat → Int} (h : VecAt w g a) (hb : Below w.heap.size w w') : VecAt w' g a := FB.up h hb
theorem VecAt.touch {w w' : World} {g k : Nat} {a : Nat → Int} (h : VecAt w g a) (hb : Touch k w w') (hne : g ≠ k) : VecAt w' g a := FB.touch h hb hne
theorem VecAt.at_ {w : World} {g : Nat} {a : Nat → Int} (h : VecAt w g a) (q : Nat) (hq : q < 60) : w.cell? ⟨g, q, none⟩ = some (.int .i64 (a q)) := FB.cell h q hq
theorem VecAt.congr {w : World} {g : Nat} {a b : Nat → Int} (h : VecAt w g a) (e : ∀ q, q < 60 → a q = b q) : VecAt w g b := FB.congr h fun k hk => by simp only [e k hk]
def updI (a : Nat → Int) (x : Nat) (v : Int) : Nat → Int := fun q => if q = x then v else a q
theorem VecAt.set {w : World} {g : Nat} {a : Nat → Int} (h : VecAt w g a) (x : Nat) (v : Int) : VecAt (w.setCell ⟨g, x, none⟩ (.int .i64 v)) g (updI a x v) :=
  FB.congr (FB.set_ h x (.int .i64 v)) fun k _ => by unfold upd updI; split <;> rfl
theorem VecAt.lt {w : World} {g : Nat} {a : Nat → Int} (h : VecAt w g a) : g < w.heap.size := FB.lt h
theorem make60 (w : World) : (Instr.makeSlice 22 (.int .i64 60) (.int .i64 60)).run Try.prog w = .ok (.slice (some ⟨w.heap.size, 0, none⟩) 60 60) (w.alloc (.cells (arr 60 fun _ => .int .i64 0) 3)) := by kernel_rfl
theorem wpList_make60 {ops : Array Oper} {rest : List Oper} {o : Oper} {a : Act} {w : World} {Q : Exit → Act → World → Prop} (hgd : o.guard = none) (x y : Operand) (ho : o.op = .makeSlice 22 x y)
    (hx : a.eval x = .int .i64 60) (hy : a.eval y = .int .i64 60)
    (h : ∀ w', VecAt w' w.heap.size (fun _ => 0) → Below w.heap.size w w' → w'.heap.size = w.heap.size + 1 → wpList Try.prog ops Q rest (a.put o.dst (vecV w.heap.size)) w') : wpList Try.prog ops Q (o :: rest) a w :=
  wpList_plain hgd fun _ hK => by
    unfold Oper.wp execOp
    simp only [ho, hx, hy, Sem.run_bind, make60 w, Result.andThen_ok, Sem.run_pure]
    exact hK _ _ (h _ (FB.new w _ 60 _) ((Below.refl _ _).alloc (Nat.le_refl _) _) (by simp))
/-- a vector that a call made -/
def Vec (w : World) (a : Nat → Int) (e : Ending) (w' : World) : Prop := ∃ g, e = .returned (vecV g) ∧ w.heap.size ≤ g ∧ VecAt w' g a ∧ Below w.heap.size w w'
def fullV (L : List Int) : Nat → Int := fun q => if q = 0 then 0 else L[q]?.getD 0
theorem fullV_i64 {L : List Int} (h : ∀ x ∈ L, I64 x) (q : Nat) : I64 (fullV L q) := by
  unfold fullV
  split
  · unfold I64; omega
  · cases e : L[q]? with
    | none => simp [I64]
    | some x => exact h x (List.mem_of_getElem? e)
set_option maxHeartbeats 2000000 in
theorem full_any (w : World) (A : Option Addr) (n c : Nat) (L : List Int) (i : NumIn w A n c L) :
    Calls Try.prog 8 #[.slice A n c] w (Vec w (fullV L)) := by
  have I := Lib.hid i
  have hn := i.reach
  clear i
  go_enter Try.func8, Try.ntmps8
  go_upto_region 2 with (refine wpList_make60 rfl _ _ rfl rfl rfl ?_; intro w2 hb2 hB2 hs2)
  obtain ⟨g, hg⟩ : ∃ g, g = w.heap.size := ⟨_, rfl⟩
  rw [← hg] at hb2 ⊢
  have HG := Lib.hid hg
  have HB2 := Lib.hid hB2
  have Hb2 := Lib.hid hb2
  clear hg hb2 hB2 hs2
  go_wp2_with fail
  go_loopw [4] (fun i wr => ∃ k : Nat, 1 ≤ k ∧ k ≤ 60 ∧ i = .int .i64 k ∧ VecAt wr g (fun q => if q < k then fullV L q else 0) ∧ Touch g w2 wr) (fun i _ => (60 - intOf i).toNat)
  case atStart => exact ⟨1, by omega, by omega, rfl, Hb2.out.congr fun q _ => by unfold fullV; by_cases e : q < 1; rw [if_pos e, if_pos (by omega)]; rw [if_neg e], Touch.refl _ _⟩
  case round =>
    obtain ⟨k, hk1, hk, rfl, hV, hT⟩ := hrel
    have hk0 : (0 : Int) ≤ k := by omega
    by_cases hlt : k < 60 ∧ k < n
    · have hlt1 : (k : Int) < 60 := by omega
      have hlt2 : (k : Int) < n := by omega
      obtain ⟨b, off, rfl, hbl, hc⟩ := I.out.at_ (by have := I.out.len; omega)
      obtain ⟨x, hx⟩ : ∃ x, L[k]? = some x := ⟨L[k]'(by have := I.out.len; omega), List.getElem?_eq_getElem _⟩
      have hbg : b ≠ g := by have := HG.out; omega
      have h0 := hc k x hx
      have hx1 : wr.cell? ⟨b, off + k, none⟩ = some (.int .i64 x) := by
        rw [World.cell?_of_block (w := w2) (hT.block b (by have := HB2.out.size; omega) hbg), HB2.out.cell (p := ⟨b, off + k, none⟩) hbl]
        exact h0
      have hy := hV.at_ k hlt.1
      have hf := FB.frozen hV k
      have HN := Lib.hid ((hV.set k x).congr (b := fun q => if q < k + 1 then fullV L q else 0) fun q _ => by
        unfold updI
        by_cases e : q = k
        · rw [if_pos e, if_pos (by omega), e]; unfold fullV; rw [if_neg (by omega), hx]; rfl
        · rw [if_neg e]
          show (if q < k then fullV L q else 0) = _
          by_cases e2 : q < k
          · rw [if_pos e2, if_pos (by omega)]
          · rw [if_neg e2, if_neg (by omega)])
      have HT := Lib.hid (hT.trans (Touch.set_ wr k (.int .i64 x)))
      clear hV hT h0 hc hx hlt
      go_wp2_with fail
      go_roundw
      case rel => exact ⟨k + 1, by omega, by omega, by go_num, HN.out, HT.out⟩
      case measure => simp [intOf]; omega
    · have HF := Lib.hid (hV.congr (b := fullV L) fun q hq => by
        by_cases e : q < k
        · rw [if_pos e]
        · rw [if_neg e]; unfold fullV; rw [if_neg (by omega), List.getElem?_eq_none (by have := I.out.len; omega)]; rfl)
      have HBl := Lib.hid (show Below w.heap.size w wr from HB2.out.trans (hT.below (by rw [HG.out]; exact Nat.le_refl _) HB2.out.size))
      clear hV hT
      by_cases h1 : k < 60
      · have t1 : (k : Int) < 60 := by omega
        have t2 : decide ((k : Int) < n) = false := decide_eq_false (by omega)
        have t3 : decide (k < n) = false := decide_eq_false (by omega)
        go_wp2_with fail
        go_ret
        exact ⟨g, rfl, by rw [HG.out]; exact Nat.le_refl _, HF.out, HBl.out⟩
      · have t1 : decide ((k : Int) < 60) = false := decide_eq_false (by omega)
        go_wp2_with fail
        go_ret
        exact ⟨g, rfl, by rw [HG.out]; exact Nat.le_refl _, HF.out, HBl.out⟩
set_option maxHeartbeats 2000000 in
theorem with_any (w : World) (ga : Nat) (a : Nat → Int) (x : Nat) (v : Int) (h : VecAt w ga a) (hx : x < 60) :
    Calls Try.prog 17 #[vecV ga, .int .i64 x, .int .i64 v] w (Vec w (updI a x v)) := by
  have HV := Lib.hid h
  clear h
  have hx1 : (x : Int) < 60 := by omega
  have hx0 : (0 : Int) ≤ x := by omega
  go_enter Try.func17, Try.ntmps17
  go_upto_region 2 with (refine wpList_make60 rfl _ _ rfl rfl rfl ?_; intro w2 hb2 hB2 hs2)
  obtain ⟨g, hg⟩ : ∃ g, g = w.heap.size := ⟨_, rfl⟩
  rw [← hg] at hb2 ⊢
  have HG := Lib.hid hg
  have HB2 := Lib.hid hB2
  have Hb2 := Lib.hid hb2
  have HNE := Lib.hid (show ga ≠ g by have := HV.out.lt; omega)
  clear hg hb2 hB2 hs2
  go_wp2_with fail
  go_loopw [8] (fun i wr => ∃ k : Nat, k ≤ 60 ∧ i = .int .i64 k ∧ VecAt wr g (fun q => if q < k then a q else 0) ∧ Touch g w2 wr) (fun i _ => (60 - intOf i).toNat)
  case atStart => exact ⟨0, by omega, rfl, Hb2.out.congr fun q _ => by rw [if_neg (by omega)], Touch.refl _ _⟩
  case round =>
    obtain ⟨k, hk, rfl, hV, hT⟩ := hrel
    have hk0 : (0 : Int) ≤ k := by omega
    by_cases hlt : k < 60
    · have hlt1 : (k : Int) < 60 := by omega
      have h1 := ((HV.out.up HB2.out).touch hT HNE.out).at_ k hlt
      have hy := hV.at_ k hlt
      have hf := FB.frozen hV k
      have HN := Lib.hid ((hV.set k (a k)).congr (b := fun q => if q < k + 1 then a q else 0) fun q _ => by
        unfold updI
        by_cases e : q = k
        · rw [if_pos e, if_pos (by omega), e]
        · rw [if_neg e]
          show (if q < k then a q else 0) = _
          by_cases e2 : q < k
          · rw [if_pos e2, if_pos (by omega)]
          · rw [if_neg e2, if_neg (by omega)])
      have HT := Lib.hid (hT.trans (Touch.set_ wr k (.int .i64 (a k))))
      clear hV hT hlt
      go_wp2_with fail
      go_roundw
      case rel => exact ⟨k + 1, by omega, by go_num, HN.out, HT.out⟩
      case measure => simp [intOf]; omega
    · obtain rfl : k = 60 := by omega
      have hV2 : VecAt wr g a := hV.congr fun q hq => by rw [if_pos hq]
      have hy := hV2.at_ x hx
      have hf := FB.frozen hV2 x
      have HN := Lib.hid (hV2.set x v)
      have HBl := Lib.hid (show Below w.heap.size w (wr.setCell ⟨g, x, none⟩ (.int .i64 v)) from HB2.out.trans ((hT.trans (Touch.set_ wr x (.int .i64 v))).below (by rw [HG.out]; exact Nat.le_refl _) HB2.out.size))
      clear hV hT hV2
      go_wp2_with fail
      go_ret
      exact ⟨g, rfl, by rw [HG.out]; exact Nat.le_refl _, HN.out, HBl.out⟩
theorem place_math (v n : Int) (hn : 0 < n) : -n < v.tmod n ∧ v.tmod n < n ∧ (0 ≤ v.tmod n → v.tmod n = v % n) ∧ (v.tmod n < 0 → v.tmod n + n = v % n) := by
  have h1 := Int.tmod_lt_of_pos v hn
  have h2 := Int.lt_tmod_of_pos v hn
  have e : v % n = v.tmod n % n := by
    have h := Int.tmod_add_mul_tdiv v n
    have := Int.add_mul_emod_self_left (v.tmod n) n (v.tdiv n)
    rw [h] at this
    exact this
  refine ⟨h2, h1, fun h => ?_, fun h => ?_⟩
  · rw [e, Int.emod_eq_of_lt h h1]
  · rw [e, ← Int.add_emod_right, Int.emod_eq_of_lt (by omega) (by omega)]
set_option maxHeartbeats 1000000 in
theorem place_any (v n : Int) (w : World) (hv : I64 v) (hn : 0 < n) (hn2 : n ≤ 4611686018427387904) :
    Calls Try.prog 22 #[.int .i64 v, .int .i64 n] w fun e w' => e = .returned (.int .i64 (v % n)) ∧ w = w' := by
  obtain ⟨h1, h2, h3, h4⟩ := place_math v n hn
  have H3 := Lib.hid h3
  have H4 := Lib.hid h4
  have hne : (n == 0) = false := by rw [beq_eq_false_iff_ne]; omega
  unfold I64 at hv
  clear h3 h4
  by_cases h : v.tmod n < 0
  · have t : decide (v.tmod n < 0) = true := decide_eq_true h
    have HE := Lib.hid (H4.out h)
    go_enter Try.func22, Try.ntmps22
    go_wp2_with fail
    go_ret
    exact ⟨ret_i64 HE.out, rfl⟩
  · have t : decide (v.tmod n < 0) = false := decide_eq_false h
    have HE := Lib.hid (H3.out (by omega))
    go_enter Try.func22, Try.ntmps22
    go_wp2_with fail
    go_ret
    exact ⟨ret_i64 HE.out, rfl⟩
end Go.Proofs.Ytockoolcdhgopaa
