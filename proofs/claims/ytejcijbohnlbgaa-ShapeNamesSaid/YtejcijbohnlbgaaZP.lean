/- Contracts of the law's cons and of the document's Wrong. -/
import Derived.Test.YtejcijbohnlbgaaZK
namespace Go.Proofs.Ytejcijbohnlbgaa
open Go.ChangeShapes Go.WideShapes Go.ChangeAt Go.RowKit
open Zon
set_option linter.unusedVariables false
set_option maxRecDepth 100000
theorem in_any (v : Int) (w : World) : Calls Try.prog 37 #[.int .i64 v] w fun e w' => e = .returned (.bool (varB v)) ∧ w = w' := by
  have HV := Lib.hid (show varB v = (decide (0 ≤ v) && decide (v < 60)) from rfl)
  cases h1 : decide (0 ≤ v) <;> cases h2 : decide (v < 60)
  all_goals
    have HW := Lib.hid (HV.out.trans (by rw [h1, h2]))
    go_enter Try.func37, Try.ntmps37
    go_wp2_with fail
    go_ret
    exact ⟨ret_bool (by rw [HW.out]; rfl), rfl⟩
theorem fits_any (v : Int) (w : World) : Calls Try.prog 38 #[.int .i64 v] w fun e w' => e = .returned (.bool (rngB v)) ∧ w = w' := by
  have HV := Lib.hid (show rngB v = (decide (-1152921504606846976 ≤ v) && decide (v ≤ 1152921504606846976)) from rfl)
  cases h1 : decide (-1152921504606846976 ≤ v) <;> cases h2 : decide (v ≤ 1152921504606846976)
  all_goals
    have HW := Lib.hid (HV.out.trans (by rw [h1, h2]))
    go_enter Try.func38, Try.ntmps38
    go_wp2_with fail
    go_ret
    exact ⟨ret_bool (by rw [HW.out]; rfl), rfl⟩
set_option maxHeartbeats 2000000 in
theorem refWrong_any (w : World) (A : Option Addr) (n c : Nat) (L : List Con) (hL : L.length = n) (hn : n ≤ 4000000000000000000) (h : ConsAt w A L) :
    Calls Try.prog 6 #[.slice A n c] w fun e w' => e = .returned (.int .i64 (wrongL L)) ∧ w = w' := by
  have HA := Lib.hid h
  have HL := Lib.hid hL
  clear h hL
  go_enter Try.func6, Try.ntmps6
  go_wp2_with fail
  go_loop [3] (fun i => ∃ k : Nat, k ≤ n ∧ i = .int .i64 k ∧ wrongL L = wrongL (L.drop k)) (fun i => (n - intOf i).toNat)
  case atStart => exact ⟨0, Nat.zero_le _, rfl, rfl⟩
  case round =>
    obtain ⟨k, hk, rfl, hw⟩ := hrel
    by_cases hlt : k < n
    · have hlt' : (k : Int) < n := by omega
      have hk0 : (0 : Int) ≤ k := by omega
      obtain ⟨b, off, rfl, hbl, -⟩ := HA.out (by have := HL.out; omega)
      obtain ⟨x, hx, -, x0, x1, x2⟩ := HA.out.get (k := k) (by have := HL.out; omega)
      obtain ⟨hw1, hw2⟩ := wrongL_drop hx hw
      have HW1 := Lib.hid hw1
      have HW2 := Lib.hid hw2
      have HE := Lib.hid (show wrong1 x = if !(varB x.i && varB x.j) then 50 else if !rngB x.c then 51 else 0 from rfl)
      clear hx hw hw1 hw2 hbl
      obtain ⟨xi, xj, xc⟩ := x
      simp only at x0 x1 x2 HE
      cases h1 : varB xi <;> cases h2 : varB xj <;> cases h3 : rngB xc
      all_goals
        have HE2 := Lib.hid (HE.out.trans (by rw [h1, h2, h3]))
        clear HE
        go_wp2_with (first
          | (go_at_call 37; refine (in_any _ _).mono ?_; rintro e w' ⟨rfl, rfl⟩)
          | (go_at_call 38; refine (fits_any _ _).mono ?_; rintro e w' ⟨rfl, rfl⟩))
        first
          | (go_ret
             refine ⟨ret_i64 ?_, rfl⟩
             rw [HW2.out (by rw [HE2.out]; decide), HE2.out]
             rfl)
          | (go_round
             case rel => exact ⟨k + 1, by omega, by go_num, HW1.out HE2.out⟩
             case measure => simp [intOf]; omega)
    · obtain rfl : k = n := by omega
      have hjn : decide ((k : Int) < k) = false := decide_eq_false (by omega)
      have HE := Lib.hid (show wrongL L = 0 by rw [hw, List.drop_eq_nil_of_le (by rw [HL.out]; omega)]; rfl)
      clear hw
      go_wp2_with fail
      go_ret
      exact ⟨ret_i64 HE.out.symm, rfl⟩
theorem step_append_con {P : Program} (t e : TypeId) (hu : P.underlying t = some (.slice e)) (hinf : (P.info? e).map (fun i => (i.zero, i.size, i.bytes)) = some (some (.agg #[.int .i64 0, .int .i64 0, .int .i64 0]), 3, 24)) (w : World) {ops : Array Oper} {o : Oper} {a : Act} {K : Act → World → Prop} {Q : Exit → Act → World → Prop} {E : Prop} (hgd : Region.wanted o (yielded ops a.tmps) = true) (s x : Operand)
    (ho : o.op = .call { callee := .builtin .append, args := #[s, x], argTypes := #[t, t] })
    (base : Nat) (v : Value) (L : List Con) (hs : a.eval s = v) (hown : OwnC e w base v L)
    (ad : Addr) (m c : Nat) (M : List Con) (hx : a.eval x = .slice (some ad) m c) (hm : M.length = m) (hr : ConsAt w (some ad) M)
    (hlen : L.length + m ≤ 8000000000000) (hbase : base ≤ w.heap.size)
    (h : ∀ v' w', OwnC e w' base v' (L ++ M) → Below base w w' → K (a.put o.dst v') w') : if Region.wanted o (yielded ops a.tmps) = true then Oper.wp P o a w K Q else E := by
  subst hm
  rw [if_pos hgd]
  obtain ⟨i0, hi, hz0, hz1, hz2⟩ := info_parts hinf
  refine wp_append_own_wide w s x t ho base e i0 _ 3 24 hu hi hz0 hz1 hz2 rfl (by decide) v L.length _ hs hown ad M.length c _ hx hr.reads.1 (fun j u hu => ?_) (fun u hu => ?_) (by unfold maxLen; omega) (by omega) hbase fun v' w' h1 h2 _ => ?_
  · rcases Nat.eq_zero_or_pos M.length with h0 | h0
    · have : M = [] := List.eq_nil_of_length_eq_zero h0
      subst this
      simp at hu
    · obtain ⟨ad', e1, _, hc⟩ := hr.reads.2 h0
      injection e1 with e1
      subst e1
      exact hc j u hu
  · simp only [List.mem_flatMap, Con.cells, List.mem_cons, List.not_mem_nil, or_false] at hu
    obtain ⟨z, _, hz⟩ := hu
    rcases hz with rfl | rfl | rfl <;> rfl
  · refine h v' w' ?_ ((Below.refl base w).grown h2 hbase fun k hk => (World.ownsRow.lt hown k hk).1)
    unfold OwnC
    rw [List.length_append, List.flatMap_append]
    exact h1
def ConS (b o : Nat) (xi xj xc : Int) (w W : World) : Prop := W.cell? ⟨b, o, none⟩ = some (.int .i64 xi) ∧ W.cell? ⟨b, o + 1, none⟩ = some (.int .i64 xj) ∧ W.cell? ⟨b, o + 2, none⟩ = some (.int .i64 xc) ∧ Below w.heap.size w W
theorem ConS.more {b o : Nat} {xi xj xc : Int} {w W W' : World} (h : ConS b o xi xj xc w W) (hb : Below w.heap.size W W') (hl : b < w.heap.size) : ConS b o xi xj xc w W' :=
  ⟨(hb.cell (p := ⟨b, o, none⟩) hl).trans h.1, (hb.cell (p := ⟨b, o + 1, none⟩) hl).trans h.2.1, (hb.cell (p := ⟨b, o + 2, none⟩) hl).trans h.2.2.1, h.2.2.2.trans hb⟩
theorem ConS.alloc {b o' : Nat} {xi xj xc : Int} {w W : World} {o : Obj} (h : ConS b o' xi xj xc w W) (hl : b < w.heap.size) : ConS b o' xi xj xc w (W.alloc o) :=
  h.more ((below_box W o).mono h.2.2.2.size) hl
set_option maxHeartbeats 2000000 in
theorem cons_any (w : World) (A : Option Addr) (n c : Nat) (L : List Con) (hL : L.length = n) (hn : n ≤ 7000000000000) (h : ConsAt w A L) :
    Calls Try.prog 39 #[.slice A n c] w (Owned 45 w L) := by
  have HA := Lib.hid h
  have HL := Lib.hid hL
  clear h hL
  go_enter Try.func39, Try.ntmps39
  go_wp2_with fail
  go_loopw [4, 3] (fun i v wr => ∃ k : Nat, k ≤ n ∧ i = .int .i64 k ∧ OwnC 45 wr w.heap.size v (L.take k) ∧ Below w.heap.size w wr) (fun i _ _ => (n - intOf i).toNat)
  case atStart => exact ⟨0, Nat.zero_le _, rfl, OwnC.nil _ _ _, Below.refl _ _⟩
  case round =>
    obtain ⟨k, hk, rfl, hO, hB⟩ := hrel
    by_cases hlt : k < n
    · have hlt' : (k : Int) < n := by omega
      have hk0 : (0 : Int) ≤ k := by omega
      obtain ⟨b, off, rfl, hbl, -⟩ := HA.out (by have := HL.out; omega)
      obtain ⟨x, hx, -, x0, x1, x2⟩ := (HA.out.below hB).get (k := k) (by have := HL.out; omega)
      have HE := Lib.hid (take_next L k x hx)
      have HLL := Lib.hid (show (L.take k).length + 1 ≤ 8000000000000 by rw [List.length_take]; omega)
      obtain ⟨xi, xj, xc⟩ := x
      simp only at x0 x1 x2
      have HO := Lib.hid hO
      have HB := Lib.hid hB
      obtain ⟨A3, m, c3, rfl, HM⟩ := hO.form'
      have HBL0 := Lib.hid hbl
      clear hO hB hx hbl hlt
      generalize L.take k = T at *
      go_upto_region 5 with (fail)
      have HBd := Lib.hid (show Below w.heap.size w wr.drew from below_drewN' HB.out 1)
      have HOd := Lib.hid (show OwnC 45 wr.drew w.heap.size (.slice A3 m c3) T from HO.out)
      have HS0 := Lib.hid (show ConS b (off + k * 3) xi xj xc w wr.drew from ⟨x0, x1, x2, HBd.out⟩)
      have HSA := Lib.hid (fun o => HS0.out.alloc (o := o) HBL0.out)
      have hlen := HLL.out
      have hbs : ∀ o, w.heap.size ≤ (wr.drew.alloc o).heap.size := fun o => Nat.le_trans HBd.out.size (below_box wr.drew o).size
      have HLE := Lib.hid hlen
      have HBS := Lib.hid hbs
      clear hlen hbs HB HO HLL
      go_region_held3 (fun W => W.cell? ⟨b, off + k * 3, none⟩ = some (.int .i64 xi) ∧ W.cell? ⟨b, off + k * 3 + 1, none⟩ = some (.int .i64 xj) ∧ W.cell? ⟨b, off + k * 3 + 2, none⟩ = some (.int .i64 xc) ∧ Below w.heap.size w W)
        (first | exact HS0.out | exact HSA.out _ | exact hS')
        ((refine step_append_con 28 45 Try.underlying28 con_info _ rfl (.tmp 11) (.tmp 28) rfl w.heap.size _ _ rfl (HOd.out.up (below_box wr.drew _)) _ 1 _ [_] rfl rfl (cons_one wr.drew _ _ _ _) HLE.out (HBS.out _) ?_; intro v' w' hown' hB'; have hS' := ConS.more (HSA.out _) hB' HBL0.out))
      have HW := Lib.hid hown'
      have HBW := Lib.hid hS'.2.2.2
      clear hown' hB' hS' x0 x1 x2
      go_wp2_with fail
      go_roundw
      case rel => exact ⟨k + 1, by omega, by go_num, by rw [HE.out]; exact HW.out, HBW.out⟩
      case measure => simp [intOf]; omega
    · obtain rfl : k = n := by omega
      have hjn : decide ((k : Int) < k) = false := decide_eq_false (by omega)
      rw [List.take_of_length_le (by rw [HL.out]; omega)] at hO
      go_wp2_with fail
      go_ret
      exact ⟨_, rfl, hO, hB⟩
end Go.Proofs.Ytejcijbohnlbgaa
