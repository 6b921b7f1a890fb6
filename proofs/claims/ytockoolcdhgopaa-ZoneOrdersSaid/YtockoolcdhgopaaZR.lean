/- The law's small. -/
import Derived.Test.YtockoolcdhgopaaZQ
import Derived.Test.YtockoolcdhgopaaZOpen
namespace Go.Proofs.Ytockoolcdhgopaa
open Go.ChangeShapes Go.WideShapes Go.ChangeAt Go.RowKit
open Zon
set_option linter.unusedVariables false
set_option maxRecDepth 100000
def smallB (x : Con) : Bool := (wrong1 x == 0) && decide (-1099511627776 ≤ x.c) && decide (x.c ≤ 1099511627776)
def smallL (L : List Con) : List Con := L.filter smallB
theorem filter_next {α : Type} {L : List α} {j : Nat} {x : α} (h : L[j]? = some x) (f : α → Bool) : (L.take (j + 1)).filter f = (L.take j).filter f ++ (if f x then [x] else []) := by
  rw [take_next L j x h, List.filter_append]
  congr 1
  simp only [List.filter_cons, List.filter_nil]
theorem filter_len {α : Type} (L : List α) (j : Nat) (f : α → Bool) : ((L.take j).filter f).length ≤ j := by
  have := List.length_filter_le f (L.take j)
  rw [List.length_take] at this
  omega
theorem cons_sub {w : World} {b o : Nat} {x : Con} (hb : b < w.heap.size) (h : ConIs w b o x) : ConsAt w (some ⟨b, o, none⟩) [x] := fun _ =>
  ⟨b, o, rfl, hb, fun k y hy => by
    cases k with
    | zero => simp at hy; subst hy; rw [Nat.zero_mul, Nat.add_zero]; exact h
    | succ k => simp at hy⟩
theorem wrongL_one (x : Con) : wrongL [x] = wrong1 x := by
  show (if wrong1 x = 0 then 0 else wrong1 x) = _
  split
  · rename_i h; exact h.symm
  · rfl
set_option maxHeartbeats 4000000 in
theorem small_any (w : World) (A : Option Addr) (n c : Nat) (L : List Con) (i : ConIn w A n c L) :
    Calls Try.prog 19 #[.slice A n c] w (Listed w (smallL L)) := by
  have I := Lib.hid i
  have hn := i.reach
  have hcap := i.cap
  clear i
  go_enter Try.func19, Try.ntmps19
  go_wp2_with fail
  go_loopw [4, 3] (fun i v wr => ∃ k : Nat, k ≤ n ∧ i = .int .i64 k ∧ OwnC 86 wr w.heap.size v ((L.take k).filter smallB) ∧ Below w.heap.size w wr) (fun i _ _ => (n - intOf i).toNat)
  case atStart => exact ⟨0, Nat.zero_le _, rfl, OwnC.nil _ _ _, Below.refl _ _⟩
  case round =>
    obtain ⟨k, hk, rfl, hO, hB⟩ := hrel
    by_cases hlt : k < n
    · have hlt' : (k : Int) < n := by omega
      have hk0 : (0 : Int) ≤ k := by omega
      obtain ⟨b, off, rfl, hbl, -⟩ := I.out.at_ (by have := I.out.len; omega)
      obtain ⟨x, hx, hbr, hxx⟩ := (I.out.at_.below hB).get (k := k) (by have := I.out.len; omega)
      have hk1 : ((k : Int) + 1) ≤ c := by omega
      have hck : ¬ c = k := by omega
      have HXX := Lib.hid hxx
      obtain ⟨x0, x1, x2⟩ := hxx
      have HFN := Lib.hid (filter_next hx smallB)
      have HSB := Lib.hid (show smallB x = ((wrong1 x == 0) && decide (-1099511627776 ≤ x.c) && decide (x.c ≤ 1099511627776)) from rfl)
      have HLL := Lib.hid (show ((L.take k).filter smallB).length + 1 ≤ 8000000000000 by have := filter_len L k smallB; omega)
      have HW := Lib.hid (refWrong_any wr (some ⟨b, off + k * 3, none⟩) 1 (c - k) [x] rfl (by omega) (cons_sub hbr HXX.out))
      have HWE := Lib.hid (wrongL_one x)
      have HO := Lib.hid hO
      have HB := Lib.hid hB
      obtain ⟨A3, m, c3, rfl, HM⟩ := hO.form'
      clear hO hB hx hbl hbr
      generalize (L.take k).filter smallB = T at *
      rw [HWE.out] at HW
      generalize wrong1 x = e1 at *
      obtain ⟨xi, xj, xc⟩ := x
      simp only at x0 x1 x2 HSB
      have HSZ := Lib.hid (fun o => Nat.le_trans HB.out.size (below_box wr o).size)
      cases h1 : (e1 == 0) <;> cases h2 : decide (-1099511627776 ≤ xc) <;> cases h3 : decide (xc ≤ 1099511627776)
      all_goals
        have HSC := Lib.hid (HSB.out.trans (by rw [h1, h2, h3]))
        rw [HSC.out] at HFN
        go_upto_region 6 with (go_at_call 29; refine HW.out.mono ?_; rintro e w' ⟨rfl, rfl⟩)
        first
          | (go_wp2_with (at_builtin; (refine append_con 23 86 Try.underlying23 rcon_info _ rfl (.tmp 34) (.tmp 39) rfl w.heap.size _ _ rfl (HO.out.up (below_box wr _)) _ 1 _ [_] rfl rfl (cons_one wr _ _ _ _) HLL.out (HSZ.out _) ?_; intro v' w' hown' hB'))
             go_roundw
             case rel => exact ⟨k + 1, by omega, by go_num, by rw [HFN.out]; exact hown', HB.out.trans (((below_box wr _).mono HB.out.size).trans hB')⟩
             case measure => simp [intOf]; omega)
          | (go_roundw
             case rel => exact ⟨k + 1, by omega, by go_num, by rw [HFN.out]; simpa using HO.out, HB.out⟩
             case measure => simp [intOf]; omega)
    · obtain rfl : k = n := by omega
      have hjn : decide ((k : Int) < k) = false := decide_eq_false (by omega)
      rw [List.take_of_length_le (by rw [I.out.len]; omega)] at hO
      have hO' : Owned 86 w (smallL L) (.returned u3) wr := ⟨_, rfl, hO, hB⟩
      have HO := Lib.hid hO'.listed
      clear hO hB hO'
      go_wp2_with fail
      go_ret
      exact HO.out
end Go.Proofs.Ytockoolcdhgopaa
