/- The law's turned; the order of bounds makes no difference. -/
import Derived.Test.YtockoolcdhgopaaZRc
import Derived.Test.YtockoolcdhgopaaZLw
import Derived.Test.YtockoolcdhgopaaZI
namespace Go.Proofs.Ytockoolcdhgopaa
open Go.ChangeShapes Go.WideShapes Go.ChangeAt Go.RowKit
open Zon
set_option linter.unusedVariables false
set_option maxRecDepth 100000
theorem same_perm {L K : List Con} (hL : SmallR L) (hLK : ∀ x, x ∈ L ↔ x ∈ K) : sameZB (withZ (some topT) L) (withZ (some topT) K) = true := by
  have hK : SmallR K := fun x hx => hL x ((hLK x).mpr hx)
  rcases with_cl L hL with ⟨M, h1, h2⟩ | ⟨h1, r1⟩ <;> rcases with_cl K hK with ⟨N, g1, g2⟩ | ⟨g1, r2⟩
  · rw [h1, g1]; exact sameTB_true.mpr (h2.uniq g2 hL.small hL.right hLK)
  · exact absurd (r2.mono fun x hx => (hLK x).mpr hx) (h2.noRound hL.small hL.right)
  · exact absurd (r1.mono fun x hx => (hLK x).mp hx) (g2.noRound hK.small hK.right)
  · rw [h1, g1]; rfl
theorem same_close {L : List Con} (hL : SmallR L) : sameZB (withZ (some topT) L) (closeZ L) = true := by
  have h := close_cl L hL
  cases e1 : closeZ L with
  | none =>
    cases e2 : withZ (some topT) L with
    | none => rfl
    | some M => rw [e1, e2] at h; exact h.elim
  | some N =>
    cases e2 : withZ (some topT) L with
    | none => rw [e1, e2] at h; exact h.elim
    | some M => rw [e1, e2] at h; exact sameTB_true.mpr fun p q hp hq => (h p q hp hq).symm
theorem same_void {z o : Zn} (h : sameZB z o = true) : voidB z = voidB o := by
  cases z <;> cases o
  · rfl
  · cases h
  · cases h
  · rfl
theorem smallR_perm {L K : List Con} (h : SmallR L) (hs : ∀ x ∈ K, x ∈ L) : wrongL K = 0 := wrongL_all fun x hx => (h x (hs x hx)).1
set_option maxHeartbeats 4000000 in
theorem turned_any (w : World) (A : Option Addr) (n c : Nat) (L : List Con) (hL : L.length = n) (hn : n ≤ 6000000000000) (h : ConsAt w A L) :
    Calls Try.prog 20 #[.slice A n c] w (Listed w L.reverse) := by
  have HL := Lib.hid hL
  have HA := Lib.hid h
  clear hL h
  go_enter Try.func20, Try.ntmps20
  go_wp2_with fail
  go_loopw [4, 3] (fun i v wr => ∃ k : Nat, k ≤ n ∧ i = .int .i64 ((n : Int) - 1 - (k : Int)) ∧ OwnC 86 wr w.heap.size v (L.reverse.take k) ∧ Below w.heap.size w wr) (fun i _ _ => (intOf i + 1).toNat)
  case atStart => exact ⟨0, Nat.zero_le _, by go_num, OwnC.nil _ _ _, Below.refl _ _⟩
  case round =>
    obtain ⟨k, hk, rfl, hO, hB⟩ := hrel
    by_cases hlt : k < n
    · obtain ⟨j, hj⟩ : ∃ j : Nat, j + k + 1 = n := ⟨n - 1 - k, by omega⟩
      have hje : (n : Int) - 1 - (k : Int) = (j : Int) := by omega
      rw [hje]
      have hj0 : (0 : Int) ≤ j := by omega
      have hj1 : (j : Int) < n := by omega
      obtain ⟨b, off, rfl, hbl, -⟩ := HA.out (by have := HL.out; omega)
      obtain ⟨x, hx, -, x0, x1, x2⟩ := (HA.out.below hB).get (k := j) (by have := HL.out; omega)
      have HTK := Lib.hid (show L.reverse.take (k + 1) = L.reverse.take k ++ [x] from take_next L.reverse k x (by
        rw [List.getElem?_reverse (by have := HL.out; omega), show L.length - 1 - k = j by have := HL.out; omega]; exact hx))
      have HLEN := Lib.hid (show (L.reverse.take k).length + 1 ≤ 8000000000000 by rw [List.length_take, List.length_reverse]; have := HL.out; omega)
      have HO := Lib.hid hO
      have HB := Lib.hid hB
      have HN := Lib.hid (show (j : Int) - 1 = (n : Int) - 1 - ((k + 1 : Nat) : Int) by omega)
      have HKN := Lib.hid (show k + 1 ≤ n by omega)
      obtain ⟨A2, m, c2, rfl, HMM⟩ := hO.form'
      have HSZ := Lib.hid (fun o => Nat.le_trans HB.out.size (below_box wr o).size)
      obtain ⟨xi, hxi⟩ : ∃ v, v = x.i := ⟨_, rfl⟩
      obtain ⟨xj, hxj⟩ : ∃ v, v = x.j := ⟨_, rfl⟩
      obtain ⟨xc, hxc⟩ : ∃ v, v = x.c := ⟨_, rfl⟩
      have HXE := Lib.hid (show x = ⟨xi, xj, xc⟩ by rw [hxi, hxj, hxc])
      rw [← hxi] at x0
      rw [← hxj] at x1
      rw [← hxc] at x2
      clear hO hB hx hxi hxj hxc hj hje hbl
      generalize L.reverse.take k = R at *
      go_upto_region 5 with (fail)
      go_wp2_with (at_builtin; (refine append_con 23 86 Try.underlying23 rcon_info _ rfl (.tmp 12) (.tmp 17) rfl w.heap.size _ _ rfl (HO.out.up (below_box wr _)) _ 1 _ [_] rfl rfl (cons_one wr _ _ _ _) HLEN.out (HSZ.out _) ?_; intro v' w' hown' hB'))
      go_roundw
      case rel => exact ⟨k + 1, HKN.out, by rw [← HN.out], by rw [HTK.out, HXE.out]; exact hown', HB.out.trans (((below_box wr _).mono HB.out.size).trans hB')⟩
      case measure => first | (simp [intOf]; done) | (simp [intOf]; omega)
    · obtain rfl : k = n := by omega
      have hje : (k : Int) - 1 - (k : Int) = -1 := by omega
      rw [hje]
      rw [List.take_of_length_le (by rw [List.length_reverse]; have := HL.out; omega)] at hO
      have HO := Lib.hid hO
      have HB := Lib.hid hB
      clear hO hB hje
      go_wp2_with fail
      go_ret
      obtain ⟨A3, c3, e3, h3, h4, -⟩ := HO.out.consAt
      exact ⟨A3, _, c3, by rw [e3]; rfl, rfl, h3, h4, HB.out⟩
end Go.Proofs.Ytockoolcdhgopaa
