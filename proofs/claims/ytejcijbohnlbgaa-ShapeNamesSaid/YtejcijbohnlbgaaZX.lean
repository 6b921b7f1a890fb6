/- Contracts of package zone: renewable, free, Forget. -/
import Derived.Test.YtejcijbohnlbgaaZT
import Derived.Test.YtejcijbohnlbgaaZN
namespace Go.Proofs.Ytejcijbohnlbgaa
open Go.ChangeShapes Go.WideShapes Go.ChangeAt Go.RowKit
open Zon
set_option linter.unusedVariables false
set_option maxRecDepth 100000
theorem renewable_any (v : Int) (w : World) : Calls Try.prog 49 #[.int .i64 v] w fun e w' => e = .returned (.bool (renewB v)) ∧ w = w' := by
  by_cases h0 : v = 0
  · subst h0
    go_enter Try.func49, Try.ntmps49
    go_wp2_with fail
    go_ret
    exact ⟨rfl, rfl⟩
  · have t1 : (v != 0) = true := by rw [bne_iff_ne]; exact h0
    have t2 : (v == 0) = false := by rw [beq_eq_false_iff_ne]; exact h0
    have HE := Lib.hid (show renewB v = varB v by unfold renewB varB; congr 1; rw [decide_eq_decide]; omega)
    clear h0
    go_enter Try.func49, Try.ntmps49
    go_wp2_with (go_at_call 51; refine (variable_any _ _).mono ?_; rintro e w' ⟨rfl, rfl⟩)
    go_ret
    exact ⟨ret_bool HE.out.symm, rfl⟩
/-- the first k places of a row and of a column without a bound -/
def gapT (M : Tab) (v k : Nat) : Tab := fun p q => if (p = v ∧ q < k) ∨ (q = v ∧ p < k) then 3458764513820540928 else M p q
set_option maxHeartbeats 4000000 in
theorem free_any (w : World) (g v : Nat) (e : Bool) (M : Tab) (hz : ZB w g e M) (hv : v < 60) :
    Calls Try.prog 50 #[.pointer (some ⟨g, 1, none⟩), .int .i64 v] w fun en w' => en = .returned (.tuple #[]) ∧ ZB w' g e (freeT M v) ∧ Touch g w w' := by
  have HZ := Lib.hid hz
  have hv1 : (v : Int) < 60 := by omega
  have hv0 : (0 : Int) ≤ v := by omega
  clear hz
  go_enter Try.func50, Try.ntmps50
  go_wp2_with fail
  go_loopw [5] (fun i wr => ∃ k : Nat, k ≤ 60 ∧ i = .int .i64 k ∧ ZB wr g e (gapT M v k) ∧ Touch g w wr) (fun i _ => (60 - intOf i).toNat)
  case atStart => exact ⟨0, by omega, rfl, HZ.out.congr fun p q _ _ => by unfold gapT; rw [if_neg (by omega)], Touch.refl _ _⟩
  case round =>
    obtain ⟨k, hk, rfl, hB, hT⟩ := hrel
    by_cases hlt : k < 60
    · have hlt' : (k : Int) < 60 := by omega
      have hk0 : (0 : Int) ≤ k := by omega
      have HB := Lib.hid hB
      have HT := Lib.hid hT
      have x1 := hB.at_ v k hv hlt
      have x2 := hB.at_ k v hlt hv
      have f1 := hB.frozen (1 + v * 60 + k)
      have f2 := hB.frozen (1 + k * 60 + v)
      have hB1 := hB.set (N := fun a b => if a = v ∧ b = k then 3458764513820540928 else gapT M v k a b) v k 3458764513820540928 hv hlt (fun _ _ _ _ => rfl)
      have x3 := hB1.at_ k v hlt hv
      have f3 := hB1.frozen (1 + k * 60 + v)
      have HN := Lib.hid (hB1.set (N := gapT M v (k + 1)) k v 3458764513820540928 hlt hv fun a b ha hb => by
        unfold gapT
        by_cases h1 : a = k ∧ b = v
        · rw [if_pos h1, if_pos (by omega)]
        · rw [if_neg h1]
          by_cases h2 : a = v ∧ b = k
          · rw [if_pos h2, if_pos (by omega)]
          · rw [if_neg h2]
            by_cases h3 : (a = v ∧ b < k) ∨ (b = v ∧ a < k)
            · rw [if_pos h3, if_pos (by omega)]
            · rw [if_neg h3, if_neg (by omega)])
      have HTN := Lib.hid ((hT.trans (Touch.set_ wr (1 + v * 60 + k) (.int .i64 3458764513820540928))).trans (Touch.set_ _ (1 + k * 60 + v) (.int .i64 3458764513820540928)))
      clear hB hT hB1 HB HT
      go_upto_region 3 with (fail)
      go_region
      clear x1 x2 x3 f1 f2 f3
      go_wp2_with fail
      go_roundw
      case rel => exact ⟨k + 1, by omega, by go_num, FB.drewN HN.out 1, HTN.out.trans (Touch.drewN _ 1)⟩
      case measure => simp [intOf]; omega
    · obtain rfl : k = 60 := by omega
      have x1 := hB.at_ v v hv hv
      have f1 := hB.frozen (1 + v * 60 + v)
      have HB := Lib.hid (hB.set (N := freeT M v) v v 0 hv hv fun a b ha hb => by
        unfold gapT freeT
        by_cases h1 : a = v ∧ b = v
        · rw [if_pos h1, if_pos (by omega), if_pos h1.1]
        · rw [if_neg h1]
          by_cases h2 : (a = v ∧ b < 60) ∨ (b = v ∧ a < 60)
          · rw [if_pos h2, if_neg (by omega), if_pos (by omega)]
          · rw [if_neg h2]
            by_cases h3 : a = b
            · rw [if_pos h3, if_neg (by omega)]
            · rw [if_neg h3, if_neg (by omega)])
      have HT := Lib.hid (hT.trans (Touch.set_ wr (1 + v * 60 + v) (.int .i64 0)))
      clear hB hT
      go_wp2_with fail
      go_end0
      exact ⟨rfl, HB.out, HT.out⟩
theorem forgetT_snoc (M : Tab) (l : List Int) (v : Int) : forgetT M (l ++ [v]) = if renewB v then freeT (forgetT M l) v.toNat else forgetT M l := by
  unfold forgetT; rw [List.foldl_append]; rfl
theorem okT_forget {M : Tab} (h : OkT M) (l : List Int) : OkT (forgetT M l) := by
  unfold forgetT
  induction l generalizing M with
  | nil => exact h
  | cons v l ih =>
    rw [List.foldl_cons]
    refine ih ?_
    split
    · exact okT_free h _
    · exact h
theorem renewB_nat {v : Int} (h : renewB v = true) : ∃ n : Nat, v = n ∧ n < 60 ∧ 1 ≤ n := by
  unfold renewB at h
  simp only [Bool.and_eq_true, decide_eq_true_eq] at h
  exact ⟨v.toNat, by omega, by omega, by omega⟩
theorem NumsAt.below {w W : World} {A : Option Addr} {L : List Int} (h : NumsAt w A L) (hb : Below w.heap.size w W) : NumsAt W A L := fun hp => by
  obtain ⟨b, off, e, hl, hc⟩ := h hp
  exact ⟨b, off, e, Nat.lt_of_lt_of_le hl hb.size, fun i x hx => (hb.cell (p := ⟨b, off + i, none⟩) hl).trans (hc i x hx)⟩
theorem NumsAt.get {w W : World} {A : Option Addr} {L : List Int} {g : Nat} (h : NumsAt w A L) (hf : 0 < L.length → Far A g) (ht : Touch g w W) {k : Nat} (hk : k < L.length) : ∃ b off x, A = some ⟨b, off, none⟩ ∧ L[k]? = some x ∧ W.cell? ⟨b, off + k, none⟩ = some (.int .i64 x) := by
  obtain ⟨b, off, e, hl, hc⟩ := h (by omega)
  have hx : L[k]? = some L[k] := List.getElem?_eq_getElem hk
  exact ⟨b, off, L[k], e, hx, by rw [World.cell?_of_block (w := w) (ht.block b hl (hf (by omega) b off e))]; exact hc k _ hx⟩
set_option maxHeartbeats 2000000 in
theorem forgetClo_any (w : World) (g bx : Nat) (M : Tab) (A : Option Addr) (n c : Nat) (L : List Int) (hz : ZB w g false M) (hL : L.length = n) (hn : n ≤ 4000000000000000000) (h : NumsAt w A L) (hf : 0 < L.length → Far A g) (hbx : bx ≠ g) (hbl : bx < w.heap.size)
    (hx : w.cell? ⟨bx, 0, none⟩ = some (.slice A n c)) :
    Calls Try.prog 48 #[.pointer (some ⟨g, 1, none⟩), .pointer (some ⟨bx, 0, none⟩)] w (AddPost w g (some (forgetT M L))) := by
  have HZ := Lib.hid hz
  have HA := Lib.hid h
  have HL := Lib.hid hL
  have HF := Lib.hid hf
  clear hz h hL hf
  go_enter Try.func48, Try.ntmps48
  go_wp2_with fail
  clear hx
  go_loopw [8] (fun i wr => ∃ k : Nat, k ≤ n ∧ i = .int .i64 k ∧ Touch g w wr ∧ ZB wr g false (forgetT M (L.take k))) (fun i _ => (n - intOf i).toNat)
  case atStart => exact ⟨0, Nat.zero_le _, rfl, Touch.refl _ _, HZ.out⟩
  case round =>
    obtain ⟨k, hk, rfl, hT, hB⟩ := hrel
    by_cases hlt : k < n
    · have hlt' : (k : Int) < n := by omega
      have hk0 : (0 : Int) ≤ k := by omega
      obtain ⟨b, off, v, rfl, hx, hc⟩ := HA.out.get HF.out hT (k := k) (by have := HL.out; omega)
      have HE := Lib.hid (show forgetT M (L.take (k + 1)) = if renewB v then freeT (forgetT M (L.take k)) v.toNat else forgetT M (L.take k) by rw [take_next L k v hx, forgetT_snoc])
      have HB := Lib.hid hB
      have HT := Lib.hid hT
      clear hT hB hx
      generalize forgetT M (L.take k) = N at *
      cases hr : renewB v
      · rw [hr] at HE
        go_wp2_with (go_at_call 49; refine (renewable_any _ _).mono ?_; rintro e w' ⟨rfl, rfl⟩)
        go_roundw
        case rel => exact ⟨k + 1, by omega, by go_num, HT.out, by rw [HE.out]; exact HB.out⟩
        case measure => simp [intOf]; omega
      · obtain ⟨nv, rfl, hnv, -⟩ := renewB_nat hr
        rw [hr] at HE
        have HFR := Lib.hid (free_any wr g nv false N HB.out hnv)
        go_upto_region 5 with (go_at_call 49; refine (renewable_any _ _).mono ?_; rintro e w' ⟨rfl, rfl⟩)
        go_wp2_with fail
        go_at_call 50
        refine HFR.out.mono ?_
        rintro e w4 ⟨rfl, hB4, hT4⟩
        have HB4 := Lib.hid (show ZB w4 g false (forgetT M (L.take (k + 1))) by rw [HE.out]; exact hB4)
        have HT4 := Lib.hid (HT.out.trans hT4)
        clear hB4 hT4 HFR HB HT
        go_wp2_with fail
        go_roundw
        case rel => exact ⟨k + 1, by omega, by go_num, HT4.out, HB4.out⟩
        case measure => simp [intOf]; omega
    · obtain rfl : k = n := by omega
      have hjn : decide ((k : Int) < k) = false := decide_eq_false (by omega)
      rw [List.take_of_length_le (by rw [HL.out]; omega)] at hB
      have HB := Lib.hid hB
      have HT := Lib.hid hT
      clear hB hT
      go_wp2_with fail
      go_ret
      exact addPost_yes HT.out rfl HB.out
theorem Far.nums {w : World} {A : Option Addr} {L : List Int} {g : Nat} (h : NumsAt w A L) (hg : w.heap.size ≤ g) (hp : 0 < L.length) : Far A g := fun b off e => by
  obtain ⟨b', off', e', hl, _⟩ := h hp
  rw [e] at e'
  injection e' with e'
  injection e' with e1
  omega
set_option maxHeartbeats 1000000 in
theorem Forget_any (w : World) (g : Nat) (z : Zn) (A : Option Addr) (n c : Nat) (L : List Int) (hz : ZoneAt w g z) (hL : L.length = n) (hn : n ≤ 4000000000000000000) (h : NumsAt w A L) :
    Calls Try.prog 16 #[.pointer (some ⟨g, 0, none⟩), .slice A n c] w (Made w (forgetZ z L)) := by
  have HZ := Lib.hid hz
  have HL := Lib.hid hL
  have HA := Lib.hid h
  have HX := Lib.hid (show (w.alloc (.cells #[.slice A n c] 23)).cell? ⟨w.heap.size, 0, none⟩ = some (.slice A n c) by simp [go_sem])
  clear hz hL h
  go_enter Try.func16, Try.ntmps16
  go_wp2_with fail
  go_at_call 42
  refine (changed_any _ g 48 #[.pointer (some ⟨w.heap.size, 0, none⟩)] z (fun M => some (forgetT M L)) (fun _ _ => by kernel_rfl) (HZ.out.up (below_box w _)) (fun M N hM hN => ?_) (fun M W g' hM hW hg' hBW => ?_)).mono ?_
  · injection hN with e; subst e; exact okT_forget (HZ.out.ok M hM) L
  · have hA := (HA.out.below (below_box w _)).below hBW
    have hcell : W.cell? ⟨w.heap.size, 0, none⟩ = some (.slice A n c) := by
      rw [hBW.cell (p := ⟨w.heap.size, 0, none⟩) (by simp)]; exact HX.out
    refine forgetClo_any W g' w.heap.size M A n c L hW HL.out hn hA (Far.nums (HA.out.below (below_box w _)) hg') ?_ ?_ hcell
    · simp at hg'; omega
    · have := hBW.size; simp at this; omega
  rintro e w3 ⟨g', rfl, hg', hz', hB3⟩
  have HZ' := Lib.hid (show ZoneAt w3 g' (forgetZ z L) by cases z <;> exact hz')
  have HB3 := Lib.hid ((below_box w _).trans (hB3.mono (by simp)))
  have HG' := Lib.hid (show w.heap.size ≤ g' by simp at hg'; omega)
  clear hz' hB3 hg'
  go_wp2_with fail
  go_ret
  exact ⟨g', rfl, HG'.out, HZ'.out, HB3.out⟩
end Go.Proofs.Ytejcijbohnlbgaa
