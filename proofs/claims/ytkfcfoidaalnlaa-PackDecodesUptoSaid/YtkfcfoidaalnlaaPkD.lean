/- Package pack: sections, and which of them are written. -/
import Derived.Test.YtkfcfoidaalnlaaPkC
namespace Go.Proofs.Ytkfcfoidaalnlaa.Pak
open Go.ChangeShapes Go.WideShapes Go.ChangeAt Go.RowKit
set_option linter.unusedVariables false
set_option linter.unusedSimpArgs false
set_option maxRecDepth 100000
/-- bytes in memory that a slice tells -/
structure Sl (w : World) (A : Option Addr) (n c : Nat) (L : List Int) : Prop where
  len : Hid (L.length = n)
  cap : n ≤ c
  byt : BytesAt w A L
  lt : ∀ b off, A = some ⟨b, off, none⟩ → b < w.heap.size
theorem Sl.up {w w' : World} {A : Option Addr} {n c : Nat} {L : List Int} (h : Sl w A n c L) (hb : Below w.heap.size w w') : Sl w' A n c L :=
  ⟨h.len, h.cap, h.byt.below hb, fun b off e => Nat.lt_of_lt_of_le (h.lt b off e) hb.size⟩
theorem own_full {w : World} {base : Nat} {v : Value} {L : List Int} (h : OwnB w base v L) : ∃ A n c, v = .slice A n c ∧ Sl w A n c L := by
  obtain ⟨A, c, hv, hA⟩ := h.form
  rcases h.2 with ⟨hv', hn⟩ | ⟨g, cap, cur, hv', hg, hh, hnc, hcm, hcs, hx⟩
  · rw [hv'] at hv
    injection hv with h1 h2 h3
    exact ⟨A, L.length, c, by rw [hv', ← h1, ← h3, hn], Lib.hid rfl, by omega, hA, fun b off e => by rw [← h1] at e; cases e⟩
  · rw [hv'] at hv
    injection hv with h1 h2 h3
    refine ⟨A, L.length, c, by rw [hv', ← h1, ← h3], Lib.hid rfl, by omega, hA, fun b off e => ?_⟩
    rw [← h1] at e
    injection e with e
    injection e with e1
    rcases Nat.lt_or_ge g w.heap.size with h4 | h4
    · omega
    · rw [Array.getElem?_eq_none h4] at hh; cases hh
structure Sc where
  kind : Int
  at_ : Int
  A : Option Addr
  n : Nat
  c : Nat
  L : List Int
def Sc.zero : Sc := ⟨0, 0, none, 0, 0, []⟩
def secF (s : Sc) : Nat → Value
  | 0 => .int .i64 s.kind
  | 1 => .int .i64 s.at_
  | _ => .slice s.A s.n s.c
theorem secF_one (s : Sc) : ∀ q, q < 3 → (secF s q).oneCell' = true := fun q hq => by
  rcases (show q = 0 ∨ q = 1 ∨ q = 2 by omega) with rfl | rfl | rfl <;> rfl
def empty (s : Sc) : Bool := decide ((s.n : Int) = 0)
theorem sizeSec : (Try.prog.info? 77).map (·.size) = some 3 := by kernel_rfl
theorem zeroSec : (Try.prog.info? 77).bind (fun i => i.zero.map Value.cells) = some (arr 3 (secF Sc.zero)) := by kernel_rfl
set_option maxHeartbeats 1000000 in
theorem empty_any (s : Sc) (w : World) : Calls Try.prog 40 #[.agg (arr 3 (secF s))] w (RetB w (.bool (empty s))) := by
  obtain ⟨kd, at_, A, n, c, L⟩ := s
  obtain ⟨T, hT⟩ : ∃ T, T = secF ⟨kd, at_, A, n, c, L⟩ := ⟨_, rfl⟩
  rw [← hT]
  have HTT := Lib.hid hT
  clear hT
  go_enter Try.func40, Try.ntmps40
  go_upto_region 1 with (refine wpList_box_seg rfl _ (.tmp 0) rfl 3 T rfl ?_; intro w1 h1 hB1 hs1)
  obtain ⟨gb, hgb⟩ : ∃ gb, gb = w.heap.size := ⟨_, rfl⟩
  rw [← hgb] at h1 ⊢
  have x2 : w1.cell? ⟨gb, 2, none⟩ = some (.slice A n c) := by rw [h1.cell 2 (by decide), HTT.out]; rfl
  have HB := Lib.hid hB1
  clear h1 hB1 hs1 hgb HTT
  unfold empty
  go_wp2_with fail
  go_ret
  exact ⟨by dsimp only; rfl, HB.out⟩
set_option maxHeartbeats 2000000 in
theorem index_sec (w : World) (A : Option Addr) (n c : Nat) (T : List (Sc)) (hL : T.length = n) (hn : n ≤ 1152921504606846976) (hA : RowsAt w A 3 secF T) (K : Nat) (p : Sc → Bool)
    (hen : ∀ (a : Array Value) (W : World), (callFunc K a).run Try.prog W = .ok (.enter K a) W)
    (hf : ∀ x W, Calls Try.prog K #[.agg (arr 3 (secF x))] W (RetB W (.bool (p x)))) :
    Calls Try.prog 54 #[.slice A n c, .func (.func K) #[] #[]] w (RetB w (.int .i64 (idxF p 0 T))) := by
  have HL := Lib.hid hL
  have HA := Lib.hid hA
  have HF := Lib.hid hf
  clear hL hA hf
  go_enter Try.func54, Try.ntmps54
  go_wp2_with fail
  go_loopw [5, 8, 9, 10, 11, 12, 13, 14, 15, 16, 18] (fun _ a8 _ _ _ _ _ _ _ _ _ wr => ∃ (j : Nat), a8 = .int .i64 j ∧ j ≤ n ∧ Hid (idxF p j (T.drop j) = idxF p 0 T) ∧ RowsAt wr A 3 secF T ∧ Below w.heap.size w wr) (fun _ a8 _ _ _ _ _ _ _ _ _ _ => (n - (intOf a8)).toNat)
  case atStart => exact ⟨0, rfl, Nat.zero_le _, Lib.hid rfl, HA.out, Below.refl _ _⟩
  case round =>
    obtain ⟨j, rfl, hj, HE, hT, hB⟩ := hrel
    have HT := Lib.hid hT
    have HB := Lib.hid hB
    clear hT hB HA
    by_cases hlt : j < n
    · have hlt' : (j : Int) < n := by omega
      obtain ⟨x, hx, hdr⟩ := drop_cons (l := T) (j := j) (by have := HL.out; omega)
      rw [hdr] at HE
      obtain ⟨b, off, rfl, hbl, hcell⟩ := HT.out (by have := HL.out; omega)
      have HX := Lib.hid (hcell j x hx)
      clear hdr hcell hx
      obtain ⟨X, hX⟩ : ∃ X, X = secF x := ⟨_, rfl⟩
      rw [← hX] at HX
      have HXX := Lib.hid hX
      clear hX
      go_wp2_with (refine wpList_load_cells rfl 77 _ rfl b (off + j * 3) rfl 3 X _ HX.out Try.underlying77 rfl sizeSec ?_)
      rw [HXX.out]
      refine (HF.out x wr).mono ?_
      rintro e w2 ⟨rfl, hB2⟩
      have HB2 := Lib.hid (HB.out.trans (hB2.mono HB.out.size))
      have HT2 := Lib.hid (HT.out.below hB2)
      have HE' := HE.out
      change (if p x = true then (j : Int) else idxF p (j + 1) (T.drop (j + 1))) = idxF p 0 T at HE'
      clear hB2 HX HB HT HE
      cases hp : p x
      · rw [hp, if_neg (by simp)] at HE'
        have HE2 := Lib.hid HE'
        clear HE' hp
        go_wp2_with fail
        go_roundw
        case rel => exact ⟨j + 1, by go_num, by omega, HE2, HT2.out, HB2.out⟩
        case measure => simp [intOf]; omega
      · rw [hp, if_pos rfl] at HE'
        have HE2 := Lib.hid HE'
        clear HE' hp
        go_wp2_with fail
        go_ret
        exact ⟨ret_i64 HE2.out, HB2.out⟩
    · obtain rfl : j = n := by omega
      have HE2 := Lib.hid (show -1 = idxF p 0 T by rw [← HE.out, List.drop_of_length_le (by have := HL.out; omega)]; rfl)
      clear hlt HE
      go_wp2_with fail
      go_ret
      exact ⟨ret_i64 HE2.out, HB.out⟩

end Go.Proofs.Ytkfcfoidaalnlaa.Pak
