/- DeedCut: the deed's bytes, cut, changed at one place, lengthened. -/
import Derived.Test.YtbomihdnnidelaaDSh
namespace Go.Proofs.Ytbomihdnnidelaa
open Go.ChangeShapes Go.WideShapes Go.ChangeAt Go.RowKit
open Dee
set_option linter.unusedVariables false
set_option linter.unusedSimpArgs false
set_option maxRecDepth 100000
theorem OwnB.full {w : World} {base : Nat} {v : Value} {L : List Int} (h : OwnB w base v L) : ∃ A c, v = .slice A L.length c ∧ L.length ≤ c ∧ BytesAt w A L ∧ (∀ b off, A = some ⟨b, off, none⟩ → b < w.heap.size) := by
  obtain ⟨A, c, hv, hA⟩ := h.form
  rcases h.2 with ⟨hv', hn⟩ | ⟨g, cap, cur, hv', hg, hh, hnc, hcm, hcs, hx⟩
  · rw [hv'] at hv
    injection hv with h1 h2 h3
    exact ⟨A, c, by rw [hv', ← h1, ← h3, hn], by omega, hA, fun b off e => by rw [← h1] at e; cases e⟩
  · rw [hv'] at hv
    injection hv with h1 h2 h3
    refine ⟨A, c, by rw [hv', ← h1, ← h3], by omega, hA, fun b off e => ?_⟩
    rw [← h1] at e
    injection e with e
    injection e with e1
    rcases Nat.lt_or_ge g w.heap.size with h4 | h4
    · omega
    · rw [Array.getElem?_eq_none h4] at hh; cases hh
/-- one byte of an own row, written -/
theorem OwnB.put {w : World} {base : Nat} {v : Value} {L : List Int} (h : OwnB w base v L) (k : Nat) (hk : k < L.length) :
    ∃ g c, v = .slice (some ⟨g, 0, none⟩) L.length c ∧ base ≤ g ∧ L.length ≤ c ∧ g < w.heap.size ∧ w.cell? ⟨g, k, none⟩ = some (.int .u8 (L[k]?.getD 0)) ∧ w.frozen? ⟨g, k, none⟩ = false ∧
      ∀ y, BytesAt (w.setCell ⟨g, k, none⟩ (.int .u8 y)) (some ⟨g, 0, none⟩) (L.set k y) := by
  rcases h.2 with ⟨hv', hn⟩ | ⟨g, cap, cur, hv', hg, hh, hnc, hcm, hcs, hx⟩
  · omega
  · have hb : Blk w g 5 cur := hh
    have hcell : ∀ i, i < L.length → cur[i]? = some (.int .u8 (L[i]?.getD 0)) := fun i hi => by
      have h2 := congrArg (fun l => l[i]?) hx
      simp only [List.getElem?_take, Nat.mul_one, if_pos hi, List.getElem?_map] at h2
      rw [Array.getElem?_toList] at h2
      rw [h2, List.getElem?_eq_getElem hi]
      rfl
    refine ⟨g, cap, hv', hg, hnc, hb.lt, (hb.cell k).trans (hcell k hk), hb.frozen k, fun y hp => ⟨g, 0, rfl, ?_, fun i hi => ?_⟩⟩
    · exact (hb.set_ k _).lt
    · rw [Nat.zero_add, (hb.set_ k (.int .u8 y)).cell i]
      rw [List.length_set] at hi
      by_cases e : k = i
      · subst e
        rw [Array.getElem?_setIfInBounds_self_of_lt (by omega), List.getElem?_set_self hi]
        rfl
      · rw [Array.getElem?_setIfInBounds_ne e, List.getElem?_set_ne e]
        exact hcell i hi
theorem copyBytes_own (w : World) (A : Option Addr) (n c : Nat) (L : List Int) (hL : L.length = n) (hlen : n ≤ 140737488355328) (h : BytesAt w A L) :
    Calls Try.prog 24 #[.slice A n c] w fun e w' => ∃ v, e = .returned v ∧ OwnB w' w.heap.size v L ∧ Below w.heap.size w w' := by
  have hown := OwnB.nil w w.heap.size
  go_enter Try.func24, Try.ntmps24
  go_wp2_with (at_builtin; (refine append_bytes Try.underlying28 byte_info _ rfl (.const (.slice none 0 0)) (.tmp 3) rfl w.heap.size _ _ rfl hown _ n c _ rfl hL h (by simpa using hlen) (Nat.le_refl _) ?_; intro v' w' hown' hB'))
  obtain ⟨A', c', hv, hat⟩ := hown'.form
  have HO := Lib.hid hown'
  subst hv
  go_ret
  exact ⟨_, rfl, HO.out, hB'⟩
/-! the bytes of a good deed -/
theorem deW_six (d : De) : 6 ≤ (deW d).length := by
  have h1 : 0 < (num d.loops.length).length := List.length_pos_iff.2 (num_ne _)
  have h2 : 0 < (num d.claims.length).length := List.length_pos_iff.2 (num_ne _)
  have h3 : markL.length = 4 := rfl
  unfold deW
  rw [len_app, len_app, len_app, len_app]
  omega
theorem cut_dec {d : Md} (h : wrongMd d = 0) {k : Nat} (hk : k < (deW (toDe d)).length) (hl : (deW (toDe d)).length ≤ 4194304) : decD ((deW (toDe d)).take k) = .error (k, 110) := by
  have ht : ((deW (toDe d)).take k).length = k := by rw [List.length_take]; omega
  unfold decD
  rw [if_neg (by omega), end_cut _ (deed_good h).2 _ ((deW (toDe d)).drop k) (List.take_append_drop k _).symm (by
    intro e
    have := congrArg List.length e
    rw [List.length_drop] at this
    simp at this
    omega)]
  show Except.error (_ - 0, (110 : Int)) = _
  rw [ht]
  rfl
theorem more_dec {d : Md} (h : wrongMd d = 0) {m : List Int} (hm : m ≠ []) : decD (deW (toDe d) ++ m) = if 4194304 < (deW (toDe d)).length + m.length then .error (0, 2) else .error ((deW (toDe d)).length, 110) := by
  unfold decD
  rw [List.length_append]
  by_cases hl : 4194304 < (deW (toDe d)).length + m.length
  · rw [if_pos hl, if_pos hl]
  · rw [if_neg hl, if_neg hl, end_more _ (deed_good h).2 m hm]
    show Except.error (_ - _, (110 : Int)) = _
    rw [show (deW (toDe d)).length + m.length - m.length = (deW (toDe d)).length by omega]
theorem turned_dec {d : Md} {L : List Int} (hn : L ≠ deW (toDe d)) (hB : Bytes L) {u : De} (h : decD L = .ok u) : sameDb d (mdOf u) = false := by
  cases hs : sameDb d (mdOf u)
  · rfl
  · obtain ⟨h1, h2, _⟩ := decD_ok hB h
    have h3 := same_toDe (sameDb_iff.1 hs)
    rw [(mdOf_good h2).2] at h3
    exact absurd (by rw [h1, h3]) hn
theorem place_cut (a : Int) (m : Nat) (hm : 0 < m) : ∃ k : Nat, k < m ∧ (a.tmod m + m).tmod m = k := by
  have h1 : a.tmod m < m := Int.tmod_lt_of_pos a (by omega)
  have h2 : -(m : Int) < a.tmod m := Int.lt_tmod_of_pos a (by omega)
  have h3 : 0 ≤ (a.tmod m + m).tmod m := Int.tmod_nonneg _ (by omega)
  have h4 : (a.tmod m + m).tmod m < m := Int.tmod_lt_of_pos _ (by omega)
  exact ⟨((a.tmod m + m).tmod m).toNat, by omega, by omega⟩
theorem set_ne {L : List Int} {k : Nat} (hk : k < L.length) {y : Int} (h : y ≠ L[k]?.getD 0) : L.set k y ≠ L := fun e => h (by
  have := congrArg (fun l => l[k]?.getD 0) e
  simp only [List.getElem?_set_self hk] at this
  simpa using this)
theorem set_byt {L : List Int} (hB : Bytes L) {k : Nat} {y : Int} (h : IsB y) : Bytes (L.set k y) := fun x hx => by
  rcases List.mem_or_eq_of_mem_set hx with h1 | h1
  · exact hB x h1
  · rw [h1]; exact h
end Go.Proofs.Ytbomihdnnidelaa
