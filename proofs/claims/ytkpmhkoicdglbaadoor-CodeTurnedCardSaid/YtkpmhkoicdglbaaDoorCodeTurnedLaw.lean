/- CodeTurned: its walk. -/
import Derived.Test.YtkpmhkoicdglbaaDoorCodeO
namespace Go.Proofs.YtkpmhkoicdglbaaDoor
open Go.ChangeShapes Go.WideShapes Go.ChangeAt Go.RowKit
open Cod Bits
set_option linter.unusedVariables false

/-- bytes that a call made, with their block -/
theorem ownB_block {w : World} {base : Nat} {v : Value} {L : List Int} (h : OwnB w base v L) (hp : 0 < L.length) : ∃ g c cur, v = .slice (some ⟨g, 0, none⟩) L.length c ∧ base ≤ g ∧ L.length ≤ c ∧ Blk w g 5 cur ∧ ∀ i, i < L.length → cur[i]? = some (.int .u8 (L[i]?.getD 0)) := by
  rcases h.2 with ⟨hv, hn⟩ | ⟨g, cap, cur, hv, hg, hh, hnc, hcm, hcs, hx⟩
  · omega
  · refine ⟨g, cap, cur, hv, hg, hnc, hh, fun i hi => ?_⟩
    have h2 : w.ownsRow base 5 1 (.slice (some ⟨g, 0, none⟩) L.length cap) L.length (L.map (Value.int .u8)) := hv ▸ h
    have h3 := World.ownsRow.cellAt h2 i (by omega)
    rw [cell_of_row w g i cur 5 (0, 0) hh] at h3
    rw [h3]
    simp [List.getElem?_eq_getElem hi]
theorem left_set {w : World} {g c k : Nat} {cur : Array Value} {L : List Int} (hb : BytesL L) (hc : L.length ≤ c) (h : Blk w g 5 cur) (hcur : ∀ i, i < L.length → cur[i]? = some (.int .u8 (L[i]?.getD 0))) (hk : k < L.length) (x : Int) (hx : IsB x) :
    Left (w.setCell ⟨g, k, none⟩ (.int .u8 x)) (w.setCell ⟨g, k, none⟩ (.int .u8 x)).heap.size (some ⟨g, 0, none⟩) L.length c (L.set k x) :=
  ⟨List.length_set, hb.set k hx, fun hp => ⟨hc, g, 0, rfl, (h.set_ k _).lt, fun i hi => by
    rw [List.length_set] at hi
    rw [Nat.zero_add, (h.set_ k (.int .u8 x)).cell i, Array.getElem?_setIfInBounds, List.getElem?_set]
    by_cases e : k = i
    · subst e
      have hks : k < cur.size := by
        have := hcur k hk
        rcases Nat.lt_or_ge k cur.size with h1 | h1
        · exact h1
        · rw [Array.getElem?_eq_none h1] at this; cases this
      rw [if_pos rfl, if_pos rfl, if_pos hks, if_pos hi]; rfl
    · rw [if_neg e, if_neg e]; exact hcur i hi⟩⟩
theorem set_ne {L : List Int} {k : Nat} {x : Int} (hk : k < L.length) (h : L[k]?.getD 0 ≠ x) : L.set k x ≠ L := fun e => by
  have := congrArg (fun l => l[k]?.getD 0) e
  simp only [List.getElem?_set, if_pos hk, if_true] at this
  exact h this.symm
set_option maxHeartbeats 4000000 in
theorem codeTurned_no (w : World) (A : Option Addr) (n c : Nat) (L : List Ins) (hL : L.length = n) (hn : n ≤ 140737488355328) (h : CodeAt w A L) (at_ y : Int) (ht : Tabs w) (h0 : (checkL L 0).2 ≠ 0) :
    Calls Tryd.prog 9 #[.slice A n c, .int .i64 at_, .int .u8 y] w fun e w' => e = .returned (.bool true) ∧ Below w.heap.size w w' := by
  have HK := Lib.hid (known_any w ht)
  have HE := Lib.hid (fun w1 (hB : Below w.heap.size w w1) => encode_no w1 A n c L hL hn (h.below hB) h0)
  have t0 : ((checkL L 0).2 != 0) = true := by rw [bne_iff_ne]; exact h0
  generalize (checkL L 0).1 = x1 at *
  generalize (checkL L 0).2 = x2 at *
  clear h ht h0
  go_enter Tryd.func9, Tryd.ntmps9
  go_wp2_with fail
  refine HK.out.mono ?_
  rintro e w1 ⟨rfl, hB1⟩
  have HE1 := Lib.hid (HE.out w1 hB1)
  have HB1 := Lib.hid hB1
  clear HE HK hB1
  go_wp2_with fail
  go_at_call 11
  refine HE1.out.mono ?_
  rintro e w2 ⟨rfl, hB2⟩
  have HB2 := Lib.hid (HB1.out.trans (hB2.mono HB1.out.size))
  clear hB2 HB1 HE1
  go_wp2_with fail
  go_ret
  exact ⟨rfl, HB2.out⟩
set_option maxHeartbeats 4000000 in
theorem codeTurned_idle (w : World) (A : Option Addr) (n c : Nat) (L : List Ins) (hL : L.length = n) (hn : n ≤ 140737488355328) (h : CodeAt w A L) (at_ y : Int) (ht : Tabs w) (h0 : (checkL L 0).2 = 0) (hny : n = 0 ∨ y = 0) :
    Calls Tryd.prog 9 #[.slice A n c, .int .i64 at_, .int .u8 y] w fun e w' => e = .returned (.bool true) ∧ Below w.heap.size w w' := by
  have HK := Lib.hid (known_any w ht)
  have HE := Lib.hid (fun w1 (hB : Below w.heap.size w w1) => encode_ok w1 A n c L hL hn (h.below hB) (ht.below hB) h0)
  have h1 := encB_len L
  have h2 := unitsN_le L
  have h3 := encB_length L
  have hm : ((encB L).length = 0 ∧ n = 0) ∨ (0 < (encB L).length ∧ 0 < n ∧ y = 0) := by omega
  generalize hE : encB L = E at *
  have arms : (((E.length : Int) == 0) = true ∧ ((n : Int) == 0) = true) ∨ (((E.length : Int) == 0) = false ∧ ((n : Int) == 0) = false ∧ y = 0) := by
    rcases hm with ⟨a, b⟩ | ⟨a, b, d⟩
    · exact .inl ⟨by simp [a], by simp [b]⟩
    · exact .inr ⟨by rw [beq_eq_false_iff_ne]; omega, by rw [beq_eq_false_iff_ne]; omega, d⟩
  clear h ht h0 h1 h2 h3 hm hE hny
  rcases arms with ⟨a1, a2⟩ | ⟨a1, a2, rfl⟩
  all_goals
    go_enter Tryd.func9, Tryd.ntmps9
    go_wp2_with fail
    refine HK.out.mono ?_
    rintro e w1 ⟨rfl, hB1⟩
    have HE1 := Lib.hid (HE.out w1 hB1)
    have HB1 := Lib.hid hB1
    clear HE HK hB1
    go_wp2_with fail
    go_at_call 11
    refine HE1.out.mono ?_
    rintro e w2 ⟨v, rfl, hown, hB2⟩
    obtain ⟨A2, c2, rfl, -⟩ := hown.form
    have HB2 := Lib.hid (HB1.out.trans (hB2.mono HB1.out.size))
    clear hB2 HB1 HE1 hown
    generalize E.length = m at *
    go_wp2_with fail
    go_ret
    exact ⟨rfl, HB2.out⟩
/-- the place: a number modulo the length, never below 0 -/
theorem place_of (a : Int) (m : Nat) (hm : 0 < m) : ∃ k : Nat, k < m ∧ ((0 ≤ a.tmod m ∧ a.tmod m = k) ∨ (a.tmod m < 0 ∧ a.tmod m + m = k)) := by
  have h1 : a.tmod m < m := Int.tmod_lt_of_pos a (by omega)
  have h2 : -(m : Int) < a.tmod m := Int.lt_tmod_of_pos a (by omega)
  by_cases h : 0 ≤ a.tmod m
  · exact ⟨(a.tmod m).toNat, by omega, .inl ⟨h, by omega⟩⟩
  · exact ⟨(a.tmod m + m).toNat, by omega, .inr ⟨by omega, by omega⟩⟩
set_option maxHeartbeats 4000000 in
theorem codeTurned_main (w : World) (A : Option Addr) (n c : Nat) (L : List Ins) (hL : L.length = n) (hn : n ≤ 140737488355328) (h : CodeAt w A L) (hr : ∀ i ∈ L, i.rng) (at_ y : Int) (hat : -9223372036854775808 ≤ at_ ∧ at_ ≤ 9223372036854775807) (hy : 0 < y ∧ y < 256) (ht : Tabs w) (h0 : (checkL L 0).2 = 0) (hn0 : 0 < n) :
    Calls Tryd.prog 9 #[.slice A n c, .int .i64 at_, .int .u8 y] w fun e w' => e = .returned (.bool true) ∧ Below w.heap.size w w' := by
  have hg := good_all h0 hr
  have hn4 : n ≤ 4096 := by have := (check_ok L 0 h0).2.1 (by omega); omega
  have HK := Lib.hid (known_any w ht)
  have HE := Lib.hid (fun w1 (hB : Below w.heap.size w w1) => encode_ok w1 A n c L hL hn (h.below hB) (ht.below hB) h0)
  have h1 := encB_len L
  have h2 := unitsN_le L
  have h3 := encB_length L
  have hm0 : 0 < (encB L).length := by omega
  have hm1 : (encB L).length ≤ 65536 := by omega
  have hBL := encB_bytes L hg
  obtain ⟨k, hk, hka⟩ := place_of at_ (encB L).length hm0
  generalize hx : (encB L)[k]?.getD 0 = x
  have hxB : IsB x := by
    rw [← hx, List.getElem?_eq_getElem hk]
    exact hBL _ (List.getElem_mem hk)
  have hx' : IsB ((x + y) % 256) := by unfold IsB; omega
  have hne : (encB L).set k ((x + y) % 256) ≠ encB L := set_ne hk (by rw [hx]; unfold IsB at hxB; omega)
  have HDT := Lib.hid (fun hf => D_turned hg (by omega) hk hx' hf)
  have HDN := Lib.hid (D_norm ((encB L).set k ((x + y) % 256)) 0 0)
  have HDF := Lib.hid (fun hf => D_forth (hBL.set k hx') hf)
  have HS := Lib.hid (fun w1 (hB : Below w.heap.size w w1) A2 c2 M hM => same_both w1 A n c A2 M.length c2 L M hL rfl (by omega) (h.below hB) hM)
  have HT := Lib.hid ht
  have HNE := Lib.hid hne
  have t0 : (((encB L).length : Int) == 0) = false := by rw [beq_eq_false_iff_ne]; omega
  have t1 : (y == 0) = false := by rw [beq_eq_false_iff_ne]; omega
  have HX := Lib.hid (show IsB ((x + y) % 256) ∧ BytesL (encB L) ∧ k < (encB L).length from ⟨hx', hBL, hk⟩)
  have HXX := Lib.hid hx
  clear h hr ht h0 hg h1 h2 h3 hx' hne hxB hBL hx
  generalize hE : encB L = E at *
  have HEQ := Lib.hid hE
  clear hE
  generalize hml : E.length = m at *
  have HML := Lib.hid hml
  clear hml
  go_enter Tryd.func9, Tryd.ntmps9
  go_wp2_with fail
  refine HK.out.mono ?_
  rintro e w1 ⟨rfl, hB1⟩
  have HE1 := Lib.hid (HE.out w1 hB1)
  have HB1 := Lib.hid hB1
  clear HE HK hB1
  go_wp2_with fail
  go_at_call 11
  refine HE1.out.mono ?_
  rintro e w2 ⟨v, rfl, hown, hB2⟩
  obtain ⟨g, c2, cur, rfl, hgb, hmc, hblk, hcur⟩ := ownB_block hown (by rw [HML.out]; omega)
  rw [HML.out] at hmc hcur ⊢
  have hcell : w2.cell? ⟨g, k, none⟩ = some (.int .u8 x) := by rw [hblk.cell k, hcur k hk, HXX.out]
  have hfr := hblk.frozen k
  have hb2 := HB1.out.trans (hB2.mono HB1.out.size)
  have hls := left_set HX.out.2.1 (by rw [HML.out]; exact hmc) hblk (by rw [HML.out]; exact hcur) (by rw [HML.out]; exact HX.out.2.2) ((x + y) % 256) HX.out.1
  rw [HML.out] at hls
  have hbs := hb2.setCell (p := ⟨g, k, none⟩) (by show w.heap.size ≤ g; exact Nat.le_trans HB1.out.size hgb) (.int .u8 ((x + y) % 256))
  have hde := decode_any _ (some ⟨g, 0, none⟩) m c2 (E.set k ((x + y) % 256)) hls (by omega) (HT.out.below hbs)
  have hgl := hblk.lt
  have HBS := Lib.hid hbs
  have hkm : (k : Int) < m := by omega
  unfold Decoded at hde
  clear hown hB2 HB1 HE1 hblk hcur hb2 hls hbs
  by_cases hf : (D (E.set k ((x + y) % 256)) 0 0).1 = 0
  · obtain ⟨-, -, f3, f4⟩ := HDF.out hf
    rw [hf, f4] at hde
    generalize (D (E.set k ((x + y) % 256)) 0 0).2.2 = M at *
    have hLM : decide (L = M) = false := decide_eq_false (fun e => HNE.out (by rw [← f3, ← e]; exact HEQ.out))
    have HLM := Lib.hid hLM
    have HDE := Lib.hid hde
    clear hde hf f3 f4 hLM HDT HDN HDF HNE HEQ HT HX HXX
    rcases hka with ⟨p1, p2⟩ | ⟨p1, p2⟩
    · have t2 : decide (at_.tmod m < 0) = false := decide_eq_false (by omega)
      go_wp2_with fail
      go_at_call 13
      refine HDE.out.mono ?_
      rintro e w4 ⟨v4, rfl, hown4, hB4⟩
      obtain ⟨A4, c4, rfl, hca⟩ := hown4.codeAt
      have hb4 := HBS.out.trans (hB4.mono HBS.out.size)
      have HS1 := Lib.hid (HS.out w4 hb4 A4 c4 M hca)
      rw [HLM.out] at HS1
      have HB4 := Lib.hid hb4
      clear hown4 hB4 hca hb4 HBS HDE HS
      go_wp2_with fail
      go_at_call 15
      refine HS1.out.mono ?_
      rintro e w5 ⟨rfl, hB5⟩
      have HB5 := Lib.hid (HB4.out.trans (hB5.mono HB4.out.size))
      clear hB5 HB4 HS1
      go_wp2_with fail
      go_ret
      exact ⟨rfl, HB5.out⟩
    · have t2 : decide (at_.tmod m < 0) = true := decide_eq_true (by omega)
      go_wp2_with fail
      go_at_call 13
      refine HDE.out.mono ?_
      rintro e w4 ⟨v4, rfl, hown4, hB4⟩
      obtain ⟨A4, c4, rfl, hca⟩ := hown4.codeAt
      have hb4 := HBS.out.trans (hB4.mono HBS.out.size)
      have HS1 := Lib.hid (HS.out w4 hb4 A4 c4 M hca)
      rw [HLM.out] at HS1
      have HB4 := Lib.hid hb4
      clear hown4 hB4 hca hb4 HBS HDE HS
      go_wp2_with fail
      go_at_call 15
      refine HS1.out.mono ?_
      rintro e w5 ⟨rfl, hB5⟩
      have HB5 := Lib.hid (HB4.out.trans (hB5.mono HB4.out.size))
      clear hB5 HB4 HS1
      go_wp2_with fail
      go_ret
      exact ⟨rfl, HB5.out⟩
  · have f1 := HDT.out hf
    have f2 := HDN.out.2 hf
    rw [f2] at hde
    generalize hr : D (E.set k ((x + y) % 256)) 0 0 = r at *
    obtain ⟨er, u, M⟩ := r
    simp only at hde hf f1 f2
    have HDE := Lib.hid hde
    have t4 : (er != 0) = true := by rw [bne_iff_ne]; exact hf
    have t5 : (0 : Int) ≤ (u : Int) := by omega
    have t6 : decide ((u : Int) ≤ (k : Int) / 8 + 1) = true := decide_eq_true (by omega)
    clear hde hf f1 f2 hr HDT HDN HDF HNE HEQ HT HX HXX HS
    rcases hka with ⟨p1, p2⟩ | ⟨p1, p2⟩
    · have t2 : decide (at_.tmod m < 0) = false := decide_eq_false (by omega)
      go_wp2_with fail
      go_at_call 13
      refine HDE.out.mono ?_
      rintro e w4 ⟨v4, rfl, hown4, hB4⟩
      obtain ⟨A4, c4, rfl, -⟩ := hown4.codeAt
      have HB4 := Lib.hid (HBS.out.trans (hB4.mono HBS.out.size))
      clear hown4 hB4 HBS HDE
      go_wp2_with fail
      go_ret
      exact ⟨rfl, HB4.out⟩
    · have t2 : decide (at_.tmod m < 0) = true := decide_eq_true (by omega)
      go_wp2_with fail
      go_at_call 13
      refine HDE.out.mono ?_
      rintro e w4 ⟨v4, rfl, hown4, hB4⟩
      obtain ⟨A4, c4, rfl, -⟩ := hown4.codeAt
      have HB4 := Lib.hid (HBS.out.trans (hB4.mono HBS.out.size))
      clear hown4 hB4 HBS HDE
      go_wp2_with fail
      go_ret
      exact ⟨rfl, HB4.out⟩
theorem codeTurned_walk (w : World) (A : Option Addr) (n c : Nat) (L : List Ins) (hL : L.length = n) (hn : n ≤ 140737488355328) (h : CodeAt w A L) (hr : ∀ i ∈ L, i.rng) (at_ : Int) (hat : -9223372036854775808 ≤ at_ ∧ at_ ≤ 9223372036854775807) (y : Int) (hy : 0 ≤ y ∧ y ≤ 255) (ht : Tabs w) :
    Calls Tryd.prog 9 #[.slice A n c, .int .i64 at_, .int .u8 y] w fun e w' => e = .returned (.bool true) ∧ Below w.heap.size w w' := by
  by_cases h0 : (checkL L 0).2 = 0
  · by_cases h1 : n = 0 ∨ y = 0
    · exact codeTurned_idle w A n c L hL hn h at_ y ht h0 h1
    · exact codeTurned_main w A n c L hL hn h hr at_ y hat (by omega) ht h0 (by omega)
  · exact codeTurned_no w A n c L hL hn h at_ y ht h0
end Go.Proofs.YtkpmhkoicdglbaaDoor
