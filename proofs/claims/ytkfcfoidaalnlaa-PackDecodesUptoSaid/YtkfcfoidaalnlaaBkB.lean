/- The book: look. -/
import Derived.Test.YtkfcfoidaalnlaaBkA
namespace Go.Proofs.Ytkfcfoidaalnlaa.Bk
open Go.ChangeShapes Go.WideShapes Go.ChangeAt Go.RowKit
open Bits HM
set_option linter.unusedVariables false
set_option linter.unusedSimpArgs false

/-- the state behind draws and a look at the mark of what is bad -/
theorem Led.seen {Z : Nat → Prop} {W0 : World} {b0 G : Nat} {cnt tot : Int} {fv wv kv fr : Value} {F : List (Value × List Int)} {Ws : List Value} {K : List (Value × List Int)} {R : List Int} {w : World}
    (h : Led Z W0 b0 G cnt tot fv wv kv fr F Ws K R w) (q : Nat) : Led Z W0 b0 G cnt tot fv wv kv fr F Ws K R ((w.drewN q).setCell ⟨G, 6, none⟩ (.bool false)) := by
  have hI : StabI none (w.drewN q) ((w.drewN q).setCell ⟨G, 6, none⟩ (.bool false)) := StabI.setCell (h.blk.drewN q) (by decide) 6 _
  have hS : StabS none (w.drewN q) ((w.drewN q).setCell ⟨G, 6, none⟩ (.bool false)) := StabS.setCell (h.blk.drewN q) (by decide) 6 _
  have oi : ∀ {v L}, OwnB w b0 v L → OwnB ((w.drewN q).setCell ⟨G, 6, none⟩ (.bool false)) b0 v L := fun {v L} hv => OwnB.stab (w := w.drewN q) hv hI (by simp)
  have os : ∀ {v L}, OwnS w b0 v L → OwnS ((w.drewN q).setCell ⟨G, 6, none⟩ (.bool false)) b0 v L := fun {v L} hv => OwnS.stab (w := w.drewN q) hv hS (by simp)
  exact { h with
    below := (below_drewN h.below q).setCell h.gb _
    z := (h.z.to (w' := w.drewN q) (Nat.le_refl _) fun _ _ => rfl).setCell h.z.g 6 _
    blk := (h.blk.drewN q).set_ 6 (.bool false)
    f := os h.f, wn := os h.wn, k := os h.k, from_ := OwnI.stab (w := w.drewN q) h.from_ hI (by simp)
    fd := fun x hx => oi (h.fd x hx), wd := fun i hi => oi (h.wd i hi), kd := fun x hx => oi (h.kd x hx) }
theorem OwnS.cell {w : World} {base : Nat} {v : Value} {L : List Value} (h : OwnS w base v L) (hp : 0 < L.length) : ∃ g c, v = .slice (some ⟨g, 0, none⟩) L.length c ∧ L.length ≤ c ∧ base ≤ g ∧ g < w.heap.size ∧ ∀ i, i < L.length → w.cell? ⟨g, i, none⟩ = some (L[i]?.getD undef) := by
  rcases h.2 with ⟨rfl, hn⟩ | ⟨g, cap, cur, rfl, hg, hh, hnc, hcm, hcs, hx⟩
  · omega
  · have h2 : w.ownsRow base 22 1 (.slice (some ⟨g, 0, none⟩) L.length cap) L.length L := h
    refine ⟨g, cap, rfl, hnc, hg, ?_, fun i hi => ?_⟩
    · rcases Nat.lt_or_ge g w.heap.size with h1 | h1
      · exact h1
      · rw [Array.getElem?_eq_none h1] at hh; cases hh
    · rw [World.ownsRow.cellAt h2 i (by omega)]
      simp [List.getElem?_eq_getElem hi]
theorem OwnS.slice {w : World} {base : Nat} {v : Value} {L : List Value} (h : OwnS w base v L) : ∃ A c, v = .slice A L.length c := by
  rcases h.2 with ⟨rfl, hn⟩ | ⟨g, cap, cur, rfl, hg, hh, hnc, hcm, hcs, hx⟩
  · exact ⟨none, 0, by rw [hn]⟩
  · exact ⟨_, cap, rfl⟩

/-- the four cells of what lies untouched, in row j -/
def At (Z : Nat → Prop) (W0 : World) (b0 G : Nat) (fv wv : Value) (ga gb j nj : Nat) (Aj Bj : Option Addr) (cj dj : Nat) (L : List Int) (w : World) : Prop :=
  w.cell? ⟨G, 2, none⟩ = some fv ∧ w.cell? ⟨G, 3, none⟩ = some wv ∧ w.cell? ⟨G, 6, none⟩ = some (.bool false) ∧ w.cell? ⟨ga, j, none⟩ = some (.slice Aj nj cj) ∧ w.cell? ⟨gb, j, none⟩ = some (.slice Bj nj dj) ∧ BytesAt w Aj L ∧ BytesAt w Bj L ∧ w.frozen? ⟨G, 6, none⟩ = false

theorem Led.at {Z : Nat → Prop} {W0 : World} {b0 G : Nat} {cnt tot : Int} {fv wv kv fr : Value} {F : List (Value × List Int)} {Ws : List Value} {K : List (Value × List Int)} {R : List Int} {w : World}
    (h : Led Z W0 b0 G cnt tot fv wv kv fr F Ws K R w) (j : Nat) (hj : j < F.length) :
    ∃ ga gb cA cB nj Aj Bj cj dj L, fv = .slice (some ⟨ga, 0, none⟩) F.length cA ∧ wv = .slice (some ⟨gb, 0, none⟩) F.length cB ∧ F.length ≤ cA ∧ F.length ≤ cB ∧ L.length = nj ∧ nj ≤ 1048576 ∧
      ∀ cnt tot kv fr K R w', Led Z W0 b0 G cnt tot fv wv kv fr F Ws K R w' → At Z W0 b0 G fv wv ga gb j nj Aj Bj cj dj L w' := by
  have hl1 : (F.map (·.1)).length = F.length := List.length_map ..
  obtain ⟨ga, cA, hfv, hcA, -, -, -⟩ := h.f.cell (by omega)
  obtain ⟨gb, cB, hwv, hcB, -, -, -⟩ := h.wn.cell (by rw [h.wl]; omega)
  have hx : F[j]?.getD (undef, []) ∈ F := by simp [List.getElem?_eq_getElem hj]
  obtain ⟨Aj, cj, ha, -⟩ := (h.fd _ hx).form
  obtain ⟨Bj, dj, hb, -⟩ := (h.wd j hj).form
  refine ⟨ga, gb, cA, cB, _, Aj, Bj, cj, dj, (F[j]?.getD (undef, [])).2, by rw [hfv, hl1], by rw [hwv, h.wl], by omega, by rw [h.wl] at hcB; omega, rfl, h.lb.1 _ hx, ?_⟩
  intro cnt tot kv fr K R w' h'
  refine ⟨h'.blk.cell 2, h'.blk.cell 3, h'.blk.cell 6, ?_, ?_, ?_, ?_, h'.blk.frozen 6⟩
  · obtain ⟨g2, c2, e2, -, -, -, hc⟩ := h'.f.cell (by omega)
    rw [hfv] at e2
    injection e2 with e2 _ _
    injection e2 with e2
    injection e2 with e2 _ _
    subst e2
    rw [hc j (by omega)]
    rw [← ha]
    simp [List.getElem?_eq_getElem hj]
  · obtain ⟨g2, c2, e2, -, -, -, hc⟩ := h'.wn.cell (by rw [h.wl]; omega)
    rw [hwv] at e2
    injection e2 with e2 _ _
    injection e2 with e2
    injection e2 with e2 _ _
    subst e2
    rw [hc j (by rw [h.wl]; omega), hb]
  · exact ownB_bytes (ha ▸ h'.fd _ hx)
  · exact ownB_bytes (hb ▸ h'.wd j hj)

set_option maxRecDepth 100000 in
set_option maxHeartbeats 2000000 in
theorem look_any (Z : Nat → Prop) (W0 : World) (b0 G : Nat) (cnt tot : Int) (fv wv kv fr : Value) (F : List (Value × List Int)) (Ws : List Value) (K : List (Value × List Int)) (R : List Int) (w : World)
    (h : Led Z W0 b0 G cnt tot fv wv kv fr F Ws K R w) :
    Calls Try.prog 43 #[.pointer (some ⟨G, 0, none⟩)] w fun e w' => e = .returned (.tuple #[]) ∧ Led Z W0 b0 G cnt tot fv wv kv fr F Ws K R w' := by
  obtain ⟨A, cA, hfv⟩ := h.f.slice
  rw [List.length_map] at hfv
  have HL := Lib.hid h
  have hnb := h.nb.1
  generalize hN : F.length = N at *
  have HN := Lib.hid hN
  clear h hN
  subst hfv
  go_enter Try.func43, Try.ntmps43
  go_wp2_with fail
  go_loopw [2] (fun i wr => ∃ j : Nat, j ≤ N ∧ i = .int .i64 j ∧ Led Z W0 b0 G cnt tot (.slice A N cA) wv kv fr F Ws K R wr) (fun i _ => (N - intOf i).toNat)
  case atStart => exact ⟨0, Nat.zero_le _, rfl, HL.out⟩
  case round =>
    clear HL
    obtain ⟨j, hj, rfl, hL⟩ := hrel
    have c1 : wr.cell? ⟨G, 2, none⟩ = some (.slice A N cA) := hL.blk.cell 2
    by_cases hlt : j < N
    · have f1 : (j : Int) < N := by omega
      go_upto_region 3 with (fail)
      obtain ⟨ga, gb, cA', cB, nj, Aj, Bj, cj, dj, L, hfv, hwv, hcA, hcB, hll, hnj, hAt⟩ := hL.at j (by rw [HN.out]; exact hlt)
      rw [HN.out] at hfv hwv hcA hcB
      injection hfv with hA _ hcc
      subst hA hcc hwv
      have f0 : (0 : Int) ≤ (j : Int) := by omega
      have f2 : (j : Int).toNat = j := by omega
      have f3 : (j : Int) < (cA : Int) := by omega
      have f4 : (j : Int) < (cB : Int) := by omega
      have hsame := Lib.hid ((same_all wr.drew Aj nj cj Bj dj L hll (hAt _ _ _ _ _ _ wr hL).2.2.2.2.2.1 (hAt _ _ _ _ _ _ wr hL).2.2.2.2.2.2.1).mono fun e w' h => show e = .returned (.bool true) ∧ ∃ q, w' = wr.drewN q from ⟨h.1, 1, h.2.symm⟩)
      have hK := Lib.hid (fun q => hAt _ _ _ _ _ _ _ (hL.seen q))
      obtain ⟨d1, d2, d3, d4, d5, d6, d7, d8⟩ := hAt _ _ _ _ _ _ wr hL
      have HLL := Lib.hid hL
      have HAT := Lib.hid hAt
      clear hL hAt hll hnj c1 d6 d7 hcA hcB
      go_region_held3 (fun W => W.cell? ⟨G, 2, none⟩ = some (.slice (some ⟨ga, 0, none⟩) N cA) ∧ W.cell? ⟨G, 3, none⟩ = some (.slice (some ⟨gb, 0, none⟩) N cB) ∧ W.cell? ⟨G, 6, none⟩ = some (.bool false) ∧ W.cell? ⟨ga, j, none⟩ = some (.slice Aj nj cj) ∧ W.cell? ⟨gb, j, none⟩ = some (.slice Bj nj dj))
        (first | exact ⟨d1, d2, d3, d4, d5⟩ | exact ⟨(hK.out _).1, (hK.out _).2.1, (hK.out _).2.2.1, (hK.out _).2.2.2.1, (hK.out _).2.2.2.2.1⟩)
        (first | (go_at_call 14; with_reducible refine hsame.out.mono ?_; rintro e v1 ⟨rfl, q1, rfl⟩) | fail)
      clear hsame hK HAT d1 d2 d3 d4 d5 d8
      go_wp2_with fail
      go_roundw
      case rel => exact ⟨j + 1, by omega, rfl, HLL.out.seen q1⟩
      case measure => simp [intOf]; omega
    · have f1 : decide ((j : Int) < N) = false := by simp; omega
      have HLL := Lib.hid hL
      clear hL
      go_wp2_with fail
      go_end0
      exact ⟨rfl, HLL.out⟩
end Go.Proofs.Ytkfcfoidaalnlaa.Bk
