/- The book: Holds. -/
import Derived.Test.YtkfcfoidaalnlaaBkB
namespace Go.Proofs.Ytkfcfoidaalnlaa.Bk
open Go.ChangeShapes Go.WideShapes Go.ChangeAt Go.RowKit
open Bits HM
set_option linter.unusedVariables false
set_option linter.unusedSimpArgs false

/-- the cells of what is kept, in row i -/
def AtK (G : Nat) (kv fr : Value) (gk gr i n : Nat) (Ai : Option Addr) (ci : Nat) (r : Int) (w : World) : Prop :=
  w.cell? ⟨G, 4, none⟩ = some kv ∧ w.cell? ⟨G, 5, none⟩ = some fr ∧ w.cell? ⟨G, 6, none⟩ = some (.bool false) ∧ w.frozen? ⟨G, 6, none⟩ = false ∧ w.cell? ⟨gk, i, none⟩ = some (.slice Ai n ci) ∧ w.cell? ⟨gr, i, none⟩ = some (.int .i64 r) ∧
  ∀ j, j < n → ∃ b off, Ai = some ⟨b, off, none⟩ ∧ w.cell? ⟨b, off + j, none⟩ = some (.int .u8 (markB r j))

theorem Led.row {Z : Nat → Prop} {W0 : World} {b0 G : Nat} {cnt tot : Int} {fv wv kv fr : Value} {F : List (Value × List Int)} {Ws : List Value} {K : List (Value × List Int)} {R : List Int} {w : World}
    (h : Led Z W0 b0 G cnt tot fv wv kv fr F Ws K R w) (i : Nat) (hi : i < K.length) :
    ∃ gk gr ck cr n Ai ci r, kv = .slice (some ⟨gk, 0, none⟩) K.length ck ∧ K.length ≤ ck ∧ fr = .slice (some ⟨gr, 0, none⟩) K.length cr ∧ K.length ≤ cr ∧ n ≤ ci ∧ n ≤ 2097152 ∧ 0 ≤ r ∧ r ≤ 1048576 ∧
      ∀ w', Led Z W0 b0 G cnt tot fv wv kv fr F Ws K R w' → AtK G kv fr gk gr i n Ai ci r w' := by
  have hl1 : (K.map (·.1)).length = K.length := List.length_map ..
  obtain ⟨gk, ck, hkv, hck, -, -, -⟩ := h.k.cell (by omega)
  have hx : K[i]?.getD (undef, []) ∈ K := by simp [List.getElem?_eq_getElem hi]
  have hmk := h.km i hi
  have hlb := h.lb.2 _ hx
  have hrb := h.rb i (by rw [h.kl]; exact hi)
  obtain ⟨Ar, cr, hr, hri⟩ := h.from_.form
  obtain ⟨gr, crr, hfr, hcr⟩ : ∃ gr crr, fr = .slice (some ⟨gr, 0, none⟩) R.length crr ∧ R.length ≤ crr := by
    rcases h.from_.2 with ⟨_, hn⟩ | ⟨g, cap, cur, hv, hg, hh, hnc, hcm, hcs, hx⟩
    · have := h.kl; omega
    · exact ⟨g, cap, hv, hnc⟩
  have hform : ∃ Ai ci, (K[i]?.getD (undef, [])).1 = .slice Ai (K[i]?.getD (undef, [])).2.length ci ∧ (K[i]?.getD (undef, [])).2.length ≤ ci := by
    rcases (h.kd _ hx).2 with ⟨hv, hn⟩ | ⟨g, cap, cur, hv, hg, hh, hnc, hcm, hcs, hx⟩
    · exact ⟨none, 0, by rw [hv, hn], by omega⟩
    · exact ⟨_, cap, hv, hnc⟩
  obtain ⟨Ai, ci, ha, hci⟩ := hform
  have hkl := h.kl
  refine ⟨gk, gr, ck, crr, _, Ai, ci, R[i]?.getD 0, by rw [hkv, hl1], by omega, by rw [hfr, hkl], by omega, hci, hlb, hrb.1, hrb.2, ?_⟩
  intro w' h'
  refine ⟨h'.blk.cell 4, h'.blk.cell 5, h'.blk.cell 6, h'.blk.frozen 6, ?_, ?_, ?_⟩
  · obtain ⟨g2, c2, e2, -, -, -, hc⟩ := h'.k.cell (by omega)
    rw [hkv] at e2
    injection e2 with e2 _ _
    injection e2 with e2
    injection e2 with e2 _ _
    subst e2
    rw [hc i (by omega), ← ha]
    simp [List.getElem?_eq_getElem hi]
  · have hI : IntsAt w' (some ⟨gr, 0, none⟩) R := ownI_ints (hfr ▸ h'.from_)
    obtain ⟨b, off, e, -, hc⟩ := hI (by omega)
    injection e with e
    injection e with e1 e2 _
    subst e1 e2
    have := hc i (by omega)
    rw [Nat.zero_add] at this
    exact this
  · intro j hj
    have hI : BytesAt w' Ai (K[i]?.getD (undef, [])).2 := ownB_bytes (ha ▸ h'.kd _ hx)
    obtain ⟨b, off, e, -, hc⟩ := hI (by omega)
    refine ⟨b, off, e, ?_⟩
    rw [hc j hj, hmk, marksB_get _ _ _ hj]

set_option maxRecDepth 100000 in
set_option maxHeartbeats 4000000 in
theorem Holds_any (Z : Nat → Prop) (W0 : World) (b0 G : Nat) (cnt tot : Int) (fv wv kv fr : Value) (F : List (Value × List Int)) (Ws : List Value) (K : List (Value × List Int)) (R : List Int) (w : World)
    (h : Led Z W0 b0 G cnt tot fv wv kv fr F Ws K R w) :
    Calls Try.prog 31 #[.pointer (some ⟨G, 0, none⟩)] w fun e w' => e = .returned (.bool true) ∧ Led Z W0 b0 G cnt tot fv wv kv fr F Ws K R w' := by
  obtain ⟨A, cA, hkv⟩ := h.k.slice
  rw [List.length_map] at hkv
  have HL := Lib.hid h
  have hnb := h.nb.2
  have hlook := Lib.hid (look_any Z W0 b0 G cnt tot fv wv kv fr F Ws K R w h)
  generalize hN : K.length = N at *
  have HN := Lib.hid hN
  clear h hN HL
  subst hkv
  go_enter Try.func31, Try.ntmps31
  go_wp2_with fail
  go_at_call 43
  refine hlook.out.mono ?_
  rintro e w1 ⟨rfl, hL1⟩
  have HL := Lib.hid hL1
  clear hL1 hlook
  go_wp2_with fail
  go_loopw [3] (fun i wr => ∃ j : Nat, j ≤ N ∧ i = .int .i64 j ∧ Led Z W0 b0 G cnt tot fv wv (.slice A N cA) fr F Ws K R wr) (fun i _ => (N - intOf i).toNat)
  case atStart => exact ⟨0, Nat.zero_le _, rfl, HL.out⟩
  case round =>
    clear HL
    obtain ⟨i, hi, rfl, hL⟩ := hrel
    have c1 : wr.cell? ⟨G, 4, none⟩ = some (.slice A N cA) := hL.blk.cell 4
    by_cases hlt : i < N
    · have f1 : (i : Int) < N := by omega
      obtain ⟨gk, gr, ck, cr, n, Ai, ci, r, hkv, hck, hfr, hcr, hn, hn2, hr0, hr1, hAt⟩ := hL.row i (by rw [HN.out]; exact hlt)
      rw [HN.out] at hkv hck hfr hcr
      injection hkv with hA _ hcc
      subst hA hcc hfr
      have HLL := Lib.hid hL
      have HAT := Lib.hid hAt
      clear hL hAt
      go_wp2_with fail
      go_loopw [4] (fun y wx => ∃ j : Nat, j ≤ n ∧ y = .int .i64 j ∧ Led Z W0 b0 G cnt tot fv wv (.slice (some ⟨gk, 0, none⟩) N cA) (.slice (some ⟨gr, 0, none⟩) N cr) F Ws K R wx) (fun y _ => (n - intOf y).toNat)
      case atStart => exact ⟨0, Nat.zero_le _, rfl, HLL.out⟩
      case round =>
        clear HLL
        obtain ⟨j, hj, rfl, hL⟩ := hrel
        obtain ⟨d3, d4, d5, d6, d7, d8, d9⟩ := HAT.out _ hL
        have HLL := Lib.hid hL
        have f0 : (0 : Int) ≤ (i : Int) := by omega
        have f2 : (i : Int).toNat = i := by omega
        have f3 : (i : Int) < (cA : Int) := by omega
        have f4 : (i : Int) < (cr : Int) := by omega
        clear hL
        by_cases hjn : j < n
        · have g1 : (j : Int) < n := by omega
          obtain ⟨b, off, rfl, d10⟩ := d9 j hjn
          have g0 : (0 : Int) ≤ (j : Int) := by omega
          have g2 : (j : Int).toNat = j := by omega
          have g3 : (j : Int) < (ci : Int) := by omega
          have hwn := Lib.hid (fun W => ownFn_any r j (by omega) (by omega) W)
          clear d9 hr0 hr1 hn hcr hck
          go_upto_region 8 with (fail)
          have hK := Lib.hid (show ∀ q W, W = (wr.drewN q).setCell ⟨G, 6, none⟩ (.bool false) → W.cell? ⟨G, 4, none⟩ = some (.slice (some ⟨gk, 0, none⟩) N cA) ∧ W.cell? ⟨G, 5, none⟩ = some (.slice (some ⟨gr, 0, none⟩) N cr) ∧ W.cell? ⟨G, 6, none⟩ = some (.bool false) ∧ W.cell? ⟨gk, i, none⟩ = some (.slice (some ⟨b, off, none⟩) n ci) ∧ W.cell? ⟨gr, i, none⟩ = some (.int .i64 r) ∧ W.cell? ⟨b, off + j, none⟩ = some (.int .u8 (markB r j)) from fun q W hW => by
            obtain ⟨x3, x4, x5, x6, x7, x8, x9⟩ := HAT.out _ (HLL.out.seen q)
            obtain ⟨b2, o2, e, x10⟩ := x9 j hjn
            injection e with e
            injection e with e4 e5 _
            subst e4 e5
            rw [hW]
            exact ⟨x3, x4, x5, x7, x8, x10⟩)
          clear HAT
          go_region_held3 (fun W => W.cell? ⟨G, 4, none⟩ = some (.slice (some ⟨gk, 0, none⟩) N cA) ∧ W.cell? ⟨G, 5, none⟩ = some (.slice (some ⟨gr, 0, none⟩) N cr) ∧ W.cell? ⟨G, 6, none⟩ = some (.bool false) ∧ W.cell? ⟨gk, i, none⟩ = some (.slice (some ⟨b, off, none⟩) n ci) ∧ W.cell? ⟨gr, i, none⟩ = some (.int .i64 r) ∧ W.cell? ⟨b, off + j, none⟩ = some (.int .u8 (markB r j)))
            (first | exact ⟨d3, d4, d5, d7, d8, d10⟩ | exact hK.out 1 _ rfl)
            (first | (go_at_call 44; with_reducible refine (hwn.out _).mono ?_; rintro e v1 ⟨rfl, rfl⟩) | fail)
          clear hK d3 d4 d5 d6 d7 d8 d10
          go_wp2_with fail
          go_roundw
          case rel => exact ⟨j + 1, by omega, rfl, HLL.out.seen 1⟩
          case measure => simp [intOf]; omega
        · have g1 : decide ((j : Int) < n) = false := by simp; omega
          go_wp2_with fail
          go_roundw
          case rel => exact ⟨i + 1, by omega, rfl, HLL.out⟩
          case measure => simp [intOf]; omega
    · have f1 : decide ((i : Int) < N) = false := by simp; omega
      have HLL := Lib.hid hL
      have c5 : wr.cell? ⟨G, 6, none⟩ = some (.bool false) := hL.blk.cell 6
      clear hL
      go_wp2_with fail
      go_ret
      exact ⟨rfl, HLL.out⟩
end Go.Proofs.Ytkfcfoidaalnlaa.Bk
