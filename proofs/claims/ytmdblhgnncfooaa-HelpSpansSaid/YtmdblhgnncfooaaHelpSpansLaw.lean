/- HelpSpans: the walk. -/
import Derived.Test.YtmdblhgnncfooaaHG
import Derived.Test.YtmdblhgnncfooaaHelpPartsLaw
namespace Go.Proofs.Ytmdblhgnncfooaa
open Go.ChangeShapes Go.WideShapes Go.ChangeAt Go.RowKit
open Bits HM
set_option linter.unusedVariables false
set_option linter.unusedSimpArgs false

theorem hasLaw_yes (lo hi x : Int) (h1 : lo ≤ x) (h2 : x ≤ hi) (w : World) :
    Calls Try.prog 35 #[.agg #[.int .i64 lo, .int .i64 hi, .bool false, .bool false], .int .i64 x] w fun e w' => e = .returned (.bool true) ∧ Below w.heap.size w w' := by
  have hB : ∀ o, Below w.heap.size w (w.alloc o) := fun o => (Below.refl _ _).alloc (Nat.le_refl _) _
  go_enter Try.func35, Try.ntmps35
  go_wp2_with fail
  go_ret
  exact ⟨rfl, hB _⟩

theorem sig_1 (w : World) : Calls Try.prog 18 #[.int .i64 1] w (SigIs w [2, 4, 1, 0, 0] 0 65535 false false) :=
  sig_row 1 (by decide) (by decide) _ 2 4 1 0 0 0 65535 false false rfl _ _ rfl (.inl ⟨rfl, rfl, rfl, rfl⟩) w
theorem sig_5 (w : World) : Calls Try.prog 18 #[.int .i64 5] w (SigIs w [2, 4, 1, 0, 0] (-1) 65534 false false) :=
  sig_row 5 (by decide) (by decide) _ 2 4 1 0 0 (-1) 65534 false false rfl _ _ rfl (.inl ⟨rfl, rfl, rfl, rfl⟩) w
theorem sig_4 (w : World) : Calls Try.prog 18 #[.int .i64 4] w (SigIs w [2, 2, 4, 0, 0] (-1) 1 false false) :=
  sig_row 4 (by decide) (by decide) _ 2 2 4 0 0 (-1) 1 false false rfl _ _ rfl (.inl ⟨rfl, rfl, rfl, rfl⟩) w

/-- a sig that stands in a block of its own -/
def SigAt (W : World) (r : Nat) (lo hi : Int) : Prop := ∃ A c, Blk W r 31 #[.slice A 5 c, .int .i64 lo, .int .i64 hi, .bool false, .bool false]
theorem SigAt.below {W W' : World} {r : Nat} {lo hi : Int} (h : SigAt W r lo hi) (hb : Below W.heap.size W W') : SigAt W' r lo hi := by
  obtain ⟨A, c, h⟩ := h
  exact ⟨A, c, h.below hb h.lt⟩
theorem SigAt.cells {W : World} {r : Nat} {lo hi : Int} (h : SigAt W r lo hi) : W.cell? ⟨r, 1, none⟩ = some (.int .i64 lo) ∧ W.cell? ⟨r, 2, none⟩ = some (.int .i64 hi) ∧ W.cell? ⟨r, 3, none⟩ = some (.bool false) ∧ W.cell? ⟨r, 4, none⟩ = some (.bool false) := by
  obtain ⟨A, c, h⟩ := h
  exact ⟨h.cell 1, h.cell 2, h.cell 3, h.cell 4⟩

/-- a piece of a slice's middle -/
def cutA (A : Option Addr) (k : Nat) : Option Addr := A.map (·.add k)
theorem bytesAt_cut {w : World} {A : Option Addr} {L : List Int} (h : BytesAt w A L) (k j : Nat) : BytesAt w (cutA A k) ((L.drop k).take j) := fun hp => by
  rw [List.length_take, List.length_drop] at hp
  obtain ⟨b, off, rfl, hlt, hc⟩ := h (by omega)
  refine ⟨b, off + k, ?_, hlt, fun i hi => ?_⟩
  · unfold cutA; simp [Addr.add]
  · rw [List.length_take, List.length_drop] at hi
    rw [show off + k + i = off + (k + i) by omega, hc (k + i) (by omega), List.getElem?_take, if_pos (by omega), List.getElem?_drop]
theorem spS {W4 W : World} {r1 r2 r3 : Nat} {a b c d e f : Int} (h1 : SigAt W4 r1 a b) (h2 : SigAt W4 r2 c d) (h3 : SigAt W4 r3 e f) (hb : Below W4.heap.size W4 W) :
    W.cell? ⟨r1, 1, none⟩ = some (.int .i64 a) ∧ W.cell? ⟨r1, 2, none⟩ = some (.int .i64 b) ∧ W.cell? ⟨r1, 3, none⟩ = some (.bool false) ∧ W.cell? ⟨r1, 4, none⟩ = some (.bool false) ∧ W.cell? ⟨r2, 1, none⟩ = some (.int .i64 c) ∧ W.cell? ⟨r2, 2, none⟩ = some (.int .i64 d) ∧ W.cell? ⟨r2, 3, none⟩ = some (.bool false) ∧ W.cell? ⟨r2, 4, none⟩ = some (.bool false) ∧ W.cell? ⟨r3, 1, none⟩ = some (.int .i64 e) ∧ W.cell? ⟨r3, 2, none⟩ = some (.int .i64 f) ∧ W.cell? ⟨r3, 3, none⟩ = some (.bool false) ∧ W.cell? ⟨r3, 4, none⟩ = some (.bool false) := by
  obtain ⟨p1, p2, p3, p4⟩ := (h1.below hb).cells
  obtain ⟨q1, q2, q3, q4⟩ := (h2.below hb).cells
  obtain ⟨s1, s2, s3, s4⟩ := (h3.below hb).cells
  exact ⟨p1, p2, p3, p4, q1, q2, q3, q4, s1, s2, s3, s4⟩

set_option maxRecDepth 100000 in
set_option maxHeartbeats 1600000 in
theorem helpSpans_walk (w : World) (A : Option Addr) (n c : Nat) (L : List Int) (hL : L.length = n) (hnc : n ≤ c ∧ c ≤ 140737488351232) (hb : Byt L) (hA : BytesAt w A L) (hsp : 0 < c → ∃ b off, A = some ⟨b, off, none⟩) (seed : Int) (hseed : -9223372036854775808 ≤ seed ∧ seed ≤ 9223372036854775807) (x : Int) (hx : -9223372036854775808 ≤ x ∧ x ≤ 9223372036854775807) :
    Calls Try.prog 15 #[.slice A n c, .int .i64 seed, .int .i64 x] w fun e w' => e = .returned (.bool true) ∧ Below w.heap.size w w' := by
  have hk := Lib.hid (known_any w)
  have h1 := Lib.hid sig_1
  have h5 := Lib.hid sig_5
  have h4 := Lib.hid sig_4
  have hnot := runNot
  have HA := Lib.hid hA
  have HL := Lib.hid hL
  have HY := Lib.hid hb
  obtain ⟨hn1, hn2⟩ := hnc
  clear hA hL hb
  go_enter Try.func15, Try.ntmps15
  go_wp2_with fail
  refine hk.out.mono ?_
  rintro e w1 ⟨rfl, hB⟩
  clear hk
  have HA1 := Lib.hid (HA.out.below hB)
  clear HA
  go_upto_if 18 with (fail)
  go_cut [0] (fun s wx => ∃ m T, s = .slice A m c ∧ T.length = m ∧ m ≤ 65535 ∧ m ≤ c ∧ Byt T ∧ BytesAt wx A T ∧ Below w.heap.size w wx)
  case first =>
    by_cases hn : n ≤ 65535
    · go_wp2_with fail
      go_meet
      case rel => exact ⟨n, L, rfl, HL.out, hn, hn1, HY.out, HA1.out, hB⟩
    · have f1 : (65535 : Int) < n := by omega
      have f2 : 65535 ≤ c := by omega
      go_wp2_with fail
      go_meet
      case rel => exact ⟨65535, L.take 65535, rfl, by rw [List.length_take, HL.out]; omega, Nat.le_refl _, f2, byt_take HY.out _, bytesAt_take HA1.out _, hB⟩
  case rest =>
    obtain ⟨m, T, rfl, hTL, hm, hmc, hTY, hTA, hBx⟩ := hcut
    clear HL HY HA1 hB
    go_upto_region 6 with (go_at_call 18; refine (h1.out _).mono ?_; rintro e w2 hs; obtain ⟨A1, k1, rfl, hown, hB1⟩ := hs.five rfl; clear hs)
    have hS1 : SigAt (w2.alloc (.cells #[.slice A1 5 k1, .int .i64 0, .int .i64 65535, .bool false, .bool false] 31)) w2.heap.size 0 65535 := ⟨_, _, Blk.new _ _ _⟩
    have hB2 := hB1.alloc hB1.size (.cells #[.slice A1 5 k1, .int .i64 0, .int .i64 65535, .bool false, .bool false] 31)
    clear hown hB1 h1
    generalize w2.alloc (.cells #[.slice A1 5 k1, .int .i64 0, .int .i64 65535, .bool false, .bool false] 31) = W2 at *
    generalize w2.heap.size = r1 at *
    go_upto_region 7 with (go_at_call 18; refine (h5.out _).mono ?_; rintro e w3 hs; obtain ⟨A2, k2, rfl, hown, hB3⟩ := hs.five rfl; clear hs)
    have hS2 : SigAt (w3.alloc (.cells #[.slice A2 5 k2, .int .i64 (-1), .int .i64 65534, .bool false, .bool false] 31)) w3.heap.size (-1) 65534 := ⟨_, _, Blk.new _ _ _⟩
    have hB4 : Below W2.heap.size W2 (w3.alloc (.cells #[.slice A2 5 k2, .int .i64 (-1), .int .i64 65534, .bool false, .bool false] 31)) := hB3.alloc hB3.size _
    have hS1' := hS1.below hB4
    have hB5 := hB2.trans (hB4.mono hB2.size)
    clear hown hB3 h5 hS1 hB4 hB2
    generalize w3.alloc (.cells #[.slice A2 5 k2, .int .i64 (-1), .int .i64 65534, .bool false, .bool false] 31) = W3 at *
    generalize w3.heap.size = r2 at *
    go_upto_region 8 with (go_at_call 18; refine (h4.out _).mono ?_; rintro e w4 hs; obtain ⟨A3, k3, rfl, hown, hB6⟩ := hs.five rfl; clear hs)
    have hS3 : SigAt (w4.alloc (.cells #[.slice A3 5 k3, .int .i64 (-1), .int .i64 1, .bool false, .bool false] 31)) w4.heap.size (-1) 1 := ⟨_, _, Blk.new _ _ _⟩
    have hB7 : Below W3.heap.size W3 (w4.alloc (.cells #[.slice A3 5 k3, .int .i64 (-1), .int .i64 1, .bool false, .bool false] 31)) := hB6.alloc hB6.size _
    have hS1'' := hS1'.below hB7
    have hS2'' := hS2.below hB7
    have hB8 := hB5.trans (hB7.mono hB5.size)
    clear hown hB6 h4 hS1' hS2 hB7 hB5
    generalize w4.alloc (.cells #[.slice A3 5 k3, .int .i64 (-1), .int .i64 1, .bool false, .bool false] 31) = W4 at *
    generalize w4.heap.size = r3 at *
    go_upto_region 11 with (fail)
    have hTA4 := hTA.below hB8
    have hB9 := hBx.trans (hB8.mono hBx.size)
    clear hTA hB8 hBx
    have hBd : Below W4.heap.size W4 W4.drew := (Below.refl _ _).drew
    have HK := Lib.hid (fun W (hW : Below W4.heap.size W4 W) => spS hS1'' hS2'' hS3 hW)
    have hs0 := sumW_rng T (seed % 65536) hTY (by omega)
    have hf0 := findV_rng T (x % 256)
    have hsum := Lib.hid (fun W (hW : Below W4.heap.size W4 W) => (sum_any W A m c T seed hTL hmc (by unfold maxLen; omega) hTY (hTA4.below hW)).mono fun e w' h => show e = .returned (.int .i64 (sumW T (seed % 65536))) ∧ Below W4.heap.size W4 w' from ⟨h.1, by obtain ⟨_, q, rfl⟩ := h; exact below_drewN hW q⟩)
    have hfind := Lib.hid (fun W (hW : Below W4.heap.size W4 W) => (find_any W A m c T x hTL (hTA4.below hW) hTY).mono fun e w' h => show e = .returned (.int .i64 (findV T (x % 256))) ∧ Below W4.heap.size W4 w' from ⟨h.1, by obtain ⟨_, rfl⟩ := h; exact hW⟩)
    generalize sumW T (seed % 65536) = sv at *
    generalize findV T (x % 256) = fv at *
    have hh1 := Lib.hid (fun W (hW : Below W4.heap.size W4 W) => (hasLaw_yes 0 65535 sv hs0.1 hs0.2 W).mono fun e w' h => show e = .returned (.bool true) ∧ Below W4.heap.size W4 w' from ⟨h.1, hW.trans (h.2.mono hW.size)⟩)
    have hh2 := Lib.hid (fun W (hW : Below W4.heap.size W4 W) => (hasLaw_yes (-1) 65534 fv hf0.1 (by have := hf0.2; omega) W).mono fun e w' h => show e = .returned (.bool true) ∧ Below W4.heap.size W4 w' from ⟨h.1, hW.trans (h.2.mono hW.size)⟩)
    have hc0 := HK.out _ hBd
    obtain ⟨hf, hhf⟩ : ∃ hf : Nat, hf = m / 2 := ⟨_, rfl⟩
    have hhi : (m : Int) / 2 = (hf : Int) := by omega
    have hd0 := diffV_rng (T.take hf) ((T.drop hf).take hf)
    have hdiff := Lib.hid (fun W (hW : Below W4.heap.size W4 W) A1 A2 c1 c2 (h1 : BytesAt W A1 (T.take hf)) (h2 : BytesAt W A2 ((T.drop hf).take hf)) => (diff_any W A1 A2 hf hf c1 c2 (T.take hf) ((T.drop hf).take hf) (by rw [List.length_take]; omega) (by rw [List.length_take, List.length_drop]; omega) h1 h2 (byt_take hTY _) (byt_take (byt_drop hTY _) _)).mono fun e w' h => show e = .returned (.int .i64 (diffV (T.take hf) ((T.drop hf).take hf))) ∧ Below W4.heap.size W4 w' from ⟨h.1, by obtain ⟨_, rfl⟩ := h; exact hW⟩)
    have HB1 := Lib.hid (fun W (hW : Below W4.heap.size W4 W) => bytesAt_take (hTA4.below hW) hf)
    have HB2 := Lib.hid (fun W (hW : Below W4.heap.size W4 W) => bytesAt_cut (hTA4.below hW) hf hf)
    generalize diffV (T.take hf) ((T.drop hf).take hf) = dv at *
    have hh3 := Lib.hid (fun W (hW : Below W4.heap.size W4 W) => (hasLaw_yes (-1) 1 dv (by omega) (by omega) W).mono fun e w' h => show e = .returned (.bool true) ∧ Below W4.heap.size W4 w' from ⟨h.1, hW.trans (h.2.mono hW.size)⟩)
    rw [hhi]
    have i1 : (0 : Int) ≤ (hf : Int) := by omega
    have i2 : (hf : Int) ≤ (c : Int) := by omega
    have i3 : (hf : Int) ≤ 2 * (hf : Int) := by omega
    have i4 : 2 * (hf : Int) ≤ (c : Int) := by omega
    have i5 : hf ≤ c := by omega
    have i6 : 2 * hf ≤ c := by omega
    have i7 : IntKind.i64.wrap (2 * (hf : Int)) = 2 * (hf : Int) := IntWalk.i64_in _ (by omega)
    have i8 : 2 * hf - hf = hf := by omega
    have i9 : (2 * (hf : Int)).toNat = 2 * hf := by omega
    clear hS1'' hS2'' hS3 hs0 hf0 hd0 hTY hhi
    have HX1 := HB1
    by_cases hce : c = hf
    · have hf0 : hf = 0 := by omega
      have HX2 := Lib.hid (fun W (hW : Below W4.heap.size W4 W) => show BytesAt W A ((T.drop hf).take hf) from fun h => by rw [List.length_take] at h; omega)
      subst hce
      clear hf0 hhf hTA4 HB2
      go_region_held3 (fun W => W.cell? ⟨r1, 1, none⟩ = some (.int .i64 0) ∧ W.cell? ⟨r1, 2, none⟩ = some (.int .i64 65535) ∧ W.cell? ⟨r1, 3, none⟩ = some (.bool false) ∧ W.cell? ⟨r1, 4, none⟩ = some (.bool false) ∧ W.cell? ⟨r2, 1, none⟩ = some (.int .i64 (-1)) ∧ W.cell? ⟨r2, 2, none⟩ = some (.int .i64 65534) ∧ W.cell? ⟨r2, 3, none⟩ = some (.bool false) ∧ W.cell? ⟨r2, 4, none⟩ = some (.bool false) ∧ W.cell? ⟨r3, 1, none⟩ = some (.int .i64 (-1)) ∧ W.cell? ⟨r3, 2, none⟩ = some (.int .i64 1) ∧ W.cell? ⟨r3, 3, none⟩ = some (.bool false) ∧ W.cell? ⟨r3, 4, none⟩ = some (.bool false))
        (first | exact hc0 | exact HK.out _ hv1 | exact HK.out _ hv2 | exact HK.out _ hv3 | exact HK.out _ hv4 | exact HK.out _ hv5 | exact HK.out _ hv6)
        (first | (go_at_call 27; with_reducible refine (hdiff.out _ hv4 _ _ _ _ (HX1.out _ hv4) (HX2.out _ hv4)).mono ?_; rintro e v5 ⟨rfl, hv5⟩) | (go_at_call 35; with_reducible refine (hh3.out _ hv5).mono ?_; rintro e v6 ⟨rfl, hv6⟩) | (go_at_call 23; refine (hsum.out _ hBd).mono ?_; rintro e v1 ⟨rfl, hv1⟩) | (go_at_call 29; refine (hfind.out _ hv2).mono ?_; rintro e v3 ⟨rfl, hv3⟩) | (go_at_call 35; with_reducible refine (hh2.out _ hv3).mono ?_; rintro e v4 ⟨rfl, hv4⟩) | (go_at_call 35; with_reducible refine (hh1.out _ hv1).mono ?_; rintro e v2 ⟨rfl, hv2⟩) | fail)
      go_wp2_with fail
      go_ret
      exact ⟨rfl, hB9.trans (hv6.mono hB9.size)⟩
    · obtain ⟨b, off, rfl⟩ := hsp (by omega)
      clear hhf hTA4
      have HX2 := HB2
      unfold cutA at HX2
      simp only [Option.map_some, Addr.add_lit] at HX2
      go_region_held3 (fun W => W.cell? ⟨r1, 1, none⟩ = some (.int .i64 0) ∧ W.cell? ⟨r1, 2, none⟩ = some (.int .i64 65535) ∧ W.cell? ⟨r1, 3, none⟩ = some (.bool false) ∧ W.cell? ⟨r1, 4, none⟩ = some (.bool false) ∧ W.cell? ⟨r2, 1, none⟩ = some (.int .i64 (-1)) ∧ W.cell? ⟨r2, 2, none⟩ = some (.int .i64 65534) ∧ W.cell? ⟨r2, 3, none⟩ = some (.bool false) ∧ W.cell? ⟨r2, 4, none⟩ = some (.bool false) ∧ W.cell? ⟨r3, 1, none⟩ = some (.int .i64 (-1)) ∧ W.cell? ⟨r3, 2, none⟩ = some (.int .i64 1) ∧ W.cell? ⟨r3, 3, none⟩ = some (.bool false) ∧ W.cell? ⟨r3, 4, none⟩ = some (.bool false))
        (first | exact hc0 | exact HK.out _ hv1 | exact HK.out _ hv2 | exact HK.out _ hv3 | exact HK.out _ hv4 | exact HK.out _ hv5 | exact HK.out _ hv6)
        (first | (go_at_call 27; with_reducible refine (hdiff.out _ hv4 _ _ _ _ (HX1.out _ hv4) (HX2.out _ hv4)).mono ?_; rintro e v5 ⟨rfl, hv5⟩) | (go_at_call 35; with_reducible refine (hh3.out _ hv5).mono ?_; rintro e v6 ⟨rfl, hv6⟩) | (go_at_call 23; refine (hsum.out _ hBd).mono ?_; rintro e v1 ⟨rfl, hv1⟩) | (go_at_call 29; refine (hfind.out _ hv2).mono ?_; rintro e v3 ⟨rfl, hv3⟩) | (go_at_call 35; with_reducible refine (hh2.out _ hv3).mono ?_; rintro e v4 ⟨rfl, hv4⟩) | (go_at_call 35; with_reducible refine (hh1.out _ hv1).mono ?_; rintro e v2 ⟨rfl, hv2⟩) | fail)
      go_wp2_with fail
      go_ret
      exact ⟨rfl, hB9.trans (hv6.mono hB9.size)⟩
end Go.Proofs.Ytmdblhgnncfooaa
