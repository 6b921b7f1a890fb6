/- HelpParts: the walk. -/
import Derived.Test.YtmdblhgnncfooaaHG
import Derived.Test.YtmdblhgnncfooaaHelpSlowLaw
namespace Go.Proofs.Ytmdblhgnncfooaa
open Go.ChangeShapes Go.WideShapes Go.ChangeAt Go.RowKit
open Bits HM
set_option linter.unusedVariables false
set_option linter.unusedSimpArgs false

/-- the same memory, some draws on -/
def Drewn (w W : World) : Prop := ∃ q, W = w.drewN q
theorem Drewn.refl (w : World) : Drewn w w := ⟨0, rfl⟩
theorem Drewn.step {w W V : World} (h : Drewn w W) (hv : ∃ q, V = W.drewN q) : Drewn w V := by
  obtain ⟨q, rfl⟩ := h
  obtain ⟨p, rfl⟩ := hv
  exact ⟨q + p, by simp [World.drewN, Nat.add_assoc]⟩
theorem Drewn.bytes {w W : World} (h : Drewn w W) {A : Option Addr} {L : List Int} (hb : BytesAt w A L) : BytesAt W A L := by
  obtain ⟨q, rfl⟩ := h
  exact hb
theorem Drewn.below {w W : World} (h : Drewn w W) {B : Nat} {a : World} (hb : Below B a w) : Below B a W := by
  obtain ⟨q, rfl⟩ := h
  exact below_drewN hb q
theorem bytesAt_keep {w w' : World} {A : Option Addr} {L : List Int} (h : BytesAt w A L) (hb : Below w.heap.size w w') : BytesAt w' A L := h.below hb
/-- a copy of bytes, as a row of its own -/
theorem copyBytes_own (w : World) (A : Option Addr) (n c : Nat) (L : List Int) (hL : L.length = n) (hlen : n ≤ 140737488355328) (h : BytesAt w A L) :
    Calls Try.prog 26 #[.slice A n c] w fun e w' => ∃ v, e = .returned v ∧ OwnB w' w.heap.size v L ∧ Below w.heap.size w w' := by
  have hown := OwnB.nil w w.heap.size
  go_enter Try.func26, Try.ntmps26
  go_wp2_with (at_builtin; (refine append_bytes Try.underlying37 byte_info _ rfl (.const (.slice none 0 0)) (.tmp 3) rfl w.heap.size _ _ rfl hown _ n c _ rfl hL h (by simpa using hlen) (Nat.le_refl _) ?_; intro v' w' hown' hB'))
  go_ret
  exact ⟨v', rfl, hown', hB'⟩
theorem ownB_slice {w : World} {base : Nat} {v : Value} {L : List Int} (h : OwnB w base v L) : ∃ A c, v = .slice A L.length c ∧ BytesAt w A L ∧ L.length ≤ c ∧ c ≤ maxLen := by
  obtain ⟨A, c, e, h2⟩ := h.form
  refine ⟨A, c, e, h2, ?_⟩
  rcases h.2 with ⟨hv, hn⟩ | ⟨g, cap, cur, hv, hg, hh, hnc, hcm, hcs, hx⟩
  · rw [e] at hv
    injection hv with e1 e2 e3
    subst e3
    exact ⟨by omega, Nat.zero_le _⟩
  · rw [e] at hv
    injection hv with e1 e2 e3
    subst e3
    exact ⟨hnc, hcm⟩
theorem bytesAt_take {w : World} {A : Option Addr} {L : List Int} (h : BytesAt w A L) (k : Nat) : BytesAt w A (L.take k) := fun hp => by
  have hl : 0 < L.length := by rw [List.length_take] at hp; omega
  obtain ⟨b, off, e, hlt, hc⟩ := h hl
  refine ⟨b, off, e, hlt, fun i hi => ?_⟩
  rw [List.length_take] at hi
  rw [hc i (by omega), List.getElem?_take, if_pos (by omega)]

set_option maxRecDepth 100000 in
set_option maxHeartbeats 1600000 in
theorem helpParts_walk (w : World) (A0 : Option Addr) (n0 c0 : Nat) (L0 : List Int) (hL0 : L0.length = n0) (hr0 : n0 ≤ c0 ∧ c0 ≤ maxLen ∧ n0 ≤ 1048576) (hY0 : Byt L0) (hA0 : BytesAt w A0 L0)
    (A1 : Option Addr) (n1 c1 : Nat) (L1 : List Int) (hL1 : L1.length = n1) (hr1 : n1 ≤ c1 ∧ c1 ≤ maxLen ∧ n1 ≤ 1048576) (hY1 : Byt L1) (hA1 : BytesAt w A1 L1)
    (seed : Int) (hseed : -9223372036854775808 ≤ seed ∧ seed ≤ 9223372036854775807) :
    Calls Try.prog 9 #[.slice A0 n0 c0, .slice A1 n1 c1, .int .i64 seed] w fun e w' => e = .returned (.bool true) ∧ Below w.heap.size w w' := by
  have hk := Lib.hid (known_any w)
  obtain ⟨q0, q1, q2⟩ := hr0
  obtain ⟨p0, p1, p2⟩ := hr1
  have HA0 := Lib.hid hA0
  have HA1 := Lib.hid hA1
  have HL0 := Lib.hid hL0
  have HL1 := Lib.hid hL1
  have HY0 := Lib.hid hY0
  have HY1 := Lib.hid hY1
  have ha := and16 seed
  have HS0 : Hid (0 ≤ seed % 65536 ∧ seed % 65536 ≤ 65535) := Lib.hid (by omega)
  clear hA0 hA1 hL0 hL1 hY0 hY1
  go_enter Try.func9, Try.ntmps9
  go_wp2_with fail
  refine hk.out.mono ?_
  rintro e w1 ⟨rfl, hB⟩
  clear hk
  go_upto_region 4 with (fail)
  have hT0 : BytesAt w1 A0 (L0.take (n0 / 2 * 2)) := (bytesAt_take HA0.out _).below hB
  have hT1 : BytesAt w1 A1 L1 := HA1.out.below hB
  have hTL : (L0.take (n0 / 2 * 2)).length = n0 / 2 * 2 := by rw [List.length_take, HL0.out]; omega
  have hTY : Byt (L0.take (n0 / 2 * 2)) := byt_take HY0.out _
  have hm2 : n0 / 2 * 2 % 2 = 0 := by omega
  have hm3 : n0 / 2 * 2 ≤ n0 := by omega
  clear HA0 HY0 HL0
  generalize L0.take (n0 / 2 * 2) = T at *
  generalize n0 / 2 * 2 = m at *
  have hcp := Lib.hid (copyBytes_own w1 A0 m c0 T hTL (by omega) hT0)
  have hsz := hB.size
  go_wp2_with (first | (go_at_call 26; refine hcp.out.mono ?_; rintro e w2 ⟨v, rfl, hown, hB2⟩; have hs2 := hB2.size; have hb1 := hT1.below hB2) | (at_builtin; (refine append_bytes Try.underlying37 byte_info _ rfl (.tmp 17) (.tmp 18) rfl w1.heap.size v T rfl hown _ n1 c1 L1 rfl HL1.out hb1 (by omega) hs2 ?_; intro v' w3 hown' hB3)))
  obtain ⟨A', c', rfl, hat, hlc, hcm⟩ := ownB_slice hown'
  have hYB : Byt (T ++ L1) := fun x hx => by
    rcases List.mem_append.1 hx with h | h
    · exact hTY x h
    · exact HY1.out x h
  have hB4 : Below w.heap.size w w3 := (hB.trans (hB2.mono hsz)).trans (hB3.mono (by omega))
  have hA0 : BytesAt w3 A0 T := bytesAt_keep hT0 (hB2.trans (hB3.mono (Nat.le_refl _)))
  have hA1 : BytesAt w3 A1 L1 := bytesAt_keep hT1 (hB2.trans (hB3.mono (Nat.le_refl _)))
  have hpp := sumW_app T L1 (seed % 65536) (by rw [hTL]; exact hm2)
  have hs1 := sumW_rng T (seed % 65536) hTY HS0.out
  have he1 : sumW T (seed % 65536) % 65536 = sumW T (seed % 65536) := Int.emod_eq_of_lt hs1.1 (by omega)
  have he2 : (seed % 65536) % 65536 = seed % 65536 := Int.emod_emod _ _
  have h1 := Lib.hid (fun W (hW : Drewn w3 W) s => sum_any W A' (T ++ L1).length c' (T ++ L1) s rfl hlc hcm hYB (hW.bytes hat))
  have h2 := Lib.hid (fun W (hW : Drewn w3 W) s => sum_any W A0 m c0 T s hTL (by omega) q1 hTY (hW.bytes hA0))
  have h3 := Lib.hid (fun W (hW : Drewn w3 W) s => sum_any W A1 n1 c1 L1 s HL1.out p0 p1 HY1.out (hW.bytes hA1))
  have HB4 := Lib.hid hB4
  have hW3 : Drewn w3 w3 := Drewn.refl w3
  clear hcp hown hown' hB hB2 hB3 hat hYB hA0 hA1 hT0 hT1 hb1 hs1 hTY hB4
  generalize (T ++ L1).length = N at *
  have h1' := h1.out w3 hW3 seed
  rw [hpp] at h1'
  refine h1'.mono ?_
  rintro e w4 ⟨rfl, hq⟩
  have hW4 := hW3.step hq
  have h2' := h2.out w4 hW4 seed
  go_wp2_with fail
  refine h2'.mono ?_
  rintro e w5 ⟨rfl, hq5⟩
  have hW5 := hW4.step hq5
  have h3' := h3.out w5 hW5 (sumW T (seed % 65536))
  rw [he1] at h3'
  go_wp2_with fail
  refine h3'.mono ?_
  rintro e w6 ⟨rfl, hq6⟩
  have hW6 := hW5.step hq6
  have h1' := h1.out w6 hW6 seed
  rw [hpp] at h1'
  clear hq hq5 hq6 h2' h3' h2 h3
  generalize sumW L1 (sumW T (seed % 65536)) = S at *
  go_wp2_with fail
  refine h1'.mono ?_
  rintro e w7 ⟨rfl, hq⟩
  have hW7 := hW6.step hq
  have h1'' := h1.out w7 hW7 (seed % 65536)
  rw [he2, hpp] at h1''
  clear h1' hq
  go_wp2_with fail
  refine h1''.mono ?_
  rintro e w8 ⟨rfl, hq⟩
  have hW8 := hW7.step hq
  go_wp2_with fail
  go_ret
  exact ⟨by simp, hW8.below HB4.out⟩
end Go.Proofs.Ytmdblhgnncfooaa
