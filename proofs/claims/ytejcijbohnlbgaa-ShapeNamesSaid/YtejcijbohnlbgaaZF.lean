/- Contracts of package zone: with, With's closure. -/
import Derived.Test.YtejcijbohnlbgaaZE
namespace Go.Proofs.Ytejcijbohnlbgaa
open Go.ChangeShapes Go.WideShapes Go.ChangeAt Go.RowKit
open Zon
set_option linter.unusedVariables false
set_option maxRecDepth 100000
theorem withZ_stop {z : Zn} {L : List Con} {k : Nat} (hk : k ≤ L.length) (h : withZ z (L.take k) = none) : withZ z L = none := by
  have e : withZ z L = withZ (withZ z (L.take k)) (L.drop k) := by
    unfold withZ
    rw [← List.foldl_append, List.take_append_drop]
  rw [e, h, withZ_none]
theorem conZ_some {M : Tab} {x : Con} {ni nj : Nat} (hi : x.i = ni) (hj : x.j = nj) : conZ (some M) x = addZ M ni nj x.c := by
  show addZ M x.i.toNat x.j.toNat x.c = _
  rw [hi, hj]
  rfl
theorem below_box (w : World) (o : Obj) : Below w.heap.size w (w.alloc o) := (Below.refl _ _).alloc (Nat.le_refl _) _
set_option maxHeartbeats 2000000 in
theorem tabWith_any (w : World) (g : Nat) (M : Tab) (A : Option Addr) (n c : Nat) (L : List Con) (hz : ZB w g false M) (hM : OkT M) (hL : L.length = n) (hn : n ≤ 4000000000000000000) (h : ConsAt w A L) (hf : 0 < L.length → Far A g) (hok : ∀ x ∈ L, wrong1 x = 0) :
    Calls Try.prog 44 #[.pointer (some ⟨g, 1, none⟩), .slice A n c] w (AddPost w g (withZ (some M) L)) := by
  have HA := Lib.hid h
  have HL := Lib.hid hL
  have HZ := Lib.hid hz
  have HM := Lib.hid hM
  have HO := Lib.hid hok
  have HF := Lib.hid hf
  clear h hL hz hM hok hf
  go_enter Try.func44, Try.ntmps44
  go_wp2_with fail
  go_loopw [9] (fun i wr => ∃ k : Nat, k ≤ n ∧ i = .int .i64 k ∧ Touch g w wr ∧ ∃ N, withZ (some M) (L.take k) = some N ∧ ZB wr g false N) (fun i _ => (n - intOf i).toNat)
  case atStart => exact ⟨0, Nat.zero_le _, rfl, Touch.refl _ _, M, rfl, HZ.out⟩
  case round =>
    obtain ⟨k, hk, rfl, hT, N, hN, hB⟩ := hrel
    by_cases hlt : k < n
    · have hlt' : (k : Int) < n := by omega
      obtain ⟨b, off, rfl, hbl, -⟩ := HA.out (by have := HL.out; omega)
      obtain ⟨x, hx, hbl2, x0, x1, x2⟩ := (HA.out.touch (HF.out (by have := HL.out; omega)) hT).get (k := k) (by have := HL.out; omega)
      have hxm := List.mem_of_getElem? hx
      have hx0 := HO.out x hxm
      obtain ⟨⟨g1, g2⟩, ⟨g3, g4⟩, g5⟩ := wrong1_zero hx0
      have hrg : rngB x.c = true := by unfold rngB; simp; omega
      obtain ⟨ni, hni⟩ : ∃ ni : Nat, x.i = ni := ⟨x.i.toNat, by omega⟩
      obtain ⟨nj, hnj⟩ : ∃ nj : Nat, x.j = nj := ⟨x.j.toNat, by omega⟩
      have hni' : ni < 60 := by omega
      have hnj' : nj < 60 := by omega
      have hcz : withZ (some M) (L.take (k + 1)) = addZ N ni nj x.c := by rw [take_next L k x hx, withZ_snoc, hN, conZ_some hni hnj]
      have hNok : OkT N := by
        have hzz : OkZ (some M) := fun M' e => by injection e with e; exact e ▸ HM.out
        exact okZ_with hzz (L.take k) N hN
      rw [hni] at x0
      rw [hnj] at x1
      generalize x.c = xc at *
      have HCZ := Lib.hid hcz
      have HB := Lib.hid hB
      have HT := Lib.hid hT
      have HADD := Lib.hid (fun W (hW : ZB W g false N) => add_any W g ni nj xc N hW hNok hni' hnj' hrg)
      clear hx hxm hx0 g1 g2 g3 g4 g5 hrg hni hnj hni' hnj' hcz hN hNok hB hT hbl2
      go_upto_region 4 with (fail)
      go_wp2_with fail
      go_at_call 72
      refine (HADD.out _ (HB.out.up (below_box wr _))).mono ?_
      rintro e w4 ⟨hT4, h4⟩
      have HT4 := Lib.hid (HT.out.trans ((Touch.of_below (below_box wr _)).trans hT4))
      clear hT4 HADD HB HT x0 x1 x2
      rcases h4 with ⟨N', hz', rfl, hB'⟩ | ⟨hz', rfl, N', hB'⟩
      · have HB' := Lib.hid hB'
        have HZ' := Lib.hid (HCZ.out.trans hz')
        clear hB' hz' HCZ
        go_wp2_with fail
        go_roundw
        case rel => exact ⟨k + 1, by omega, by go_num, HT4.out, N', HZ'.out, HB'.out⟩
        case measure => simp [intOf]; omega
      · have HB' := Lib.hid hB'
        have HZ' := Lib.hid (withZ_stop (by have := HL.out; omega) (HCZ.out.trans hz'))
        clear hB' hz' HCZ
        go_wp2_with fail
        go_ret
        exact addPost_no HT4.out HZ'.out HB'.out
    · obtain rfl : k = n := by omega
      have hjn : decide ((k : Int) < k) = false := decide_eq_false (by omega)
      rw [List.take_of_length_le (by rw [HL.out]; omega)] at hN
      have HB := Lib.hid hB
      have HT := Lib.hid hT
      have HN := Lib.hid hN
      clear hB hT hN
      go_wp2_with fail
      go_ret
      exact addPost_yes HT.out HN.out HB.out
set_option maxHeartbeats 1000000 in
theorem withClo_any (w : World) (g bx : Nat) (M : Tab) (A : Option Addr) (n c : Nat) (L : List Con) (hz : ZB w g false M) (hM : OkT M) (hL : L.length = n) (hn : n ≤ 4000000000000000000) (h : ConsAt w A L) (hf : 0 < L.length → Far A g) (hok : ∀ x ∈ L, wrong1 x = 0)
    (hx : w.cell? ⟨bx, 0, none⟩ = some (.slice A n c)) :
    Calls Try.prog 43 #[.pointer (some ⟨g, 1, none⟩), .pointer (some ⟨bx, 0, none⟩)] w (AddPost w g (withZ (some M) L)) := by
  have HC := Lib.hid (tabWith_any w g M A n c L hz hM hL hn h hf hok)
  clear hz hM hL h hf hok
  go_enter Try.func43, Try.ntmps43
  go_wp2_with fail
  go_at_call 44
  refine HC.out.mono ?_
  rintro e w4 ⟨hT, h4⟩
  have HT := Lib.hid hT
  clear hT
  rcases h4 with ⟨N', hz', rfl, hB'⟩ | ⟨hz', rfl, N', hB'⟩
  · have HB' := Lib.hid hB'
    have HZ' := Lib.hid hz'
    clear hB' hz' HC
    go_wp2_with fail
    go_ret
    exact addPost_yes HT.out HZ'.out HB'.out
  · have HB' := Lib.hid hB'
    have HZ' := Lib.hid hz'
    clear hB' hz' HC
    go_wp2_with fail
    go_ret
    exact addPost_no HT.out HZ'.out HB'.out
end Go.Proofs.Ytejcijbohnlbgaa
