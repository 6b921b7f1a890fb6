/- Package deed: Encode. -/
import Derived.Test.YtbomihdnnidelaaDeZ
namespace Go.Proofs.Ytbomihdnnidelaa
open Go.ChangeShapes Go.WideShapes Go.ChangeAt Go.RowKit
open Dee
set_option linter.unusedVariables false
set_option linter.unusedSimpArgs false
set_option maxRecDepth 100000
/-- what Encode answers -/
def encD (d : Md) : Int := if wrongMd d ≠ 0 then wrongMd d else if 4194304 < (deW (toDe d)).length then 2 else 0
def Encoded (w : World) (d : Md) (e : Ending) (w' : World) : Prop :=
  Below w.heap.size w w' ∧ ∃ v, e = .returned (.tuple #[v, .int .i64 (encD d)]) ∧ (if encD d = 0 then wrongMd d = 0 ∧ OwnB w' w.heap.size v (deW (toDe d)) else v = .slice none 0 0)
set_option maxHeartbeats 4000000 in
theorem encode_any (w : World) (vl vc : Value) (d : Md) (hat : DeedAt w.heap.size w vl vc d) :
    Calls Try.prog 13 #[.agg (arr 2 (deF vl vc))] w (Encoded w d) := by
  have HAT := Lib.hid hat
  clear hat
  obtain ⟨T, hT⟩ : ∃ T, T = deF vl vc := ⟨_, rfl⟩
  have HTT := Lib.hid hT
  rw [← hT]
  clear hT
  go_enter Try.func13, Try.ntmps13
  go_upto_region 1 with (refine wpList_box_seg rfl _ (.tmp 0) rfl 2 T rfl ?_; intro w1 h1 hB1 hs1)
  obtain ⟨gb, hgb⟩ : ∃ gb, gb = w.heap.size := ⟨_, rfl⟩
  have HGB := Lib.hid hgb
  rw [← hgb] at h1 ⊢
  have HF0 := Lib.hid h1
  have HB0 := Lib.hid hB1
  have HA1 := Lib.hid (HAT.out.keep hB1)
  clear h1 hB1 hs1 hgb HAT
  go_wp2_with (refine wpList_load_all rfl 26 _ rfl gb rfl 26 2 T _ HF0.out Try.underlying26 rfl sizeDeed ?_)
  go_at_call 29
  rw [HTT.out]
  refine (wrong_any _ vl vc d (by have h := HA1.out; obtain ⟨⟨A, m, c, e, h1, h2⟩, ⟨A', m', c', ps, e', h1', hm, h2', h3⟩⟩ := h; exact ⟨⟨A, m, c, e, h1, fun hp => by obtain ⟨b, off, e, hl, hc⟩ := h2 hp; exact ⟨b, off, e, Nat.lt_of_lt_of_le hl HB0.out.size, hc⟩⟩, ⟨A', m', c', ps, e', h1', hm, fun hp => by obtain ⟨b, off, e, hl, hc⟩ := h2' hp; exact ⟨b, off, e, Nat.lt_of_lt_of_le hl HB0.out.size, hc⟩, fun p hp => by obtain ⟨A, m, c, e, k1, k3, k2⟩ := h3 p hp; exact ⟨A, m, c, e, k1, k3, fun hp => by obtain ⟨b, off, e, hl, hc⟩ := k2 hp; exact ⟨b, off, e, Nat.lt_of_lt_of_le hl HB0.out.size, hc⟩⟩⟩⟩)).mono ?_
  rintro e w2 ⟨rfl, hB2⟩
  have HF2 := Lib.hid (HF0.out.up hB2)
  have hB2' := hB2.mono HB0.out.size
  have HA2 := Lib.hid (HA1.out.keep hB2')
  have HB2 := Lib.hid (HB0.out.trans hB2')
  clear hB2 hB2' HF0 HB0 HA1
  by_cases hz : wrongMd d = 0
  · have HZ := Lib.hid hz
    rw [hz]
    clear hz
    rw [← HTT.out]
    go_upto_region 5 with fail
    obtain ⟨g, hg⟩ : ∃ g, g = w2.heap.size := ⟨_, rfl⟩
    obtain ⟨w3, hw3⟩ : ∃ w3, w3 = w2.alloc (.cells #[.slice none 0 0] 71) := ⟨_, rfl⟩
    have HG3 := Lib.hid (show Blk w3 g 71 #[.slice none 0 0] by rw [hw3, hg]; exact Blk.new w2 _ _)
    have hb3 : Below w2.heap.size w2 w3 := by rw [hw3]; exact (Below.refl _ _).alloc (Nat.le_refl _) _
    have HF3 := Lib.hid (HF2.out.up hb3)
    have hb3' := hb3.mono HB2.out.size
    have HA3 := Lib.hid (HA2.out.keep hb3')
    have HB3 := Lib.hid (HB2.out.trans hb3')
    have HGE := Lib.hid (show w.heap.size ≤ g ∧ g ≠ gb by rw [hg]; exact ⟨HB2.out.size, fun e => by have := HF2.out.lt; omega⟩)
    rw [← hw3, ← hg]
    clear hw3 hg hb3 hb3' HF2 HA2 HB2
    go_wp2_with (refine wpList_load_all rfl 26 _ rfl gb rfl 26 2 T _ HF3.out Try.underlying26 rfl sizeDeed ?_)
    go_at_call 30
    rw [HTT.out]
    refine (deed_w w3 g w.heap.size w.heap.size vl vc d HG3.out ⟨HGE.out.1, Nat.le_refl _⟩ HB3.out.size (deed_good HZ.out).1 HA3.out).mono ?_
    rintro e w4 ⟨rfl, hW4, hT4⟩
    have HB4 := Lib.hid (HB3.out.trans hT4.below)
    obtain ⟨v, hv, hO⟩ := hW4.ex
    obtain ⟨A, c, rfl, hf⟩ := hO.form
    have HO := Lib.hid hO
    have k0 : w4.cell? ⟨g, 0, none⟩ = some (.slice A (deW (toDe d)).length c) := hv.cell 0
    clear hW4 hT4 hv hO hf HF3 HG3 HA3 HB3 HGE
    obtain ⟨n, hn⟩ : ∃ n, n = (deW (toDe d)).length := ⟨_, rfl⟩
    have HN := Lib.hid hn
    rw [← hn] at k0
    clear hn
    by_cases hl : 4194304 < n
    · have tl : decide ((4194304 : Int) < n) = true := decide_eq_true (by omega)
      have HE := Lib.hid (show encD d = 2 by unfold encD; rw [if_neg (by rw [HZ.out]; decide), if_pos (by rw [← HN.out]; exact hl)])
      clear hl
      go_wp2_with fail
      go_ret2
      exact ⟨HB4.out, .slice none 0 0, by rw [HE.out]; rfl, by rw [HE.out, if_neg (by decide)]⟩
    · have tl : decide ((4194304 : Int) < n) = false := decide_eq_false (by omega)
      have HE := Lib.hid (show encD d = 0 by unfold encD; rw [if_neg (by rw [HZ.out]; decide), if_neg (by rw [← HN.out]; exact hl)])
      clear hl
      go_wp2_with fail
      go_ret2
      exact ⟨HB4.out, .slice A n c, by rw [HE.out]; rfl, by rw [HE.out, if_pos rfl]; exact ⟨HZ.out, by rw [HN.out]; exact HO.out⟩⟩
  · have tz : (wrongMd d == 0) = false := by rw [beq_eq_false_iff_ne]; exact hz
    have HE := Lib.hid (show encD d = wrongMd d by unfold encD; rw [if_pos hz])
    have HZ := Lib.hid hz
    clear hz
    rw [← HTT.out]
    go_wp2_with fail
    go_ret2
    exact ⟨HB2.out, .slice none 0 0, by rw [HE.out]; rfl, by rw [HE.out, if_neg HZ.out]⟩
end Go.Proofs.Ytbomihdnnidelaa
