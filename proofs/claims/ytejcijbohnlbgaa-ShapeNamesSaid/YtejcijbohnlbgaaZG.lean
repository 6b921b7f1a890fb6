/- Contracts of package zone: changed, With. -/
import Derived.Test.YtejcijbohnlbgaaZF
namespace Go.Proofs.Ytejcijbohnlbgaa
open Go.ChangeShapes Go.WideShapes Go.ChangeAt Go.RowKit
open Zon
set_option linter.unusedVariables false
set_option maxRecDepth 100000
def zeroM : Tab := fun _ _ => 0
theorem built_empty : Try.prog.built 106 [(0, .bool true)] = some (arr 3601 (zc true zeroM)) := by kernel_rfl
/-- a zone in memory -/
def ZoneAt (w : World) (g : Nat) : Zn → Prop
  | some M => ZB w g false M ∧ OkT M
  | none => ZB w g true zeroM
theorem ZoneAt.up {w w' : World} {g : Nat} {z : Zn} (h : ZoneAt w g z) (hb : Below w.heap.size w w') : ZoneAt w' g z := by
  cases z with
  | none => exact ZB.up h hb
  | some M => exact ⟨ZB.up h.1 hb, h.2⟩
theorem ZoneAt.lt {w : World} {g : Nat} {z : Zn} (h : ZoneAt w g z) : g < w.heap.size := by
  cases z with
  | none => exact ZB.lt h
  | some M => exact ZB.lt h.1
theorem ZoneAt.ok {w : World} {g : Nat} {z : Zn} (h : ZoneAt w g z) : OkZ z := by
  cases z with
  | none => intro M e; cases e
  | some M => intro N e; injection e with e; exact e ▸ h.2
def Made (w : World) (z : Zn) (e : Ending) (w' : World) : Prop := ∃ g, e = .returned (.pointer (some ⟨g, 0, none⟩)) ∧ w.heap.size ≤ g ∧ ZoneAt w' g z ∧ Below w.heap.size w w'
theorem zc_one (e : Bool) (M : Tab) : ∀ k, k < 3601 → (zc e M k).oneCell' = true := fun k _ => by
  unfold zc tabC; split <;> rfl
set_option maxHeartbeats 2000000 in
theorem changed_any (w : World) (g K : Nat) (cap : Array Value) (z : Zn) (F : Tab → Zn) (hen : ∀ (a : Array Value) (W : World), (callFunc K a).run Try.prog W = .ok (.enter K a) W) (hz : ZoneAt w g z) (hF : ∀ M N, z = some M → F M = some N → OkT N)
    (hclo : ∀ M W g', z = some M → ZB W g' false M → w.heap.size ≤ g' → Below w.heap.size w W → Calls Try.prog K (#[.pointer (some ⟨g', 1, none⟩)] ++ cap) W (AddPost W g' (F M))) :
    Calls Try.prog 42 #[.pointer (some ⟨g, 0, none⟩), .func (.func K) #[] cap] w (Made w (z.bind F)) := by
  have HF := Lib.hid hF
  have HC := Lib.hid hclo
  clear hF hclo
  obtain ⟨eb, M0, hb⟩ : ∃ eb M0, ZB w g eb M0 := by cases z with | none => exact ⟨_, _, hz⟩ | some M => exact ⟨_, _, hz.1⟩
  have HZ := Lib.hid hz
  have HB := Lib.hid hb
  clear hz hb
  cases z with
  | none =>
    have HZ0 := Lib.hid (show ZB w g true zeroM from HZ.out)
    go_enter Try.func42, Try.ntmps42
    go_upto_region 2 with (first
      | (refine wpList_load_all rfl 106 _ rfl g rfl 106 3601 (zc true zeroM) _ HZ0.out Try.underlying106 rfl sizeZone ?_)
      | (refine wpList_alloc_seg rfl 106 rfl 3601 zr zeroZone ?_; intro w2 hb2 hB2 hs2)
      | (refine wpList_store_all rfl 106 _ _ rfl w.heap.size 106 3601 _ (zc true zeroM) rfl rfl hb2 sizeZone (zc_one _ _) ?_; intro w3 hb3 hT3 hs3))
    have hx := ZB.head (show ZB w3 w.heap.size true zeroM from hb3)
    have HB3 := Lib.hid (Touch.new hT3 hB2)
    have Hb3 := Lib.hid hb3
    clear hb3 hT3 hs3 hB2 hs2 hb2
    go_wp2_with fail
    go_ret
    exact ⟨_, rfl, Nat.le_refl _, Hb3.out, HB3.out⟩
  | some M =>
    have HZ0 := Lib.hid (show ZB w g false M from HZ.out.1)
    have HOK := Lib.hid HZ.out.2
    go_enter Try.func42, Try.ntmps42
    go_upto_region 2 with (first
      | (refine wpList_load_all rfl 106 _ rfl g rfl 106 3601 (zc false M) _ HZ0.out Try.underlying106 rfl sizeZone ?_)
      | (refine wpList_alloc_seg rfl 106 rfl 3601 zr zeroZone ?_; intro w2 hb2 hB2 hs2)
      | (refine wpList_store_all rfl 106 _ _ rfl w.heap.size 106 3601 _ (zc false M) rfl rfl hb2 sizeZone (zc_one _ _) ?_; intro w3 hb3 hT3 hs3))
    have hx := ZB.head (show ZB w3 w.heap.size false M from hb3)
    have HB3 := Lib.hid (Touch.new hT3 hB2)
    have Hb3 := Lib.hid hb3
    have HS3 := Lib.hid (show w3.heap.size = w.heap.size + 1 by rw [hs3, hs2])
    have HCC := Lib.hid (HC.out M w3 w.heap.size rfl hb3 (Nat.le_refl _) HB3.out)
    clear hb3 hT3 hs3 hB2 hs2 hb2 HC
    obtain ⟨gn, hgn⟩ : ∃ x, x = w.heap.size := ⟨_, rfl⟩
    rw [← hgn] at hx HCC Hb3 ⊢
    have HG := Lib.hid hgn
    clear hgn
    go_wp2_with fail
    refine HCC.out.mono ?_
    rintro e w4 ⟨hT4, h4⟩
    have HB4 := Lib.hid (HB3.out.trans (hT4.below (by rw [HG.out]; exact Nat.le_refl _) HB3.out.size))
    clear hT4 HCC
    rcases h4 with ⟨N', hz', rfl, hB'⟩ | ⟨hz', rfl, N', hB'⟩
    · have HB' := Lib.hid hB'
      have HZ' := Lib.hid hz'
      have HOK' := Lib.hid (HF.out M N' rfl hz')
      clear hB' hz'
      go_wp2_with fail
      go_ret
      refine ⟨gn, rfl, by rw [HG.out]; exact Nat.le_refl _, ?_, HB4.out⟩
      show ZoneAt w4 gn (F M)
      rw [HZ'.out]
      exact ⟨HB'.out, HOK'.out⟩
    · have HB' := Lib.hid hB'
      have HZ' := Lib.hid hz'
      clear hB' hz'
      go_wp2_with (first
        | (refine wpList_build_one rfl 106 0 _ rfl (.bool true) _ rfl built_empty ?_)
        | (refine wpList_store_all rfl 106 _ _ rfl gn 106 3601 _ (zc true zeroM) rfl rfl HB'.out sizeZone (zc_one _ _) ?_; intro w5 hb5 hT5 hs5))
      go_ret
      refine ⟨gn, rfl, by rw [HG.out]; exact Nat.le_refl _, ?_, HB4.out.trans (hT5.below (by rw [HG.out]; exact Nat.le_refl _) HB4.out.size)⟩
      show ZoneAt w5 gn (F M)
      rw [HZ'.out]
      exact hb5
theorem withZ_bind (z : Zn) (L : List Con) : (z.bind fun M => withZ (some M) L) = withZ z L := by
  cases z with
  | none => exact (withZ_none L).symm
  | some M => rfl
def MadeE (w : World) (E : Int) (z : Zn) (e : Ending) (w' : World) : Prop :=
  (E = 0 ∧ ∃ g, e = .returned (.tuple #[.pointer (some ⟨g, 0, none⟩), .int .i64 0]) ∧ w.heap.size ≤ g ∧ ZoneAt w' g z ∧ Below w.heap.size w w') ∨
  (E ≠ 0 ∧ e = .returned (.tuple #[.pointer none, .int .i64 E]) ∧ Below w.heap.size w w')
theorem wrongL_zero {L : List Con} (h : wrongL L = 0) : ∀ x ∈ L, wrong1 x = 0 := by
  induction L with
  | nil => intro x hx; cases hx
  | cons y L ih =>
    intro x hx
    have h' : (if wrong1 y = 0 then wrongL L else wrong1 y) = 0 := h
    by_cases e : wrong1 y = 0
    · rw [if_pos e] at h'
      rcases List.mem_cons.mp hx with rfl | hx
      · exact e
      · exact ih h' x hx
    · rw [if_neg e] at h'; exact absurd h' e
theorem Far.of_lt {w : World} {A : Option Addr} {L : List Con} {g : Nat} (h : ConsAt w A L) (hg : w.heap.size ≤ g) (hp : 0 < L.length) : Far A g := fun b off e => by
  obtain ⟨b', off', e', hl, _⟩ := h hp
  rw [e] at e'
  injection e' with e'
  injection e' with e1
  omega
set_option maxHeartbeats 1000000 in
theorem With_any (w : World) (g : Nat) (z : Zn) (A : Option Addr) (n c : Nat) (L : List Con) (hz : ZoneAt w g z) (hL : L.length = n) (hn : n ≤ 4000000000000000000) (h : ConsAt w A L) :
    Calls Try.prog 9 #[.pointer (some ⟨g, 0, none⟩), .slice A n c] w (MadeE w (wrongL L) (withZ z L)) := by
  have HW := Lib.hid (fun W (hW : Below w.heap.size w W) => wrong_any W A n c L hL hn (h.below hW))
  have HZ := Lib.hid hz
  have HL := Lib.hid hL
  have HA := Lib.hid h
  clear hz hL h
  go_enter Try.func9, Try.ntmps9
  go_wp2_with fail
  go_at_call 41
  refine (HW.out _ (below_box w _)).mono ?_
  rintro e w2 ⟨rfl, hB2⟩
  have hx : w2.cell? ⟨w.heap.size, 0, none⟩ = some (.slice A n c) := by
    rw [hB2.cell (p := ⟨w.heap.size, 0, none⟩) (by simp)]; simp [go_sem]
  have HX := Lib.hid hx
  have HB2 := Lib.hid ((below_box w _).trans (hB2.mono (by simp)))
  clear hB2 HW
  by_cases h0 : wrongL L = 0
  · have t : (wrongL L == 0) = true := by rw [h0]; rfl
    have t' : (wrongL L != 0) = false := by rw [h0]; rfl
    have H0 := Lib.hid h0
    have HO := Lib.hid (wrongL_zero h0)
    generalize wrongL L = E at *
    clear h0
    go_wp2_with fail
    go_at_call 42
    refine (changed_any w2 g 43 #[.pointer (some ⟨w.heap.size, 0, none⟩)] z (fun M => withZ (some M) L) (fun _ _ => by kernel_rfl) (HZ.out.up HB2.out) (fun M N hM hN => ?_) (fun M W g' hM hW hg' hBW => ?_)).mono ?_
    · exact okZ_with (z := some M) (by rw [← hM]; exact HZ.out.ok) L N hN
    · have hA := (HA.out.below HB2.out).below hBW
      have hcell : W.cell? ⟨w.heap.size, 0, none⟩ = some (.slice A n c) := by
        rw [hBW.cell (p := ⟨w.heap.size, 0, none⟩) (by rcases Nat.lt_or_ge w.heap.size w2.heap.size with h | h; exact h; exact absurd HX.out (by simp [World.cell?, Array.getElem?_eq_none h]))]; exact HX.out
      have hOK : OkT M := HZ.out.ok M hM
      exact withClo_any W g' w.heap.size M A n c L hW hOK HL.out hn hA (Far.of_lt (HA.out.below HB2.out) hg') HO.out hcell
    rintro e w3 ⟨g', rfl, hg', hz', hB3⟩
    rw [withZ_bind] at hz'
    have HZ' := Lib.hid hz'
    have HB3 := Lib.hid (HB2.out.trans (hB3.mono HB2.out.size))
    have HG' := Lib.hid (Nat.le_trans HB2.out.size hg')
    clear hz' hB3 hg'
    go_wp2_with fail
    go_ret2
    exact .inl ⟨H0.out, g', rfl, HG'.out, HZ'.out, HB3.out⟩
  · have t : (wrongL L == 0) = false := by rw [beq_eq_false_iff_ne]; exact h0
    have t' : (wrongL L != 0) = true := by rw [bne_iff_ne]; exact h0
    have H0 := Lib.hid h0
    generalize wrongL L = E at *
    clear h0
    go_wp2_with fail
    go_ret2
    exact .inr ⟨H0.out, rfl, HB2.out⟩
end Go.Proofs.Ytejcijbohnlbgaa
