/- Package mach: copies of lists; output, Run. -/
import Derived.Test.YtpigkppnelnhiaaGreatMcT
import Derived.ScopeJumps
import Derived.WalkMore
import Derived.Lib.SliceRun
namespace Go.Proofs.YtpigkppnelnhiaaGreat
open Go.ChangeShapes Go.WideShapes Go.ChangeAt Go.RowKit
open Bits
set_option linter.unusedVariables false
set_option linter.unusedSimpArgs false
set_option maxRecDepth 100000
theorem cloneB_v (w : World) (A : Option Addr) (n c : Nat) (L : List Int) (hL : L.length = n) (hlen : n ≤ 1099511627776) (h : BytesAt w A L) (hn : A = none → c = 0 ∧ n = 0) :
    Calls Tryz.prog 30 #[.slice A n c] w fun x w' => ∃ v, x = .returned v ∧ OwnB w' w.heap.size v L ∧ Below w.heap.size w w' := by
  cases A with
  | none =>
    obtain ⟨rfl, rfl⟩ := hn rfl
    obtain rfl : L = [] := List.eq_nil_of_length_eq_zero hL
    have hq : (binOp .eql 22 (.slice none 0 0) (.slice none 0 0)).run Tryz.prog w = .ok (.bool true) w := by kernel_rfl
    go_enter Tryz.func30, Tryz.ntmps30
    go_wp2_with fail
    go_ret
    exact ⟨_, rfl, OwnB.nil _ _, Below.refl _ _⟩
  | some ad =>
    have hq : (binOp .eql 22 (.slice (some ad) n c) (.slice none 0 0)).run Tryz.prog w = .ok (.bool false) w := Lib.run_eql_slice_nil w _ _ _ _ _ _ _ Tryz.underlying22
    have hown : OwnB (w.alloc (.cells #[] 5)) w.heap.size (.slice (some ⟨w.heap.size, 0, none⟩) 0 0) [] := World.ownsRow_lit w #[] 0 (Nat.le_refl _) (by decide) rfl
    have hB := box1 w (.cells #[] 5)
    have hat := h.below hB
    have hs : w.heap.size ≤ (w.alloc (.cells #[] 5)).heap.size := by simp
    have HOwn := Lib.hid hown
    have HAt := Lib.hid hat
    clear hown h hat
    go_enter Tryz.func30, Tryz.ntmps30
    go_upto_region 3 with (fail)
    go_wp2_with (at_builtin; (refine append_bytes Tryz.underlying22 byte_info _ rfl (.tmp 5) (.tmp 6) rfl w.heap.size _ _ rfl HOwn.out _ n c _ rfl hL HAt.out (by simp; omega) hs ?_; intro v' w' hown' hB'))
    go_ret
    exact ⟨v', rfl, hown', hB.trans (hB'.mono (Nat.le_refl _))⟩
theorem IntsAt.below {w w' : World} {A : Option Addr} {L : List Int} (h : IntsAt w A L) (hb : Below w.heap.size w w') : IntsAt w' A L := fun hp => by
  obtain ⟨b, off, rfl, hlt, hc⟩ := h hp
  exact ⟨b, off, rfl, Nat.lt_of_lt_of_le hlt hb.size, fun i hi => (hb.cell (p := ⟨b, off + i, none⟩) hlt).trans (hc i hi)⟩
theorem cloneI_v (w : World) (A : Option Addr) (n c : Nat) (L : List Int) (hL : L.length = n) (hlen : n ≤ 109951162777) (h : IntsAt w A L) (hn : A = none → c = 0 ∧ n = 0) :
    Calls Tryz.prog 32 #[.slice A n c] w fun x w' => ∃ v, x = .returned v ∧ OwnI w' w.heap.size v L ∧ Below w.heap.size w w' := by
  cases A with
  | none =>
    obtain ⟨rfl, rfl⟩ := hn rfl
    obtain rfl : L = [] := List.eq_nil_of_length_eq_zero hL
    have hq : (binOp .eql 37 (.slice none 0 0) (.slice none 0 0)).run Tryz.prog w = .ok (.bool true) w := by kernel_rfl
    go_enter Tryz.func32, Tryz.ntmps32
    go_wp2_with fail
    go_ret
    exact ⟨_, rfl, OwnI.nil _ _, Below.refl _ _⟩
  | some ad =>
    have hq : (binOp .eql 37 (.slice (some ad) n c) (.slice none 0 0)).run Tryz.prog w = .ok (.bool false) w := Lib.run_eql_slice_nil w _ _ _ _ _ _ _ Tryz.underlying37
    have hown : OwnI (w.alloc (.cells #[] 3)) w.heap.size (.slice (some ⟨w.heap.size, 0, none⟩) 0 0) [] := World.ownsRow_lit w #[] 0 (Nat.le_refl _) (by decide) rfl
    have hB := box1 w (.cells #[] 3)
    have hat := h.below hB
    have hs : w.heap.size ≤ (w.alloc (.cells #[] 3)).heap.size := by simp
    have HOwn := Lib.hid hown
    have HAt := Lib.hid hat
    clear hown h hat
    go_enter Tryz.func32, Tryz.ntmps32
    go_upto_region 3 with (fail)
    go_wp2_with (at_builtin; (refine append_ints Tryz.underlying37 int_info _ rfl (.tmp 5) (.tmp 6) rfl w.heap.size _ _ rfl HOwn.out _ n c _ rfl hL HAt.out (by simp; omega) hs ?_; intro v' w' hown' hB'))
    go_ret
    exact ⟨v', rfl, hown', hB.trans (hB'.mono (Nat.le_refl _))⟩
theorem cloneRows_v (w : World) : Calls Tryz.prog 51 #[.slice none 0 0] w fun x w' => x = .returned (.slice none 0 0) ∧ w = w' := by
  have hq : (binOp .eql 27 (.slice none 0 0) (.slice none 0 0)).run Tryz.prog w = .ok (.bool true) w := by kernel_rfl
  go_enter Tryz.func51, Tryz.ntmps51
  go_wp2_with fail
  go_ret
  exact ⟨rfl, rfl⟩
theorem clones_v (w : World) : Calls Tryz.prog 31 #[.slice none 0 0] w fun x w' => x = .returned (.slice none 0 0) ∧ w = w' := by
  go_enter Tryz.func31, Tryz.ntmps31
  go_wp2_with (go_at_call 51; refine (cloneRows_v _).mono ?_; rintro e w' ⟨rfl, rfl⟩)
  go_loopw [8] (fun i wr => i = .int .i64 0 ∧ wr = w) (fun _ _ => 0)
  case atStart => exact ⟨rfl, rfl⟩
  case round =>
    obtain ⟨rfl, rfl⟩ := hrel
    go_wp2_with fail
    go_ret
    exact ⟨rfl, rfl⟩
theorem own_ref {w : World} {base : Nat} {e : TypeId} {size n : Nat} {A : Option Addr} {m c : Nat} {xs : List Value} (h : w.ownsRow base e size (.slice A m c) n xs) : A = none → c = 0 ∧ m = 0 := by
  rintro rfl
  rcases h.2 with ⟨h1, h2⟩ | ⟨b, cap, cur, e1, _⟩
  · injection h1 with _ h3 h4
    exact ⟨h4, h3⟩
  · injection e1 with e1
    cases e1
theorem ownB_at {w : World} {base : Nat} {A : Option Addr} {n c : Nat} {L : List Int} (h : OwnB w base (.slice A n c) L) : BytesAt w A L := by
  obtain ⟨A', c', e, h'⟩ := h.form
  injection e with e1
  rw [e1]; exact h'
theorem ownI_at {w : World} {base : Nat} {A : Option Addr} {n c : Nat} {L : List Int} (h : OwnI w base (.slice A n c) L) : IntsAt w A L := by
  obtain ⟨A', c', e, h'⟩ := h.form
  injection e with e1
  rw [e1]; exact h'
theorem own_mono {w : World} {base b' : Nat} {e : TypeId} {size n : Nat} {v : Value} {xs : List Value} (h : w.ownsRow base e size v n xs) (hb : b' ≤ base) : w.ownsRow b' e size v n xs := by
  obtain ⟨h1, h2⟩ := h
  refine ⟨h1, ?_⟩
  rcases h2 with h2 | ⟨b, cap, cur, e1, hg, h3⟩
  · exact .inl h2
  · exact .inr ⟨b, cap, cur, e1, Nat.le_trans hb hg, h3⟩
/-- what the output of a run that has ended is -/
structure OutAt (w : World) (base : Nat) (S : St) (v : Value) : Prop where
  ex : ∃ vc vn, v = .agg #[.int .i64 (S.regs 0).x, vc, .slice none 0 0, vn] ∧ OwnB w base vc S.ctx ∧ OwnI w base vn S.sent
set_option maxHeartbeats 4000000 in
theorem output_v {w : World} {base g : Nat} {P : Pg} {S : St} {vc vk vg vn : Value} (h : Mem w base g P S vc vk vg vn) (hcl : S.ctx.length ≤ 1048576) (hsl : S.sent.length ≤ 1048576) :
    Calls Tryz.prog 29 #[.pointer (some ⟨g, 0, none⟩)] w fun e w' => ∃ v, e = .returned v ∧ OutAt w' w.heap.size S v ∧ Below w.heap.size w w' := by
  obtain ⟨A, cA, rfl, hA⟩ := h.ctx.form
  obtain ⟨B, cB, rfl, hBt⟩ := h.sent.form
  have hrA := own_ref h.ctx
  have hrB := own_ref h.sent
  have hM1 := (h.alloc (.cells #[.int .i64 0, .slice none 0 0, .slice none 0 0, .slice none 0 0] 39)).drw
  have hO1 := Blk.new w 39 #[.int .i64 0, .slice none 0 0, .slice none 0 0, .slice none 0 0]
  have hB1 := bdrw (box1 w (.cells #[.int .i64 0, .slice none 0 0, .slice none 0 0, .slice none 0 0] 39))
  have hgl := h.fb.lt
  clear h hA hBt
  go_enter Tryz.func29, Tryz.ntmps29
  go_upto_region 1 with (fail)
  generalize (w.alloc (.cells #[.int .i64 0, .slice none 0 0, .slice none 0 0, .slice none 0 0] 39)) = w1 at *
  have HCB := Lib.hid (fun w' (h : Mem w' base g P S (.slice A S.ctx.length cA) vk vg (.slice B S.sent.length cB)) => cloneB_v w' A _ cA S.ctx rfl (by omega) (ownB_at h.ctx) hrA)
  have HCI := Lib.hid (fun w' (h : Mem w' base g P S (.slice A S.ctx.length cA) vk vg (.slice B S.sent.length cB)) => cloneI_v w' B _ cB S.sent rfl (by omega) (ownI_at h.sent) hrB)
  have HK : ∀ w', FB w' g 72 470 (mC S (.slice A S.ctx.length cA) vk vg (.slice B S.sent.length cB)) → w'.cell? ⟨g, 425, none⟩ = some (.int .i64 (S.regs 0).x) ∧ w'.cell? ⟨g, 416, none⟩ = some (.slice A S.ctx.length cA) ∧ w'.cell? ⟨g, 418, none⟩ = some (.slice none 0 0) ∧ w'.cell? ⟨g, 466, none⟩ = some (.slice B S.sent.length cB) := fun w' h =>
    ⟨h.cell 425 (by decide), h.cell 416 (by decide), h.cell 418 (by decide), h.cell 466 (by decide)⟩
  have hne : g ≠ w.heap.size := by omega
  have HKK := Lib.hid HK
  have HM1 := Lib.hid hM1
  have HO1 := Lib.hid hO1
  have HB1 := Lib.hid hB1
  clear hM1 hO1 hB1 HK hrA hrB hcl hsl
  go_region_held3 (fun w' => w'.cell? ⟨g, 425, none⟩ = some (.int .i64 (S.regs 0).x) ∧ w'.cell? ⟨g, 416, none⟩ = some (.slice A S.ctx.length cA) ∧ w'.cell? ⟨g, 418, none⟩ = some (.slice none 0 0) ∧ w'.cell? ⟨g, 466, none⟩ = some (.slice B S.sent.length cB))
    (first | with_reducible exact HKK.out _ HM1.out.fb | with_reducible exact HKK.out _ (HM1.out.up hB2).fb | with_reducible exact HKK.out _ ((HM1.out.up hB2).up hB3).fb | with_reducible exact HKK.out _ (((HM1.out.up hB2).up hB3).fb.touch (Touch.set4 _ _ _ _ _ _ _ _ _) hne) | fail)
    (first | (go_at_call 30; refine (HCB.out _ HM1.out).mono ?_; rintro e y2 ⟨va, rfl, hva, hB2⟩; obtain ⟨A2, c2, rfl⟩ := owns_slice hva) | (go_at_call 31; refine (clones_v _).mono ?_; rintro e y9 ⟨rfl, rfl⟩) | (go_at_call 32; refine (HCI.out _ (HM1.out.up hB2)).mono ?_; rintro e y3 ⟨vb, rfl, hvb, hB3⟩; obtain ⟨A3, c3, rfl⟩ := owns_slice hvb; have hO3 := (HO1.out.drew.up hB2).up hB3; obtain ⟨⟨b0, b1, b2, b3⟩, f0, f1, f2, f3⟩ := hO3.four))
  go_wp2_with fail
  refine bodyPost_ret (results_cell_row Tryz.results29 _ _ w.heap.size 39 #[.int .i64 (S.regs 0).x, .slice A2 S.ctx.length c2, .slice none 0 0, .slice A3 S.sent.length c3] (0, 0) _ rfl (hO3.set4 _ _ _ _) Tryz.underlying39 rfl (by kernel_rfl)) rfl ⟨_, rfl, ⟨_, _, rfl, ?_, ?_⟩, ?_⟩
  · have hE : Touch w.heap.size y3 _ := Touch.set4 y3 0 1 2 3 (.int .i64 (S.regs 0).x) (.slice A2 S.ctx.length c2) (.slice none 0 0) (.slice A3 S.sent.length c3)
    exact own_mono (owns_touch (owns_up hva hB3) hE (owns_ne (owns_up hva hB3) hO3 (by decide))) HB1.out.size
  · have hE : Touch w.heap.size y3 _ := Touch.set4 y3 0 1 2 3 (.int .i64 (S.regs 0).x) (.slice A2 S.ctx.length c2) (.slice none 0 0) (.slice A3 S.sent.length c3)
    exact own_mono (owns_touch hvb hE (owns_ne hvb hO3 (by decide))) (Nat.le_trans HB1.out.size hB2.size)
  · exact bset4 (HB1.out.trans ((hB2.mono HB1.out.size).trans (hB3.mono (Nat.le_trans HB1.out.size hB2.size)))) (Nat.le_refl _) _ _ _ _
end Go.Proofs.YtpigkppnelnhiaaGreat
