/- Contract of package zone's Put, of bounds that are not wrong; sixty bounds that a law makes. -/
import Derived.Test.YtejcijbohnlbgaaZPut
import Derived.Test.YtejcijbohnlbgaaZAs
namespace Go.Proofs.Ytejcijbohnlbgaa
open Go.ChangeShapes Go.WideShapes Go.ChangeAt Go.RowKit
open Zon
set_option linter.unusedVariables false
set_option maxRecDepth 100000
set_option maxHeartbeats 1000000 in
theorem putClo_any (w : World) (g bx ga gb x : Nat) (M : Tab) (u d : Nat → Int) (hz : ZB w g false M) (hM : OkT M) (hx : x < 60) (ho : PutOk x u d) (hu : FB w ga 101 60 (fun q => .int .i64 (u q))) (hd : FB w gb 101 60 (fun q => .int .i64 (d q))) (nag : ga ≠ g) (nbg : gb ≠ g)
    (hbx : w.cell? ⟨bx, 0, none⟩ = some (.int .i64 x)) :
    Calls Try.prog 56 #[.pointer (some ⟨g, 1, none⟩), .pointer (some ⟨bx, 0, none⟩), .pointer (some ⟨ga, 0, none⟩), .pointer (some ⟨gb, 0, none⟩)] w (AddPost w g (putZ (some M) x u d)) := by
  have HC := Lib.hid (put_any w g x ga gb M u d hz hM hx ho hu hd nag nbg)
  clear hz hM ho hu hd
  go_enter Try.func56, Try.ntmps56
  go_wp2_with fail
  go_at_call 57
  refine HC.out.mono ?_
  rintro e w' ⟨hT, h⟩
  rcases h with ⟨N, h1, rfl, h2⟩ | ⟨h1, rfl, N, h2⟩
  · have H1 := Lib.hid h1
    have H2 := Lib.hid h2
    have HT := Lib.hid hT
    clear h1 h2 hT HC
    go_wp2_with fail
    go_ret
    exact addPost_yes HT.out H1.out H2.out
  · have H1 := Lib.hid h1
    have H2 := Lib.hid h2
    have HT := Lib.hid hT
    clear h1 h2 hT HC
    go_wp2_with fail
    go_ret
    exact addPost_no HT.out H1.out H2.out
set_option maxHeartbeats 2000000 in
theorem Put_law (w : World) (g x gu gd : Nat) (z : Zn) (u d : Nat → Bool × Int) (hz : ZoneAt w g z) (hx : x < 60) (hx1 : 1 ≤ x) (hu : BvAt w gu u) (hd : BvAt w gd d) (hru : ∀ q, q < 60 → q ≠ x → (u q).1 = true → rngB (u q).2 = true) (hrd : ∀ q, q < 60 → q ≠ x → (d q).1 = true → rngB (d q).2 = true) (ho : PutOk x (othR x u) (othR x d)) :
    Calls Try.prog 18 #[.pointer (some ⟨g, 0, none⟩), .int .i64 x, .slice (some ⟨gu, 0, none⟩) 60 60, .slice (some ⟨gd, 0, none⟩) 60 60] w fun e w' => ∃ g', e = .returned (.tuple #[.pointer (some ⟨g', 0, none⟩), .int .i64 0]) ∧ ZoneAt w' g' (putZ z x (othR x u) (othR x d)) ∧ Below w.heap.size w w' := by
  have HZ := Lib.hid hz
  have HU := Lib.hid hu
  have HD := Lib.hid hd
  have HRU := Lib.hid hru
  have HRD := Lib.hid hrd
  have HO := Lib.hid ho
  have HX := Lib.hid hx
  have r1 : renewB x = true := by unfold renewB; simp; omega
  obtain ⟨w1, hw1⟩ : ∃ w1, w1 = w.alloc (.cells #[.int .i64 x] 3) := ⟨_, rfl⟩
  have k1 : w1.cell? ⟨w.heap.size, 0, none⟩ = some (.int .i64 x) := by rw [hw1]; simp [go_sem]
  have HK1 := Lib.hid k1
  have HB1 := Lib.hid (show Below w.heap.size w w1 by rw [hw1]; exact below_box w _)
  have HS1 := Lib.hid (show w.heap.size < w1.heap.size by rw [hw1]; simp)
  have HW1 := Lib.hid hw1
  clear hz hu hd hru hrd ho hx hx1 k1 hw1
  go_enter Try.func18, Try.ntmps18
  go_upto_region 1 with (fail)
  rw [← HW1.out]
  obtain ⟨bx, hbx⟩ : ∃ bx, bx = w.heap.size := ⟨_, rfl⟩
  rw [← hbx] at HK1 HS1 ⊢
  have HBX := Lib.hid hbx
  have v0 := HK1.out
  clear hbx HW1
  go_upto_region 5 with (go_at_call 49; refine (renewable_any _ _).mono ?_; rintro e w' ⟨rfl, rfl⟩)
  clear r1
  go_wp2_with fail
  go_at_call 55
  refine (others_any w1 x gu u HX.out (HU.out.up HB1.out) HRU.out).mono ?_
  rintro e w2 ⟨rfl, hB2⟩
  obtain ⟨Ru, hRu⟩ : ∃ R, R = othR x u := ⟨_, rfl⟩
  obtain ⟨Rd, hRd⟩ : ∃ R, R = othR x d := ⟨_, rfl⟩
  rw [← hRu, ← hRd] at HO
  rw [← hRu]
  have HRu := Lib.hid hRu
  have HRd := Lib.hid hRd
  clear hRu hRd v0
  go_upto_region 6 with (
    refine wpList_alloc_seg rfl 101 rfl 60 (fun _ => .int .i64 0) zeroRow ?_
    intro w3 hb3 hB3 hs3
    obtain ⟨ga, hga⟩ : ∃ ga, ga = w2.heap.size := ⟨_, rfl⟩
    rw [← hga] at hb3 ⊢
    have HGA := Lib.hid (show w1.heap.size ≤ ga by have := hB2.size; omega)
    have HB3 := Lib.hid (hB2.trans (hB3.mono hB2.size))
    clear hga hs3 hB3 hB2
    refine wpList_store_all rfl 101 _ _ rfl ga 101 60 _ (fun q => .int .i64 (Ru q)) rfl rfl hb3 sizeRow (fun _ _ => rfl) ?_
    intro w4 hb4 hT4 hs4
    have HUa := Lib.hid hb4
    have HB4 := Lib.hid (HB3.out.trans (hT4.below HGA.out HB3.out.size))
    clear hb3 hb4 hT4 hs4 HB3)
  have v0 : w4.cell? ⟨bx, 0, none⟩ = some (.int .i64 x) := (HB4.out.cell (p := ⟨bx, 0, none⟩) HS1.out).trans HK1.out
  have HB14 := Lib.hid (HB1.out.trans (HB4.out.mono HB1.out.size))
  go_upto_region 8 with (fail)
  go_wp2_with fail
  go_at_call 55
  refine (others_any w4 x gd d HX.out (HD.out.up HB14.out) HRD.out).mono ?_
  rintro e w5 ⟨rfl, hB5⟩
  rw [← HRd.out]
  clear v0
  go_upto_region 9 with (
    refine wpList_alloc_seg rfl 101 rfl 60 (fun _ => .int .i64 0) zeroRow ?_
    intro w6 hb6 hB6 hs6
    obtain ⟨gb, hgb⟩ : ∃ gb, gb = w5.heap.size := ⟨_, rfl⟩
    rw [← hgb] at hb6 ⊢
    have HGB := Lib.hid (show w4.heap.size ≤ gb by have := hB5.size; omega)
    have HB6 := Lib.hid (hB5.trans (hB6.mono hB5.size))
    clear hgb hs6 hB6 hB5
    refine wpList_store_all rfl 101 _ _ rfl gb 101 60 _ (fun q => .int .i64 (Rd q)) rfl rfl hb6 sizeRow (fun _ _ => rfl) ?_
    intro w7 hb7 hT7 hs7
    have HDb := Lib.hid hb7
    have HB7 := Lib.hid (HB6.out.trans (hT7.below HGB.out HB6.out.size))
    clear hb6 hb7 hT7 hs7 HB6)
  have HUa7 := Lib.hid (FB.up HUa.out HB7.out)
  have HK7 := Lib.hid (show w7.cell? ⟨bx, 0, none⟩ = some (.int .i64 x) from (HB7.out.cell (p := ⟨bx, 0, none⟩) (show bx < w4.heap.size by have := HS1.out; have := HB4.out.size; omega)).trans ((HB4.out.cell (p := ⟨bx, 0, none⟩) HS1.out).trans HK1.out))
  have HB17 := Lib.hid (HB14.out.trans (HB7.out.mono HB14.out.size))
  have HS7 := Lib.hid (show bx < w7.heap.size by have := HS1.out; have := HB4.out.size; have := HB7.out.size; omega)
  clear HUa HB14 HB7 HB4 HK1 HS1 HU HD
  go_wp2_with fail
  go_at_call 42
  refine (changed_any w7 g 56 #[.pointer (some ⟨bx, 0, none⟩), .pointer (some ⟨ga, 0, none⟩), .pointer (some ⟨gb, 0, none⟩)] z (fun M => putZ (some M) x Ru Rd) (fun _ _ => by kernel_rfl) (HZ.out.up HB17.out) (fun M N hM hN => ?_) (fun M W g' hM hW hg' hBW => ?_)).mono ?_
  · have hN : (if negT (putT M x Ru Rd) then none else some (putT M x Ru Rd)) = some N := hN
    split at hN
    · cases hN
    · injection hN with e; subst e; exact okT_put (HZ.out.ok M hM) x Ru Rd
  · have d1 : W.cell? ⟨bx, 0, none⟩ = some (.int .i64 x) := (hBW.cell (p := ⟨bx, 0, none⟩) HS7.out).trans HK7.out
    have hla := HUa7.out.lt
    have hlb := HDb.out.lt
    exact putClo_any W g' bx ga gb x M Ru Rd hW (HZ.out.ok M hM) HX.out HO.out (FB.up HUa7.out hBW) (FB.up HDb.out hBW) (by omega) (by omega) d1
  rintro e w8 ⟨g', rfl, hg', hz', hB8⟩
  have HZ' := Lib.hid (show ZoneAt w8 g' (putZ z x (othR x u) (othR x d)) by rw [← HRu.out, ← HRd.out]; cases z <;> exact hz')
  have HB8 := Lib.hid (HB17.out.trans (hB8.mono HB17.out.size))
  clear hz' hB8 hg'
  go_wp2_with fail
  go_ret2
  exact ⟨g', rfl, HZ'.out, HB8.out⟩
theorem two_arr (p q : Value) : (#[p, q] : Array Value) = arr 2 (fun k => if k = 0 then p else q) := rfl
theorem make60v (w : World) : (Instr.makeSlice 50 (.int .i64 60) (.int .i64 60)).run Try.prog w = .ok (.slice (some ⟨w.heap.size, 0, none⟩) 60 60) (w.alloc (.cells (arr 120 (bvF fun _ => (false, 0))) 77)) := by kernel_rfl
theorem wpList_make60v {ops : Array Oper} {rest : List Oper} {o : Oper} {a : Act} {w : World} {Q : Exit → Act → World → Prop} (hgd : o.guard = none) (x y : Operand) (ho : o.op = .makeSlice 50 x y)
    (hx : a.eval x = .int .i64 60) (hy : a.eval y = .int .i64 60)
    (h : ∀ w', BvAt w' w.heap.size (fun _ => (false, 0)) → Below w.heap.size w w' → w'.heap.size = w.heap.size + 1 → wpList Try.prog ops Q rest (a.put o.dst (vecV w.heap.size)) w') : wpList Try.prog ops Q (o :: rest) a w :=
  wpList_plain hgd fun _ hK => by
    unfold Oper.wp execOp
    simp only [ho, hx, hy, Sem.run_bind, make60v w, Result.andThen_ok, Sem.run_pure]
    exact hK _ _ (h _ (FB.new w _ 120 _) ((Below.refl _ _).alloc (Nat.le_refl _) _) (by simp))
def updB (b : Nat → Bool × Int) (x : Nat) (v : Bool × Int) : Nat → Bool × Int := fun q => if q = x then v else b q
theorem BvAt.congr {w : World} {g : Nat} {a b : Nat → Bool × Int} (h : BvAt w g a) (e : ∀ q, q < 60 → a q = b q) : BvAt w g b := FB.congr h fun k hk => by unfold bvF; rw [e _ (by omega)]
/-- one bound of them written -/
theorem bv_put {b : Nat → Bool × Int} {x : Nat} {p : Bool} {c : Int} (k : Nat) : updR (bvF b) (x * 2) 2 (fun q => if q = 0 then .bool p else .int .i64 c) k = bvF (updB b x (p, c)) k := by
  unfold updR bvF updB
  by_cases h : x * 2 ≤ k ∧ k < x * 2 + 2
  · rw [if_pos h, show k / 2 = x by omega, if_pos rfl]
    by_cases e : k = x * 2
    · rw [if_pos (show k % 2 = 0 by omega)]
      show (if k - x * 2 = 0 then Value.bool p else Value.int IntKind.i64 c) = Value.bool p
      rw [if_pos (by omega)]
    · rw [if_neg (show ¬ k % 2 = 0 by omega)]
      show (if k - x * 2 = 0 then Value.bool p else Value.int IntKind.i64 c) = Value.int IntKind.i64 c
      rw [if_neg (by omega)]
  · rw [if_neg h, if_neg (show ¬ k / 2 = x by omega)]
theorem sizeBd : (Try.prog.info? 77).map (·.size) = some 2 := by kernel_rfl
end Go.Proofs.Ytejcijbohnlbgaa
