/- Contracts of package zone: others, put, Put. -/
import Derived.Test.YtejcijbohnlbgaaZoneM9
import Derived.Test.YtejcijbohnlbgaaZX
import Derived.Test.YtejcijbohnlbgaaZY
import Derived.Laws.ResultCell
import Derived.Deep.CutBlock
namespace Go.Proofs.Ytejcijbohnlbgaa
open Go.ChangeShapes Go.WideShapes Go.ChangeAt Go.RowKit
open Zon
set_option linter.unusedVariables false
set_option maxRecDepth 100000
/-- sixty bounds in a block, each there or not -/
def bvF (b : Nat → Bool × Int) : Nat → Value := fun k => if k % 2 = 0 then .bool (b (k / 2)).1 else .int .i64 (b (k / 2)).2
def BvAt (w : World) (g : Nat) (b : Nat → Bool × Int) : Prop := FB w g 77 120 (bvF b)
theorem BvAt.up {w w' : World} {g : Nat} {a : Nat → Bool × Int} (h : BvAt w g a) (hb : Below w.heap.size w w') : BvAt w' g a := FB.up h hb
theorem BvAt.lt {w : World} {g : Nat} {a : Nat → Bool × Int} (h : BvAt w g a) : g < w.heap.size := FB.lt h
theorem BvAt.is_ {w : World} {g : Nat} {a : Nat → Bool × Int} (h : BvAt w g a) (q : Nat) (hq : q < 60) : w.cell? ⟨g, q * 2, none⟩ = some (.bool (a q).1) := by
  rw [FB.cell h (q * 2) (by omega)]; unfold bvF; rw [if_pos (by omega), show q * 2 / 2 = q by omega]
theorem BvAt.c_ {w : World} {g : Nat} {a : Nat → Bool × Int} (h : BvAt w g a) (q : Nat) (hq : q < 60) : w.cell? ⟨g, q * 2 + 1, none⟩ = some (.int .i64 (a q).2) := by
  rw [FB.cell h (q * 2 + 1) (by omega)]; unfold bvF; rw [if_neg (by omega), show (q * 2 + 1) / 2 = q by omega]
/-- what is told of them: the bound, or none -/
def othR (x : Nat) (b : Nat → Bool × Int) : Nat → Int := fun q => if q = x then 3458764513820540928 else if (b q).1 then (b q).2 else 3458764513820540928
theorem result_row_tmp {fn : Func} {p u : Tmp} (h : fn.results = #[.cell p 101, .tmp u]) (tmps : Array Value) (w : World) (g : Nat) (t : TypeId) (f : Nat → Value)
    (hp : tmps.getD p undef = .pointer (some ⟨g, 0, none⟩)) (hg : FB w g t 60 f) :
    (results fn tmps).run Try.prog w = .ok (.tuple #[.agg (arr 60 f), tmps.getD u undef]) w := by
  rw [results_cell_tmp h, hp]
  have e := run_loadVar_seg w g 0 t 101 60 60 f _ hg (by omega) Try.underlying101 rfl sizeRow
  rw [arr_congr (g := f) (fun k _ => by rw [Nat.zero_add])] at e
  simp [asAddr, e, Result.andThen]
set_option maxHeartbeats 4000000 in
theorem others_any (w : World) (x g : Nat) (b : Nat → Bool × Int) (hx : x < 60) (hb : BvAt w g b) (hr : ∀ q, q < 60 → q ≠ x → (b q).1 = true → rngB (b q).2 = true) :
    Calls Try.prog 55 #[.int .i64 x, .slice (some ⟨g, 0, none⟩) 60 60] w fun e w' => e = .returned (.tuple #[.agg (arr 60 fun q => .int .i64 (othR x b q)), .int .i64 0]) ∧ Below w.heap.size w w' := by
  have HB := Lib.hid hb
  have HR := Lib.hid hr
  have hx1 : (x : Int) < 60 := by omega
  have hx0 : (0 : Int) ≤ x := by omega
  clear hb hr
  go_enter Try.func55, Try.ntmps55
  go_upto_region 1 with (refine wpList_alloc_seg rfl 101 rfl 60 (fun _ => .int .i64 0) zeroRow ?_; intro w1 hb1 hB1 hs1)
  obtain ⟨g1, hg1⟩ : ∃ g1, g1 = w.heap.size := ⟨_, rfl⟩
  rw [← hg1] at hb1 ⊢
  have HG1 := Lib.hid (show w.heap.size ≤ g1 by omega)
  have HB1 := Lib.hid hB1
  have Hb1 := Lib.hid hb1
  clear hg1 hb1 hB1 hs1
  go_upto_region 2 with (first
    | (go_at_call 71; refine (blank_any _).mono ?_; rintro e w2 ⟨rfl, hB2⟩)
    | (refine wpList_alloc_seg rfl 101 rfl 60 (fun _ => .int .i64 0) zeroRow ?_; intro w3 hb3 hB3 hs3)
    | (refine wpList_store_all rfl 101 _ _ rfl w2.heap.size 101 60 _ blankF rfl rfl hb3 sizeRow (fun _ _ => rfl) ?_; intro w4 hb4 hT4 hs4))
  obtain ⟨g6, hg6⟩ : ∃ g6, g6 = w2.heap.size := ⟨_, rfl⟩
  rw [← hg6] at hb4 hT4 ⊢
  have HG6 := Lib.hid (show w.heap.size ≤ g6 by have := HB1.out.size; have := hB2.size; omega)
  have HNE := Lib.hid (show g1 ≠ g6 by have := Hb1.out.lt; have := hB2.size; omega)
  have hB12 := HB1.out.trans (hB2.mono HB1.out.size)
  have hB123 := hB12.trans (hB3.mono hB12.size)
  have HB4 := Lib.hid (hB123.trans (hT4.below HG6.out hB123.size))
  have H1b := Lib.hid (FB.touch (FB.up (FB.up Hb1.out hB2) hB3) hT4 HNE.out)
  have H6b := Lib.hid (hb4.congr (f' := fun q => .int .i64 (if q < 0 then othR x b q else 3458764513820540928)) fun q _ => by rw [if_neg (by omega)]; rfl)
  clear hg6 hb4 hT4 hs4 hB3 hb3 hs3 hB2 hB12 hB123
  go_wp2_with fail
  go_loopw [12] (fun i wr => ∃ k : Nat, k ≤ 60 ∧ i = .int .i64 k ∧ FB wr g6 101 60 (fun q => .int .i64 (if q < k then othR x b q else 3458764513820540928)) ∧ FB wr g1 101 60 (fun _ => .int .i64 0) ∧ Below w.heap.size w wr) (fun i _ => (60 - intOf i).toNat)
  case atStart => exact ⟨0, by omega, rfl, H6b.out, H1b.out, HB4.out⟩
  case round =>
    clear H6b H1b HB4 Hb1 HB1
    obtain ⟨k, hk, rfl, h6, h1, hB⟩ := hrel
    have hk0 : (0 : Int) ≤ k := by omega
    by_cases hlt : k < 60
    · have hk1 : (k : Int) < 60 := by omega
      have hbw := HB.out.up hB
      have y0 := hbw.is_ k hlt
      have y1 := hbw.c_ k hlt
      obtain ⟨bi, hbi⟩ : ∃ bi, bi = (b k).1 := ⟨_, rfl⟩
      obtain ⟨bc, hbc⟩ : ∃ bc, bc = (b k).2 := ⟨_, rfl⟩
      have hrk := HR.out k hlt
      rw [← hbi] at y0 hrk
      rw [← hbc] at y1 hrk
      have HNX := Lib.hid (show othR x b k = if k = x then 3458764513820540928 else if bi = true then bc else 3458764513820540928 by rw [hbi, hbc]; rfl)
      have HLT := Lib.hid hlt
      clear hbi hbc hlt hbw
      go_upto_region 5 with (fail)
      have HB2 := Lib.hid (hB.trans ((below_box wr (.cells #[.bool bi, .int .i64 bc] 77)).mono hB.size))
      have H6 := Lib.hid (FB.up h6 (below_box wr (.cells #[.bool bi, .int .i64 bc] 77)))
      have H1 := Lib.hid (FB.up h1 (below_box wr (.cells #[.bool bi, .int .i64 bc] 77)))
      have hbx := Blk.new wr 77 #[.bool bi, .int .i64 bc]
      generalize wr.alloc (.cells #[.bool bi, .int .i64 bc] 77) = W1 at *
      generalize wr.heap.size = gx at *
      have x0 : W1.cell? ⟨gx, 0, none⟩ = some (.bool bi) := hbx.cell 0
      have x1 : W1.cell? ⟨gx, 1, none⟩ = some (.int .i64 bc) := hbx.cell 1
      clear y0 y1 hB h6 h1 hbx
      by_cases hkx : k = x
      · have t1 : ((k : Int) == (x : Int)) = true := by rw [hkx]; exact beq_self_eq_true _
        have H6n := Lib.hid (H6.out.congr (f' := fun q => .int .i64 (if q < k + 1 then othR x b q else 3458764513820540928)) fun q _ => by
          show Value.int .i64 (if q < k then _ else _) = Value.int .i64 (if q < k + 1 then _ else _)
          by_cases e : q = k
          · rw [if_neg (by omega), if_pos (by omega), e, HNX.out, if_pos hkx]
          · by_cases e2 : q < k
            · rw [if_pos e2, if_pos (by omega)]
            · rw [if_neg e2, if_neg (by omega)])
        clear hkx hrk
        go_wp2_with fail
        go_roundw
        case rel => exact ⟨k + 1, by have := HLT.out; omega, by go_num, H6n.out, H1.out, HB2.out⟩
        case measure => simp [intOf]; omega
      · have t1 : ((k : Int) == (x : Int)) = false := by rw [beq_eq_false_iff_ne]; omega
        cases bi with
        | false =>
          have H6n := Lib.hid (H6.out.congr (f' := fun q => .int .i64 (if q < k + 1 then othR x b q else 3458764513820540928)) fun q _ => by
            show Value.int .i64 (if q < k then _ else _) = Value.int .i64 (if q < k + 1 then _ else _)
            by_cases e : q = k
            · rw [if_neg (by omega), if_pos (by omega), e, HNX.out, if_neg hkx]; rfl
            · by_cases e2 : q < k
              · rw [if_pos e2, if_pos (by omega)]
              · rw [if_neg e2, if_neg (by omega)])
          clear hkx hrk
          go_wp2_with fail
          go_roundw
          case rel => exact ⟨k + 1, by have := HLT.out; omega, by go_num, H6n.out, H1.out, HB2.out⟩
          case measure => simp [intOf]; omega
        | true =>
          have hrg := hrk hkx rfl
          have z0 := FB.cell H6.out k HLT.out
          have f0 := FB.frozen H6.out k
          have H6n := Lib.hid ((FB.set_ H6.out k (.int .i64 bc)).congr (f' := fun q => .int .i64 (if q < k + 1 then othR x b q else 3458764513820540928)) fun q _ => by
            show upd _ k (.int .i64 bc) q = Value.int .i64 (if q < k + 1 then _ else _)
            unfold upd
            by_cases e : q = k
            · rw [if_pos e, if_pos (by omega), e, HNX.out, if_neg hkx]; rfl
            · rw [if_neg e]
              show Value.int .i64 (if q < k then _ else _) = _
              by_cases e2 : q < k
              · rw [if_pos e2, if_pos (by omega)]
              · rw [if_neg e2, if_neg (by omega)])
          have H1n := Lib.hid (FB.far H1.out (p := ⟨g6, k, none⟩) HNE.out (.int .i64 bc))
          have HBn := Lib.hid (HB2.out.trans ((Touch.set_ (g := g6) W1 k (.int .i64 bc)).below HG6.out HB2.out.size))
          clear hkx hrk
          go_wp2_with (go_at_call 52; refine (inRange_any _ _).mono ?_; rintro e w' ⟨rfl, rfl⟩; rw [hrg])
          go_roundw
          case rel => exact ⟨k + 1, by have := HLT.out; omega, by go_num, H6n.out, H1n.out, HBn.out⟩
          case measure => simp [intOf]; omega
    · obtain rfl : k = 60 := by omega
      have H6 := Lib.hid (h6.congr (f' := fun q => .int .i64 (othR x b q)) fun q hq => by show Value.int .i64 (if q < 60 then _ else _) = _; rw [if_pos hq])
      have H1 := Lib.hid h1
      have HBl := Lib.hid hB
      clear h6 h1 hB
      go_wp2_with (first
        | (refine wpList_load_all rfl 101 _ rfl g6 rfl 101 60 _ _ H6.out Try.underlying101 rfl sizeRow ?_)
        | (refine wpList_store_all rfl 101 _ _ rfl g1 101 60 _ (fun q => .int .i64 (othR x b q)) rfl rfl H1.out sizeRow (fun _ _ => rfl) ?_; intro w7 h7 hT7 hs7))
      refine bodyPost_ret (result_row_tmp rfl _ _ g1 _ (fun q => .int .i64 (othR x b q)) rfl h7) rfl ⟨rfl, ?_⟩
      exact HBl.out.trans (hT7.below HG1.out HBl.out.size)
/-- while ways through each k are taken: what is above, what is below -/
def belK (d : Nat → Int) (N : Tab) (k j : Nat) : Nat → Int := fun q => if q < j then belowK d N (k + 1) q else belowK d N k q
theorem lowR_above (u : Nat → Int) (N : Tab) (k : Nat) : lowR (aboveK u N k) (N k) (u k) = aboveK u N (k + 1) := rfl
/-- the table while it is written, the first k rows done -/
def putK (M : Tab) (x : Nat) (u d : Nat → Int) (k : Nat) : Tab := fun p q =>
  if p < k then (if q = x then belowK d (freeT M x) 60 p else min (freeT M x p q) (psum (belowK d (freeT M x) 60 p) (aboveK u (freeT M x) 60 q))) else freeT M x p q
/-- of row k all but its own place for x is done -/
def putH (M : Tab) (x : Nat) (u d : Nat → Int) (k : Nat) : Tab := fun p q =>
  if p = k then min (freeT M x p q) (psum (belowK d (freeT M x) 60 p) (aboveK u (freeT M x) 60 q)) else putK M x u d k p q
theorem putK_all {M : Tab} (hM : OkT M) {x : Nat} {u d : Nat → Int} (ho : PutOk x u d) {p q : Nat} (hp : p < 60) (hpx : p ≠ x) : putK M x u d 60 p q = putT M x u d p q := by
  unfold putK putT
  rw [if_pos hp, if_neg hpx]
  by_cases e : q = x
  · rw [if_pos e, if_pos e]
  · rw [if_neg e, if_neg e, free_off hpx e]
theorem putH_diag {M : Tab} (hM : OkT M) {x : Nat} {u d : Nat → Int} (ho : PutOk x u d) {k : Nat} (hk : k < 60) : putH M x u d k k k = putT M x u d k k ∨ (k = x ∧ 0 ≤ putH M x u d k k k) := by
  unfold putH
  rw [if_pos rfl]
  by_cases e : k = x
  · subst e
    refine .inr ⟨rfl, ?_⟩
    have h1 : freeT M k k k = 0 := by unfold freeT; rw [if_pos rfl, if_pos rfl]
    have h2 : belowK d (freeT M k) 60 k = 3458764513820540928 := by
      rcases belowK_at (d := d) (N := freeT M k) 60 k with g | ⟨j, hj, g⟩
      · exact g
      · by_cases e : j = k
        · subst e; rw [g, psum_no' _ _ ho.dx (by rw [h1]; omega)]
        · rw [g, free_row e, psum_no _ _ rfl (ho.dn j hj).rng.1]
    rw [h1, h2, psum_no _ _ rfl (aboveK_ok _ _ _ _).rng.1]
    omega
  · refine .inl ?_
    unfold putT
    rw [if_neg e, if_neg e, free_off e e]
theorem wpStill_yield {P : Program} {ops : Array Oper} {w : World} {Q : Act → Prop} {a : Act} {o : Oper} {rest : List Oper} (hw : Region.wanted o (yielded ops a.tmps) = true) (v : Value) (h : (execOp a.eval o).run P w = .ok (.value v) w) (k : wpStill P ops w Q rest (a.put o.dst v)) : wpStill P ops w Q (o :: rest) a := by
  unfold wpStill
  rw [if_pos hw]
  unfold Oper.still
  rw [h, Oper.stillUpon_value]
  exact k
theorem exec_load_row (w : World) (a : Act) (o : Oper) (x : Operand) (ho : o.op = .load 101 x) (g : Nat) (hx : a.eval x = .pointer (some ⟨g, 0, none⟩)) (t : TypeId) (f : Nat → Value) (hg : FB w g t 60 f) :
    (execOp a.eval o).run Try.prog w = .ok (.value (.agg (arr 60 f))) w := by
  rw [exec_load_seg w a o 101 x ho g 0 hx t 60 60 f _ hg (by omega) Try.underlying101 rfl sizeRow, arr_congr (g := f) (fun k _ => by rw [Nat.zero_add])]
theorem Touch.over {g n : Nat} {w a b : World} (h : Touch g w a) (k : Touch n a b) (hn : w.heap.size ≤ n) : Touch g w b :=
  ⟨k.os.trans h.os, k.tape.trans h.tape, k.output.trans h.output, Nat.le_trans h.size k.size, fun j hj hne => (k.block j (by have := h.size; omega) (by omega)).trans (h.block j hj hne)⟩
set_option maxHeartbeats 8000000 in
theorem put_any (w : World) (g x ga gb : Nat) (M : Tab) (u d : Nat → Int) (hz : ZB w g false M) (hM : OkT M) (hx : x < 60) (ho : PutOk x u d) (hu : FB w ga 101 60 (fun q => .int .i64 (u q))) (hd : FB w gb 101 60 (fun q => .int .i64 (d q))) (nag : ga ≠ g) (nbg : gb ≠ g) :
    Calls Try.prog 57 #[.pointer (some ⟨g, 1, none⟩), .int .i64 x, .pointer (some ⟨ga, 0, none⟩), .pointer (some ⟨gb, 0, none⟩)] w (AddPost w g (putZ (some M) x u d)) := by
  have HZ := Lib.hid hz
  have HO := Lib.hid ho
  have HU := Lib.hid hu
  have HD := Lib.hid hd
  have HAG := Lib.hid nag
  have HBG := Lib.hid nbg
  have HGL := Lib.hid hz.lt
  have HM := Lib.hid hM
  have hx1 : (x : Int) < 60 := by omega
  have hx0 : (0 : Int) ≤ x := by omega
  have HX := Lib.hid hx
  have HPZ := Lib.hid (show putZ (some M) x u d = if negT (putT M x u d) then none else some (putT M x u d) from rfl)
  have HFR := Lib.hid (okT_free hM x)
  clear hz hM hx ho hu hd nag nbg
  go_enter Try.func57, Try.ntmps57
  go_wp2_with fail
  go_at_call 50
  refine (free_any w g x false M HZ.out HX.out).mono ?_
  rintro e w1 ⟨rfl, hB1, hT1⟩
  have HZ1 := Lib.hid hB1
  have HT1 := Lib.hid hT1
  clear hB1 hT1
  obtain ⟨N, hN⟩ : ∃ N, N = freeT M x := ⟨_, rfl⟩
  rw [← hN] at HZ1 HFR
  have HN := Lib.hid hN
  clear hN
  go_wp2_with fail
  go_at_call 71
  refine (blank_any _).mono ?_
  rintro e w2 ⟨rfl, hB2⟩
  go_wp2_with fail
  go_at_call 71
  refine (blank_any _).mono ?_
  rintro e w3 ⟨rfl, hB3⟩
  go_upto_region 3 with (
    refine wpList_alloc_seg rfl 101 rfl 60 (fun _ => .int .i64 0) zeroRow ?_
    intro w4 hb4 hB4 hs4
    refine wpList_alloc_seg rfl 101 rfl 60 (fun _ => .int .i64 0) zeroRow ?_
    intro w5 hb5 hB5 hs5
    have hq5 := FB.up hb4 hB5
    refine wpList_store_all rfl 101 _ _ rfl w3.heap.size 101 60 _ blankF rfl rfl hq5 sizeRow (fun _ _ => rfl) ?_
    intro w6 hb6 hT6 hs6
    have hne9 : w4.heap.size ≠ w3.heap.size := by omega
    have hq6 := FB.touch hb5 hT6 hne9
    obtain ⟨g9, hg9⟩ : ∃ g9, g9 = w3.heap.size := ⟨_, rfl⟩
    obtain ⟨g10, hg10⟩ : ∃ g10, g10 = w4.heap.size := ⟨_, rfl⟩
    rw [← hg9] at hb6 hT6 ⊢
    rw [← hg10] at hq6 ⊢
    have hsz1 := HT1.out.size
    have hsz2 := hB2.size
    have hsz3 := hB3.size
    have HG9 := Lib.hid (show w.heap.size ≤ g9 by omega)
    have HG10 := Lib.hid (show w.heap.size ≤ g10 by omega)
    have HN9 := Lib.hid (show g9 ≠ g10 by omega)
    have hT5 : Touch g w w5 := HT1.out.trans (.of_below (((hB2.trans (hB3.mono hsz2)).trans (hB4.mono (by omega))).trans (hB5.mono (by omega))))
    have HT6 := Lib.hid (hT5.over hT6 HG9.out)
    have HZ6 := Lib.hid (show ZB w6 g false N from (((((HZ1.out.up hB2).up hB3).up hB4).up hB5).touch hT6 (by have := HGL.out; omega)))
    have HNG9 := Lib.hid (show g ≠ g9 by have := HGL.out; omega)
    have HNG10 := Lib.hid (show g ≠ g10 by have := HGL.out; omega)
    have HA9 := Lib.hid (show ga ≠ g9 by have := HU.out.lt; omega)
    have HB10 := Lib.hid (show gb ≠ g10 by have := HD.out.lt; omega)
    have HB6 := Lib.hid hb6
    clear hb6 hg9 hg10 hT6 hs6 hB2 hB3 hb4 hB4 hs4 hb5 hB5 hs5 hsz1 hsz2 hsz3 hT5 HZ1 HT1 hq5 hne9
    refine wpList_store_all rfl 101 _ _ rfl g10 101 60 _ blankF rfl rfl hq6 sizeRow (fun _ _ => rfl) ?_
    intro w7 hb7 hT7 hs7
    have HT7 := Lib.hid (HT6.out.over hT7 HG10.out)
    have HZ7 := Lib.hid (HZ6.out.touch hT7 HNG10.out)
    have H9 := Lib.hid ((FB.touch HB6.out hT7 HN9.out).congr (f' := fun q => .int .i64 (aboveK u N 0 q)) fun q _ => rfl)
    have H10 := Lib.hid (hb7.congr (f' := fun q => .int .i64 (belowK d N 0 q)) fun q _ => rfl)
    clear hb7 hT7 hs7 hq6 HB6 HZ6 HT6)
  go_wp2_with fail
  go_loopw [19] (fun i wr => ∃ k : Nat, k ≤ 60 ∧ i = .int .i64 k ∧ ZB wr g false N ∧ FB wr g9 101 60 (fun q => .int .i64 (aboveK u N k q)) ∧ FB wr g10 101 60 (fun q => .int .i64 (belowK d N k q)) ∧ Touch g w wr) (fun i _ => (60 - intOf i).toNat)
  case atStart => exact ⟨0, by omega, rfl, HZ7.out, H9.out, H10.out, HT7.out⟩
  case round =>
    clear HZ7 H9 H10 HT7
    obtain ⟨k, hk, rfl, hB, h9, h10, hT⟩ := hrel
    have hk0 : (0 : Int) ≤ k := by omega
    by_cases hlt : k < 60
    · have hk1 : (k : Int) < 60 := by omega
      have HLT := Lib.hid hlt
      have HBr := Lib.hid hB
      have H9r := Lib.hid h9
      have H10r := Lib.hid h10
      have HTr := Lib.hid hT
      clear hB h9 h10 hT
      go_upto_region 6 with (fail)
      refine wp_region_tail 9 (by kernel_rfl) (by kernel_rfl) fun W hW => ?_
      simp only [List.take_succ_cons, List.take_zero, List.drop_succ_cons, List.drop_zero]
      have hTW : Touch g w W := by rw [hW]; exact HTr.out.trans (Touch.drewN wr 1)
      have HBW := Lib.hid (show ZB W g false N by rw [hW]; exact HBr.out)
      have H9W := Lib.hid (show FB W g9 101 60 (fun q => .int .i64 (aboveK u N k q)) by rw [hW]; exact H9r.out)
      have H10W := Lib.hid (show FB W g10 101 60 (fun q => .int .i64 (belowK d N k q)) by rw [hW]; exact H10r.out)
      have x1 := (HU.out.touch hTW HAG.out).cell k hlt
      have HTW := Lib.hid hTW
      clear hTW hW HBr H9r H10r HTr
      iterate 9 still_step
      refine wpStill_nil ?_
      clear x1
      go_wp2_with fail
      go_at_call 73
      refine (lower_any W g9 0 _ 60 _ g (1 + k * 60) _ 3601 _ (aboveK u N k) (N k) (u k) H9W.out HBW.out HNG9.out (by omega) (by omega) (fun q hq => ?_) (fun q hq => ?_) (fun q hq => (aboveK_ok _ _ _ _).rng) (fun q hq => (HFR.out k q hlt hq).rng) (HO.out.up k hlt).rng).mono ?_
      · rw [Nat.zero_add]
      · rw [zc_at _ _ _ _ hq]
      rintro e w4 ⟨rfl, hB4, hT4⟩
      have H94 := Lib.hid (hB4.congr (f' := fun q => .int .i64 (aboveK u N (k + 1) q)) fun q hq => by unfold updR; rw [if_pos (by omega), Nat.sub_zero, lowR_above])
      have HT4 := Lib.hid (HTW.out.over hT4 HG9.out)
      have HZ4 := Lib.hid (HBW.out.touch hT4 HNG9.out)
      have H104 := Lib.hid (H10W.out.touch hT4 (fun e => HN9.out e.symm))
      clear hB4 hT4 HBW H9W H10W HTW
      go_wp2_with fail
      obtain ⟨wo, rfl⟩ : ∃ wo : World, wo = w4 := ⟨_, rfl⟩
      go_loopw [32] (fun i wr => ∃ j : Nat, j ≤ 60 ∧ i = .int .i64 j ∧ FB wr g10 101 60 (fun q => .int .i64 (belK d N k j q)) ∧ Touch g10 wo wr) (fun i _ => (60 - intOf i).toNat)
      case atStart => exact ⟨0, by omega, rfl, H104.out.congr fun q _ => by unfold belK; rw [if_neg (by omega)], Touch.refl _ _⟩
      case round =>
        obtain ⟨j, hj, rfl, h10, hT⟩ := hrel
        have hj0 : (0 : Int) ≤ j := by omega
        by_cases hjt : j < 60
        · have hj1 : (j : Int) < 60 := by omega
          have HJT := Lib.hid hjt
          have H10r := Lib.hid h10
          have HTr := Lib.hid hT
          clear h10 hT
          go_upto_region 10 with (fail)
          refine wp_region_tail 19 (by kernel_rfl) (by kernel_rfl) fun W hW => ?_
          simp only [List.take_succ_cons, List.take_zero, List.drop_succ_cons, List.drop_zero]
          have hTW : Touch g10 wo W := by rw [hW]; exact HTr.out.trans (Touch.drewN wr 1)
          have h10W : FB W g10 101 60 (fun q => .int .i64 (belK d N k j q)) := by rw [hW]; exact H10r.out
          have x1 := ((HD.out.touch HT4.out HBG.out).touch hTW HB10.out).cell k hlt
          have x2 := (HZ4.out.touch hTW HNG10.out).at_ j k hjt hlt
          have x3 := h10W.cell j hjt
          rw [show belK d N k j j = belowK d N k j by unfold belK; rw [if_neg (by omega)]] at x3
          have f3 := FB.frozen h10W j
          have HSU := Lib.hid (sum_any (N j k) (d k) W (HFR.out j k hjt hlt).rng (HO.out.dn k hlt).rng)
          have HBn := Lib.hid ((FB.set_ h10W j (.int .i64 (min (belowK d N k j) (psum (N j k) (d k))))).congr (f' := fun q => .int .i64 (belK d N k (j + 1) q)) fun q _ => by
            unfold upd
            by_cases e : q = j
            · rw [if_pos e, e]
              congr 1
              unfold belK
              rw [if_pos (by omega)]
              rfl
            · rw [if_neg e]
              show Value.int .i64 (belK d N k j q) = _
              congr 1
              unfold belK
              by_cases e2 : q < j
              · rw [if_pos e2, if_pos (by omega)]
              · rw [if_neg e2, if_neg (by omega)])
          have HTn := Lib.hid (hTW.trans (Touch.set_ W j (.int .i64 (min (belowK d N k j) (psum (N j k) (d k))))))
          clear hTW h10W hW H10r HTr
          iterate 16 still_step
          still_call (HSU.out.mono fun e w'' h => ⟨h.1, h.2.symm⟩)
          iterate 2 still_step
          refine wpStill_nil ?_
          clear HSU
          go_wp2_with fail
          go_roundw
          case rel => exact ⟨j + 1, by have := HJT.out; omega, by go_num, HBn.out, HTn.out⟩
          case measure => simp [intOf]; omega
        · obtain rfl : j = 60 := by omega
          have H10n := Lib.hid (h10.congr (f' := fun q => .int .i64 (belowK d N (k + 1) q)) fun q hq => by congr 1; unfold belK; rw [if_pos hq])
          have HTn := Lib.hid (HT4.out.over hT HG10.out)
          have HZn := Lib.hid (HZ4.out.touch hT HNG10.out)
          have H9n := Lib.hid (H94.out.touch hT HN9.out)
          clear h10 hT
          go_wp2_with fail
          go_roundw
          case rel => exact ⟨k + 1, by have := HLT.out; omega, by go_num, HZn.out, H9n.out, H10n.out, HTn.out⟩
          case measure => simp [intOf]; omega
    · have hjn : decide ((k : Int) < 60) = false := decide_eq_false (by omega)
      have hk60 : k = 60 := by omega
      have HBr := Lib.hid (hB.congr (N := putK M x u d 0) fun p q _ _ => by unfold putK; rw [if_neg (by omega), HN.out])
      rw [HN.out, hk60] at h9 h10
      clear hk60 hlt
      have H9r := Lib.hid h9
      have H10r := Lib.hid h10
      have HTr := Lib.hid hT
      clear hB h9 h10 hT
      go_wp2_with fail
      go_loopw [56] (fun i wr => ∃ k : Nat, k ≤ 60 ∧ i = .int .i64 k ∧ ZB wr g false (putK M x u d k) ∧ (∀ p, p < k → p ≠ x → 0 ≤ putT M x u d p p) ∧ FB wr g9 101 60 (fun q => .int .i64 (aboveK u (freeT M x) 60 q)) ∧ FB wr g10 101 60 (fun q => .int .i64 (belowK d (freeT M x) 60 q)) ∧ Touch g w wr) (fun i _ => (60 - intOf i).toNat)
      case atStart => exact ⟨0, by omega, rfl, HBr.out, fun p hp => absurd hp (by omega), H9r.out, H10r.out, HTr.out⟩
      case round =>
        clear HBr H9r H10r HTr
        obtain ⟨k, hk, rfl, hB, hng, h9, h10, hT⟩ := hrel
        have hk0 : (0 : Int) ≤ k := by omega
        by_cases hlt : k < 60
        · have hk1 : (k : Int) < 60 := by omega
          have HLT := Lib.hid hlt
          have HBr := Lib.hid hB
          have H9r := Lib.hid h9
          have H10r := Lib.hid h10
          have HTr := Lib.hid hT
          have HNG := Lib.hid hng
          clear hB h9 h10 hT hng
          go_upto_region 16 with (fail)
          refine wp_region_tail 7 (by kernel_rfl) (by kernel_rfl) fun W hW => ?_
          simp only [List.take_succ_cons, List.take_zero, List.drop_succ_cons, List.drop_zero]
          have hTW : Touch g w W := by rw [hW]; exact HTr.out.trans (Touch.drewN wr 1)
          have HBW := Lib.hid (show ZB W g false (putK M x u d k) by rw [hW]; exact HBr.out)
          have H9W := Lib.hid (show FB W g9 101 60 (fun q => .int .i64 (aboveK u (freeT M x) 60 q)) by rw [hW]; exact H9r.out)
          have H10W := Lib.hid (show FB W g10 101 60 (fun q => .int .i64 (belowK d (freeT M x) 60 q)) by rw [hW]; exact H10r.out)
          have x1 := H10W.out.cell k hlt
          have HTW := Lib.hid hTW
          clear hTW hW HBr H9r H10r HTr
          iterate 7 still_step
          refine wpStill_nil ?_
          clear x1
          go_wp2_with fail
          go_at_call 73
          refine (lower_any W g (1 + k * 60) _ 3601 _ g9 0 _ 60 _ (freeT M x k) (aboveK u (freeT M x) 60) (belowK d (freeT M x) 60 k) HBW.out H9W.out (fun e => HNG9.out e.symm) (by omega) (by omega) (fun q hq => ?_) (fun q hq => ?_) (fun q hq => ?_) (fun q hq => (aboveK_ok _ _ _ _).rng) (belowK_ok _ _ _ _).rng).mono ?_
          · rw [zc_at _ _ _ _ hq]; unfold putK; rw [if_neg (by omega)]
          · rw [Nat.zero_add]
          · rw [← HN.out]; exact (HFR.out k q hlt hq).rng
          rintro e w4 ⟨rfl, hB4, hT4⟩
          have hZ4 : ZB w4 g false (putH M x u d k) := ZB.row hB4 hlt fun a q ha hq => by
            unfold putH
            by_cases e : a = k
            · rw [if_pos e, if_pos e, e]; rfl
            · rw [if_neg e, if_neg e]
          have x2 := hZ4.at_ k k hlt hlt
          have HDG := Lib.hid (putH_diag HM.out HO.out (k := k) hlt)
          have HZ4 := Lib.hid hZ4
          have HT4 := Lib.hid (HTW.out.trans hT4)
          have H94 := Lib.hid (H9W.out.touch hT4 (fun e => HNG9.out e.symm))
          have H104 := Lib.hid (H10W.out.touch hT4 (fun e => HNG10.out e.symm))
          clear hB4 hT4 hZ4 HBW HTW H9W H10W
          obtain ⟨v, hv⟩ : ∃ v, v = putH M x u d k k k := ⟨_, rfl⟩
          rw [← hv] at x2 HDG
          clear hv
          by_cases h0 : v < 0
          · have t1 : decide (v < 0) = true := decide_eq_true h0
            have HXn := Lib.hid (show putZ (some M) x u d = none by
              rw [HPZ.out]
              rcases HDG.out with h | h
              · rw [negT_true hlt (by omega)]; rfl
              · omega)
            clear h0
            go_wp2_with fail
            go_ret
            exact addPost_no HT4.out HXn.out HZ4.out
          · have t1 : decide (v < 0) = false := decide_eq_false h0
            have HN4 := Lib.hid (show ∀ p, p < k + 1 → p ≠ x → 0 ≤ putT M x u d p p from fun p hp hpx => by
              by_cases e : p = k
              · subst e
                rcases HDG.out with h | h
                · omega
                · exact absurd h.1 hpx
              · exact HNG.out p (by omega) hpx)
            clear h0 HDG
            go_upto_region 19 with (fail)
            clear x2 t1
            refine wp_region_tail 9 (by kernel_rfl) (by kernel_rfl) fun W5 hW => ?_
            simp only [List.take_succ_cons, List.take_zero, List.drop_succ_cons, List.drop_zero]
            have hZ5 : ZB W5 g false (putH M x u d k) := by rw [hW]; exact HZ4.out
            have H95 := Lib.hid (show FB W5 g9 101 60 (fun q => .int .i64 (aboveK u (freeT M x) 60 q)) by rw [hW]; exact H94.out)
            have h105 : FB W5 g10 101 60 (fun q => .int .i64 (belowK d (freeT M x) 60 q)) := by rw [hW]; exact H104.out
            have hT5 : Touch g w W5 := by rw [hW]; exact HT4.out.trans (Touch.drewN w4 1)
            have x1 := h105.cell k hlt
            have x2 := hZ5.at_ k x hlt HX.out
            have f2 := FB.frozen hZ5 (1 + k * 60 + x)
            have HZn := Lib.hid (hZ5.set (N := putK M x u d (k + 1)) k x (belowK d (freeT M x) 60 k) hlt HX.out fun a b ha hb => by
              unfold putH putK
              by_cases e1 : a = k ∧ b = x
              · rw [if_pos e1, if_pos (show a < k + 1 by omega), if_pos e1.2, e1.1]
              · rw [if_neg e1]
                by_cases e2 : a = k
                · have hbx : b ≠ x := fun e => e1 ⟨e2, e⟩
                  rw [if_pos e2, if_pos (show a < k + 1 by omega), if_neg hbx]
                · rw [if_neg e2]
                  by_cases e3 : a < k
                  · rw [if_pos e3, if_pos (show a < k + 1 by omega)]
                  · rw [if_neg e3, if_neg (show ¬ a < k + 1 by omega)])
            have HTn := Lib.hid (hT5.trans (Touch.set_ W5 (1 + k * 60 + x) (.int .i64 (belowK d (freeT M x) 60 k))))
            have H9n := Lib.hid (FB.far H95.out (p := ⟨g, 1 + k * 60 + x, none⟩) (fun e => HNG9.out e.symm) (.int .i64 (belowK d (freeT M x) 60 k)))
            have H10n := Lib.hid (FB.far h105 (p := ⟨g, 1 + k * 60 + x, none⟩) (fun e => HNG10.out e.symm) (.int .i64 (belowK d (freeT M x) 60 k)))
            clear hW hZ5 h105 hT5 H95
            iterate 9 still_step
            refine wpStill_nil ?_
            go_wp2_with fail
            go_roundw
            case rel => exact ⟨k + 1, by have := HLT.out; omega, by go_num, HZn.out, HN4.out, H9n.out, H10n.out, HTn.out⟩
            case measure => simp [intOf]; omega
        · obtain rfl : k = 60 := by omega
          have HBr := Lib.hid hB
          have H9r := Lib.hid h9
          have HTr := Lib.hid hT
          have HXy := Lib.hid (show putZ (some M) x u d = some (putT M x u d) by
            rw [HPZ.out, negT_false.mpr fun p hp => ?_]
            · rfl
            · by_cases e : p = x
              · rw [e]; unfold putT; rw [if_pos rfl, if_pos rfl]; omega
              · exact hng p hp e)
          clear hB h9 h10 hT hng
          go_upto_region 21 with (fail)
          refine wp_region_tail 5 (by kernel_rfl) (by kernel_rfl) fun W hW => ?_
          simp only [List.take_succ_cons, List.take_zero, List.drop_succ_cons, List.drop_zero]
          have HTW := Lib.hid (show Touch g w W by rw [hW]; exact HTr.out.trans (Touch.drewN wr 1))
          have HBW := Lib.hid (show ZB W g false (putK M x u d 60) by rw [hW]; exact HBr.out)
          have h9W : FB W g9 101 60 (fun q => .int .i64 (aboveK u (freeT M x) 60 q)) := by rw [hW]; exact H9r.out
          obtain ⟨R, hR⟩ : ∃ R, R = aboveK u (freeT M x) 60 := ⟨_, rfl⟩
          rw [← hR] at h9W
          have HRR := Lib.hid hR
          have H9W := Lib.hid h9W
          clear hW HBr H9r HTr hR h9W
          iterate 2 still_step
          refine wpStill_yield rfl _ (exec_load_row W _ _ _ rfl g9 rfl 101 _ H9W.out) ?_
          iterate 2 still_step
          refine wpStill_nil ?_
          go_upto_region 22 with (refine wpList_store_seg rfl 101 _ _ rfl g (1 + x * 60) 106 3601 60 _ (fun q => .int .i64 (R q)) rfl rfl HBW.out (by have := HX.out; omega) sizeRow (fun _ _ => rfl) ?_; intro w8 hb8 hT8 hs8)
          have hZ8 : ZB w8 g false (fun p q => if p = x then R q else putK M x u d 60 p q) := ZB.row hb8 HX.out fun a q ha hq => rfl
          have x1 := hZ8.at_ x x HX.out HX.out
          have f1 := FB.frozen hZ8 (1 + x * 60 + x)
          have HZn := Lib.hid (hZ8.set (N := putT M x u d) x x 0 HX.out HX.out fun a b ha hb => by
            by_cases e1 : a = x ∧ b = x
            · rw [if_pos e1]; unfold putT; rw [if_pos e1.1, if_pos e1.2]
            · rw [if_neg e1]
              by_cases e2 : a = x
              · have hbx : b ≠ x := fun e => e1 ⟨e2, e⟩
                rw [if_pos e2, HRR.out]; unfold putT; rw [if_pos e2, if_neg hbx]
              · rw [if_neg e2]; exact putK_all HM.out HO.out ha e2)
          have HTn := Lib.hid ((HTW.out.trans hT8).trans (Touch.set_ w8 (1 + x * 60 + x) (.int .i64 0)))
          clear hb8 hT8 hs8 hZ8 HBW H9W HTW
          go_wp2_with fail
          go_ret
          exact addPost_yes HTn.out HXy.out HZn.out
end Go.Proofs.Ytejcijbohnlbgaa
