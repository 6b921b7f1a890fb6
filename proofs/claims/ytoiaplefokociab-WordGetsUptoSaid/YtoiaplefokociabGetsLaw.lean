/- WordGets: the walk of the law. -/
import Derived.Test.YtoiaplefokociabBack2
import Derived.Test.YtoiaplefokociabRefGet
namespace Go.Proofs.Ytoiaplefokociab
open Go.ChangeShapes Go.WideShapes Go.ChangeAt Go.RowKit
open Bits
set_option linter.unusedVariables false

theorem get_all (A : Option Addr) (n c : Nat) (L : List Int) (s : Bool) (hL : L.length = n) (hn : n ≤ 1048576) (hb : Byt L) (w : World) (h : BytesAt w A L) :
    Calls Try.prog 9 #[.slice A n c, .bool s] w fun e w' => e = .returned (.int .i64 (getV L s)) ∧ w = w' := by
  by_cases h1 : 1 ≤ n ∧ n ≤ 8
  · exact get_yes w A n c s L hL h1.1 h1.2 hb h
  · have e : getV L s = 0 := by unfold getV; rw [if_pos (by omega)]
    rw [e]
    exact get_no A n c s (by omega) (by omega) w
theorem refGet_all (A : Option Addr) (n c : Nat) (L : List Int) (s : Bool) (hL : L.length = n) (hn : n ≤ 1048576) (hb : Byt L) (w : World) (h : BytesAt w A L) :
    Calls Try.prog 10 #[.slice A n c, .bool s] w fun e w' => e = .returned (.int .i64 (getV L s)) ∧ Below w.heap.size w w' := by
  by_cases h1 : n ≤ 8
  · exact refGet_yes A n c L s hL h1 hb w h
  · have e : getV L s = 0 := by unfold getV; rw [if_pos (by omega)]
    rw [e]
    exact (refGet_no A n c s (by omega) (by omega) w).mono fun _ _ ⟨h1, h2⟩ => ⟨h1, by subst h2; exact Below.refl _ _⟩

/-- a copy of bytes: in memory that was not there -/
theorem copyBytes_new (w : World) (A : Option Addr) (n c : Nat) (L : List Int) (hL : L.length = n) (hlen : n ≤ 140737488355328) (h : BytesAt w A L) :
    Calls Try.prog 7 #[.slice A n c] w fun e w' => ∃ A' c', e = .returned (.slice A' n c') ∧ BytesAt w' A' L ∧ (∀ b off, A' = some ⟨b, off, none⟩ → w.heap.size ≤ b ∧ b < w'.heap.size) ∧ Below w.heap.size w w' := by
  have hown := OwnB.nil w w.heap.size
  subst hL
  go_enter Try.func7, Try.ntmps7
  go_wp2_with (at_builtin; (refine append_bytes Try.underlying26 byte_info _ rfl (.const (.slice none 0 0)) (.tmp 3) rfl w.heap.size _ _ rfl hown _ _ c _ rfl rfl h (by simpa using hlen) (Nat.le_refl _) ?_; intro v' w' hown' hB'))
  have hlt := hown'.lt
  obtain ⟨A', c', hv, hat⟩ := hown'.form
  subst hv
  go_ret
  refine ⟨A', c', rfl, hat, fun b off e => ?_, hB'⟩
  subst e
  exact hlt b rfl

theorem BytesAt.keep2 {w w' : World} {A : Option Addr} {L : List Int} {g : Nat} {r : Option Nat} (h : BytesAt w A L) (hK : Keep2 g r w w') (hs : w.heap.size ≤ w'.heap.size) (hne : 0 < L.length → ∀ b off, A = some ⟨b, off, none⟩ → b ≠ g ∧ some b ≠ r) : BytesAt w' A L := fun hp => by
  obtain ⟨b, off, rfl, hlt, hc⟩ := h hp
  obtain ⟨h1, h2⟩ := hne hp b off rfl
  exact ⟨b, off, rfl, by omega, fun i hi => (World.cell?_of_block (w := w) (a := ⟨b, off + i, none⟩) (hK b hlt h1 h2)).trans (hc i hi)⟩
theorem Lent.below {w w' : World} {g r : Nat} {L D : List Int} (h : Lent w g r L D) (hb : Below w.heap.size w w') : Lent w' g r L D :=
  ⟨h.1, h.2.1.below hb h.2.1.lt, h.2.2.below hb h.2.2.lt⟩

/-- the lender at block g, between two loans -/
def LState (w0 : World) (g hi : Nat) (wr : World) : Prop :=
  g < hi ∧ hi ≤ wr.heap.size ∧ w0.heap.size ≤ g ∧ Below w0.heap.size w0 wr ∧ ∃ rb R, Room wr g rb R ∧ R.length ≤ 1099511627776 ∧ ∀ r, rb = some r → w0.heap.size ≤ r ∧ r < hi

theorem LState.below {w0 wr w' : World} {g hi : Nat} (h : LState w0 g hi wr) (hb : Below wr.heap.size wr w') : LState w0 g hi w' := by
  obtain ⟨q1, q2, h1, h2, rb, R, h3, h4, h5⟩ := h
  refine ⟨q1, by have := hb.size; omega, h1, h2.trans (hb.mono h2.size), rb, R, ?_, h4, h5⟩
  rcases h3 with ⟨a, b, c⟩ | ⟨r, a, b, c, d⟩
  · exact .inl ⟨a, b, c.below hb c.lt⟩
  · exact .inr ⟨r, a, b, c.below hb c.lt, d.below hb d.lt⟩

/-- lent out: the bytes that were handed in still read -/
def LOut (w0 : World) (g : Nat) (A : Option Addr) (L : List Int) (r m : Nat) (wr : World) : Prop :=
  w0.heap.size ≤ g ∧ w0.heap.size ≤ r ∧ Below w0.heap.size w0 wr ∧ BytesAt wr A L ∧ m ≤ 1099511627776 ∧ ∃ D, Lent wr g r L D ∧ L.length + (L.length + 70) + D.length = m
theorem LOut.below {w0 wr w' : World} {g r m : Nat} {A : Option Addr} {L : List Int} (h : LOut w0 g A L r m wr) (hb : Below wr.heap.size wr w') : LOut w0 g A L r m w' := by
  obtain ⟨h1, h2, h3, h4, h5, D, h6, h7⟩ := h
  exact ⟨h1, h2, h3.trans (hb.mono h3.size), h4.below hb, h5, D, h6.below hb, h7⟩
theorem LOut.bytes {w0 wr : World} {g r m : Nat} {A : Option Addr} {L : List Int} (h : LOut w0 g A L r m wr) : BytesAt wr (some ⟨r, 0, none⟩) L ∧ BytesAt wr A L := by
  obtain ⟨h1, h2, h3, h4, h5, D, h6, h7⟩ := h
  exact ⟨h6.2.1.begin_, h4⟩

theorem lend_s {w0 wr : World} {g hi : Nat} (h : LState w0 g hi wr) (A : Option Addr) (n c : Nat) (L : List Int) (hL : L.length = n) (hn : n ≤ 1048576) (hat : BytesAt wr A L)
    (hA : 0 < n → ∀ b off, A = some ⟨b, off, none⟩ → b ≠ g ∧ (b < w0.heap.size ∨ hi ≤ b)) :
    Calls Try.prog 8 #[.pointer (some ⟨g, 0, none⟩), .slice A n c] wr fun e w' => ∃ r m, e = .returned (.slice (some ⟨r, 0, none⟩) n m) ∧ LOut w0 g A L r m w' := by
  obtain ⟨q1, q2, h1, h2, rb, R, h3, h4, h5⟩ := h
  refine (lend_any wr g rb R h3 A n c L hL hn h4 hat (fun hp b off e => (hA hp b off e).1) w0.heap.size h1 (fun r hr => (h5 r hr).1)).mono fun e w' ⟨r, D, he, hl, hor, hmm, hk, hb⟩ => ?_
  refine ⟨r, _, by rw [← hL]; exact he, h1, ?_, h2.trans hb, ?_, hmm, D, hl, rfl⟩
  · rcases hor with h | h
    · exact (h5 r h.symm).1
    · have := h2.size; omega
  · refine hat.keep2 hk hb.size fun hp b off e => ?_
    obtain ⟨hg1, hr1⟩ := hA (by omega) b off e
    refine ⟨hg1, ?_⟩
    rcases hor with h | h
    · subst h
      intro hbr
      injection hbr with hbr
      have := h5 r rfl
      omega
    · obtain ⟨b', off', e', hlt, _⟩ := hat hp
      rw [e] at e'
      injection e' with e'
      injection e' with e1 e2
      intro hbr
      injection hbr with hbr
      omega

theorem back_s {w0 wr : World} {g r m : Nat} {A : Option Addr} {L : List Int} (h : LOut w0 g A L r m wr) (n c : Nat) (hL : L.length = n) (hn : n ≤ 1048576) :
    Calls Try.prog 11 #[.pointer (some ⟨g, 0, none⟩), .slice A n c] wr fun e w' => e = .returned (.bool true) ∧ LState w0 g w'.heap.size w' := by
  obtain ⟨h1, h2, h3, h4, h5, D, h6, h7⟩ := h
  refine (back_any wr g r m L D h6 A n c hL hn h7 h5 h4 w0.heap.size h2).mono fun e w' ⟨R', hR, he, hroom, hk, hb⟩ => ⟨he, by have := h6.2.2.lt; have := hb.size; omega, Nat.le_refl _, h1, h3.trans hb, some r, R', hroom, by omega, fun r' hr' => ?_⟩
  injection hr' with hr'
  subst hr'
  have := h6.2.1.lt
  have := hb.size
  exact ⟨h2, by omega⟩

set_option maxRecDepth 100000 in
set_option maxHeartbeats 4000000 in
theorem wordGets_walk (A : Option Addr) (n c : Nat) (L : List Int) (hL : L.length = n) (hn : n ≤ 1048576) (hb : Byt L) (hnc : n ≤ c) (w : World) (hA : BytesAt w A L) :
    Calls Try.prog 4 #[.slice A n c] w fun e w' => e = .returned (.bool true) ∧ Below w.heap.size w w' := by
  have HA := Lib.hid hA
  have HL := Lib.hid hL
  have HB := Lib.hid hb
  clear hA hL hb
  go_enter Try.func4, Try.ntmps4
  go_wp2_with fail
  have hS0 : LState w w.heap.size (w.heap.size + 1) (w.alloc (.cells #[.slice none 0 0] 28)) :=
    ⟨by omega, by simp, Nat.le_refl _, (Below.refl _ _).alloc (Nat.le_refl _) _, none, [], .inl ⟨rfl, rfl, Blk.new _ _ _⟩, by simp, fun r h => by cases h⟩
  go_loopw [4, 5, 6, 7, 8] (fun k _ _ _ _ wr => ∃ j : Nat, j ≤ n + 1 ∧ j ≤ 13 ∧ k = .int .i64 (j : Int) ∧ ∃ hi, LState w w.heap.size hi wr) (fun k _ _ _ _ _ => (13 - intOf k).toNat)
  case atStart => exact ⟨0, by omega, by omega, rfl, _, hS0⟩
  case round =>
    clear hS0
    obtain ⟨j, hj1, hj2, rfl, hi, hS⟩ := hrel
    by_cases hlt : j ≤ n ∧ j ≤ 12
    · obtain ⟨hlt1, hlt2⟩ := hlt
      have f1 : (j : Int) ≤ (n : Int) := by omega
      have f2 : (j : Int) ≤ 12 := by omega
      have f3 : j ≤ c := by omega
      have f4 : (j : Int) ≤ c := by omega
      go_wp2_with fail
      have hc0 : ∀ b off, A = some ⟨b, off, none⟩ → 0 < n → b < w.heap.size := by
        intro b off e hp
        obtain ⟨b', off', e', hlt, _⟩ := HA.out (by rw [HL.out]; exact hp)
        rw [e] at e'; injection e' with e'; injection e' with e1 e2; omega
      have hat : BytesAt wr A (L.take j) := fun hp => by
        have hp' : 0 < L.length := by simp at hp; omega
        obtain ⟨b, off, e, hlt, hcell⟩ := HA.out hp'
        refine ⟨b, off, e, by have := hS.2.2.2.1.size; omega, fun i hi => ?_⟩
        rw [hS.2.2.2.1.cell (p := ⟨b, off + i, none⟩) hlt, hcell i (by simp at hi; omega), List.getElem?_take, if_pos (by simp at hi; omega)]
      have hTL : (L.take j).length = j := by rw [List.length_take, HL.out]; omega
      have hTB : Byt (L.take j) := byt_take HB.out j
      have HTL := Lib.hid hTL
      generalize L.take j = T at *
      refine (copyBytes_new _ A j c T hTL (by omega) hat).mono ?_
      rintro e w1 ⟨A1, c1, rfl, hat1, hnew1, hB1⟩
      have hS1 := hS.below hB1
      have hlend := lend_s hS1 A1 j c1 T hTL (by omega) hat1 (fun hp b off e => by
        obtain ⟨q1, q2⟩ := hnew1 b off e
        have := hS.1
        have := hS.2.1
        exact ⟨by omega, .inr (by omega)⟩)
      have HLend := Lib.hid hlend
      clear hlend hat hat1 hnew1 hB1 hS hTL
      go_wp2_with fail
      refine HLend.out.mono ?_
      rintro e w2 ⟨r, m, rfl, hout⟩
      clear HLend hS1
      have hget := fun s => get_all (some ⟨r, 0, none⟩) j m T s HTL.out (by omega) hTB w2 hout.bytes.1
      have HGet := Lib.hid hget
      clear hget
      go_wp2_with fail
      refine (HGet.out _).mono ?_
      rintro e w' ⟨rfl, rfl⟩
      go_wp2_with fail
      refine (HGet.out _).mono ?_
      rintro e w' ⟨rfl, rfl⟩
      have HR1 := Lib.hid (refGet_all A1 j c1 T false HTL.out (by omega) hTB w2 hout.bytes.2)
      go_wp2_with fail
      refine HR1.out.mono ?_
      rintro e w3 ⟨rfl, hB3⟩
      have hout3 := hout.below hB3
      clear HR1 hB3 hout HGet
      have HR1 := Lib.hid (refGet_all A1 j c1 T true HTL.out (by omega) hTB w3 hout3.bytes.2)
      go_wp2_with fail
      refine HR1.out.mono ?_
      rintro e w4 ⟨rfl, hB4⟩
      have hout4 := hout3.below hB4
      clear HR1 hB4 hout3
      have HBk := Lib.hid (back_s hout4 j c1 HTL.out (by omega))
      go_wp2_with fail
      refine HBk.out.mono ?_
      rintro e w5 ⟨rfl, hS5⟩
      clear HBk hout4
      go_wp2_with fail
      go_roundw
      case rel => exact ⟨j + 1, by omega, by omega, by go_num, _, hS5⟩
      case measure => simp [intOf]; omega
    · have f1 : decide (j ≤ n) = false ∨ j ≤ n ∧ decide ((j : Int) ≤ 12) = false := by
        by_cases h1 : j ≤ n
        · exact .inr ⟨h1, by simp; omega⟩
        · exact .inl (by simp; omega)
      have hc0 : ∀ b off, A = some ⟨b, off, none⟩ → 0 < n → b < w.heap.size := by
        intro b off e hp
        obtain ⟨b', off', e', hlt, _⟩ := HA.out (by rw [HL.out]; exact hp)
        rw [e] at e'; injection e' with e'; injection e' with e1 e2; omega
      have hat : BytesAt wr A L := fun hp => by
        obtain ⟨b, off, e, hlt, hcell⟩ := HA.out hp
        refine ⟨b, off, e, by have := hS.2.2.2.1.size; omega, fun i hi => ?_⟩
        rw [hS.2.2.2.1.cell (p := ⟨b, off + i, none⟩) hlt, hcell i hi]
      have hlend := lend_s hS A n c L HL.out hn hat (fun hp b off e => by
        have := hc0 b off e hp
        exact ⟨by omega, .inl this⟩)
      have HLend := Lib.hid hlend
      clear hlend hat hc0 hS
      rcases f1 with f1 | ⟨f1, f2⟩
      all_goals
        go_wp2_with fail
        refine HLend.out.mono ?_
        rintro e w2 ⟨r, m, rfl, hout⟩
        clear HLend
        have HGet := Lib.hid (get_all (some ⟨r, 0, none⟩) n m L true HL.out (by omega) HB.out w2 hout.bytes.1)
        go_wp2_with fail
        refine HGet.out.mono ?_
        rintro e w' ⟨rfl, rfl⟩
        have HR1 := Lib.hid (refGet_all A n c L true HL.out (by omega) HB.out w2 hout.bytes.2)
        go_wp2_with fail
        refine HR1.out.mono ?_
        rintro e w3 ⟨rfl, hB3⟩
        have hout3 := hout.below hB3
        clear HR1 hB3 hout HGet
        have HBk := Lib.hid (back_s hout3 n c HL.out (by omega))
        go_wp2_with fail
        refine HBk.out.mono ?_
        rintro e w5 ⟨rfl, hS5⟩
        clear HBk hout3
        have hbf : Below w.heap.size w (w5.alloc (.cells #[.int .u8 1, .int .u8 2] 5)) := hS5.2.2.2.1.alloc hS5.2.2.2.1.size _
        have hb2 : BytesAt (w5.alloc (.cells #[.int .u8 1, .int .u8 2] 5)) (some ⟨w5.heap.size, 0, none⟩) [1, 2] := (ByteBlk.new w5 [1, 2]).at_
        have HB2 := Lib.hid (get_all (some ⟨w5.heap.size, 0, none⟩) 2 2 [1, 2] false rfl (by decide) (fun x hx => by simp at hx; omega) _ hb2)
        rw [show getV [1, 2] false = 513 from by decide +kernel] at HB2
        clear hb2 hS5
        go_wp2_with fail
        refine HB2.out.mono ?_
        rintro e w' ⟨rfl, rfl⟩
        go_wp2_with fail
        go_ret
        exact ⟨rfl, hbf⟩
end Go.Proofs.Ytoiaplefokociab
