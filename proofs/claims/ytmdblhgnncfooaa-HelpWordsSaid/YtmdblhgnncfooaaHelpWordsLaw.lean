/- HelpWords: the walk. -/
import Derived.Test.YtmdblhgnncfooaaHG
import Derived.Test.YtmdblhgnncfooaaHelpPartsLaw
import Derived.Test.YtmdblhgnncfooaaInv
namespace Go.Proofs.Ytmdblhgnncfooaa
open Go.ChangeShapes Go.WideShapes Go.ChangeAt Go.RowKit
open Bits HM
set_option linter.unusedVariables false
set_option linter.unusedSimpArgs false

theorem place_any (a : Int) (n : Nat) (hn : 0 < n) (hn2 : n ≤ 70368744177664) (ha : -9223372036854775808 ≤ a ∧ a ≤ 9223372036854775807) (w : World) :
    Calls Try.prog 33 #[.int .i64 a, .int .i64 n] w fun e w' => ∃ k : Nat, k < n ∧ e = .returned (.int .i64 k) ∧ w = w' := by
  have hn0 : (n : Int) ≠ 0 := by omega
  have hb1 : -(n : Int) < a.tmod n := Int.lt_tmod_of_pos a (by omega)
  have hb2 : a.tmod n < n := Int.tmod_lt_of_pos a (by omega)
  have hq0 : 0 ≤ (a.tmod n + n) % (n : Int) := Int.emod_nonneg _ hn0
  have hq1 : (a.tmod n + n) % (n : Int) < n := Int.emod_lt_of_pos _ (by omega)
  have HQ := Lib.hid (show ∃ k : Nat, k < n ∧ (a.tmod n + n) % (n : Int) = k from ⟨((a.tmod n + n) % (n : Int)).toNat, by omega, by omega⟩)
  clear hq0 hq1
  go_enter Try.func33, Try.ntmps33
  go_wp2_with fail
  obtain ⟨k, hk, e⟩ := HQ.out
  go_ret
  exact ⟨k, hk, by rw [← e]; rfl, rfl⟩

theorem World.ownsRow.drewN' {w : World} {base : Nat} {v : Value} {L : List Int} (h : OwnB w base v L) (q : Nat) : OwnB (w.drewN q) base v L := h
/-- append under a guard that holds -/
theorem append_bytes_g {P : Program} (hu : P.underlying 37 = some (.slice 5)) (hinf : (P.info? 5).map (fun i => (i.zero, i.size, i.bytes)) = some (some (.int .u8 0), 1, 1)) (w : World) {ops : Array Oper} {rest : List Oper} {o : Oper} {a : Act} {Q : Exit → Act → World → Prop} (hw : Region.wanted o (yielded ops a.tmps) = true) (s x : Operand)
    (ho : o.op = .call { callee := .builtin .append, args := #[s, x], argTypes := #[37, 37] })
    (base : Nat) (v : Value) (L : List Int) (hs : a.eval s = v) (hown : OwnB w base v L)
    (A : Option Addr) (m c : Nat) (M : List Int) (hx : a.eval x = .slice A m c) (hm : M.length = m) (hr : BytesAt w A M)
    (hlen : L.length + m ≤ 140737488355328) (hbase : base ≤ w.heap.size)
    (h : ∀ v' w', OwnB w' base v' (L ++ M) → Below base w w' → wpList P ops Q rest (a.put o.dst v') w') : wpList P ops Q (o :: rest) a w := by
  subst hm
  obtain ⟨i0, hi, hz0, hz1, hz2⟩ := info_parts hinf
  refine wpList_step fun K hK => ?_
  rw [if_pos hw]
  refine wp_append_any w s x 37 ho base 5 i0 (.int .u8 0) 1 1 hu hi hz0 hz1 hz2 rfl (by decide) v L.length _ hs hown w.heap.size A M.length c _ hx hr.reads
    (fun u hu => ?_) (by unfold maxLen; omega) (by omega) hbase ?_
  · simp only [List.mem_map] at hu
    obtain ⟨z, _, rfl⟩ := hu
    rfl
  · intro v' w' h1 h2 _
    refine hK _ _ (h v' w' ?_ ((Below.refl base w).grown h2 hbase fun k hk => (World.ownsRow.lt hown k hk).1))
    unfold OwnB
    rw [List.length_append, List.map_append]
    exact h1
/-- all zero up to a place -/
def zB (L : List Int) (s0 : Int) (k : Nat) : Bool := (s0 == 0) && (L.take k).all (· == 0)
theorem zB_step (L : List Int) (s0 : Int) (k : Nat) (hk : k < L.length) : zB L s0 (k + 1) = (zB L s0 k && (L[k]?.getD 0 == 0)) := by
  unfold zB
  rw [List.take_add_one, List.getElem?_eq_getElem hk, List.all_append, Bool.and_assoc]
  simp only [Option.toList, List.all_cons, List.all_nil, Bool.and_true, Option.getD_some]
theorem zB_end (L : List Int) (s0 : Int) (hb : Byt L) (h0 : 0 ≤ s0 ∧ s0 ≤ 65535) : (sumW L s0 == 0) = zB L s0 L.length := by
  have h := sumW_zero L s0 hb h0
  unfold zB
  rw [List.take_length]
  by_cases hz : sumW L s0 = 0
  · obtain ⟨h1, h2⟩ := h.1 hz
    have e : L.all (· == 0) = true := List.all_eq_true.2 fun x hx => by simpa using h2 x hx
    rw [hz, h1, e]; rfl
  · have e1 : (sumW L s0 == 0) = false := by simpa using hz
    rw [e1]
    cases e2 : ((s0 == 0) && L.all (· == 0)) with
    | false => rfl
    | true =>
      simp only [Bool.and_eq_true, beq_iff_eq, List.all_eq_true] at e2
      exact absurd (h.2 e2) hz
theorem sumW_pad (C : List Int) (s0 : Int) (hb : Byt C) (h0 : 0 ≤ s0 ∧ s0 ≤ 65535) (ho : C.length % 2 = 1) : sumW (C ++ [0]) s0 = sumW C s0 := by
  have hb2 : Byt (C ++ [0]) := fun x hx => by
    rcases List.mem_append.1 hx with h | h
    · exact hb x h
    · simp at h; omega
  rw [sumW_eq _ _ hb2 h0, sumW_eq _ _ hb h0, tot_append, if_neg (by omega)]
  congr 1
  simp [tot]
theorem getD_set_ne' (L : List Int) (a b : Nat) (x : Int) (h : a ≠ b) : (L.set a x)[b]?.getD 0 = L[b]?.getD 0 := by
  rw [List.getElem?_set_ne h]
/-- two words have changed places -/
def swapped (L : List Int) (i k : Nat) : List Int :=
  ((((L.set (2 * i) (L[2 * k]?.getD 0)).set (2 * k) (L[2 * i]?.getD 0)).set (2 * i + 1) (L[2 * k + 1]?.getD 0)).set (2 * k + 1) (L[2 * i + 1]?.getD 0))
theorem swapped_two (L C : List Int) (i k : Nat) (hC : C = (L.set (2 * i) (L[2 * k]?.getD 0)).set (2 * k) (L[2 * i]?.getD 0)) :
    (C.set (2 * i + 1) (C[2 * k + 1]?.getD 0)).set (2 * k + 1) (C[2 * i + 1]?.getD 0) = swapped L i k := by
  subst hC
  rw [getD_set_ne' _ _ _ _ (by omega), getD_set_ne' _ _ _ _ (by omega), getD_set_ne' _ _ _ _ (by omega), getD_set_ne' _ _ _ _ (by omega)]
  rfl
theorem byt_set {L : List Int} (h : Byt L) (i : Nat) (x : Int) (hx : 0 ≤ x ∧ x < 256) : Byt (L.set i x) := fun y hy => by
  rcases List.mem_or_eq_of_mem_set hy with h1 | h1
  · exact h y h1
  · rw [h1]; exact hx
theorem byt_swapped {L : List Int} (h : Byt L) (i k : Nat) : Byt (swapped L i k) := by
  unfold swapped
  exact byt_set (byt_set (byt_set (byt_set h _ _ (byt_at h _)) _ _ (byt_at h _)) _ _ (byt_at h _)) _ _ (byt_at h _)
theorem swapped_length (L : List Int) (i k : Nat) : (swapped L i k).length = L.length := by unfold swapped; simp
theorem sumW_swapped (L : List Int) (i k : Nat) (s0 : Int) (hb : Byt L) (h0 : 0 ≤ s0 ∧ s0 ≤ 65535) (hi : 2 * i + 1 < L.length) (hk : 2 * k + 1 < L.length) : sumW (swapped L i k) s0 = sumW L s0 := by
  rw [sumW_eq _ _ (byt_swapped hb i k) h0, sumW_eq _ _ hb h0]
  congr 2
  exact tot_swap L i k hi hk

/-- a row of bytes of which two places are exchanged, between the two stores -/
structure SwapM (w0 : World) (base g N cap : Nat) (L : List Int) (a b : Nat) (x y : Int) (p1 p2 : Prop) (w : World) : Prop where
  below : Below base w0 w
  bg : base ≤ g
  len : L.length = N
  la : a < N
  lb : b < N
  hx : L[a]?.getD 0 = x
  hy : L[b]?.getD 0 = y
  own0 : ¬ p1 → OwnB w base (.slice (some ⟨g, 0, none⟩) N cap) L
  own1 : p1 → ¬ p2 → OwnB w base (.slice (some ⟨g, 0, none⟩) N cap) (L.set a y)
  own2 : p2 → OwnB w base (.slice (some ⟨g, 0, none⟩) N cap) ((L.set a y).set b x)
section
variable {w0 w : World} {base g N cap a b : Nat} {L : List Int} {x y : Int} {p1 p2 : Prop}
theorem OwnB.cellAt (h : OwnB w base (.slice (some ⟨g, 0, none⟩) N cap) L) (hL : L.length = N) (j : Nat) (hj : j < N) : w.cell? ⟨g, j, none⟩ = some (.int .u8 (L[j]?.getD 0)) := by
  unfold OwnB at h
  rw [hL] at h
  have := World.ownsRow.cellAt h j (by omega)
  rw [this]
  simp [List.getElem?_eq_getElem (show j < L.length by omega)]
theorem OwnB.frozenAt (h : OwnB w base (.slice (some ⟨g, 0, none⟩) N cap) L) (hL : L.length = N) (j : Nat) : w.frozen? ⟨g, j, none⟩ = false := by
  unfold OwnB at h
  rw [hL] at h
  exact World.ownsRow.frozenAt h j
theorem OwnB.put (h : OwnB w base (.slice (some ⟨g, 0, none⟩) N cap) L) (hL : L.length = N) (j : Nat) (z : Int) : OwnB (w.setCell ⟨g, j, none⟩ (.int .u8 z)) base (.slice (some ⟨g, 0, none⟩) N cap) (L.set j z) := by
  unfold OwnB at h ⊢
  rw [hL] at h
  rw [List.length_set, hL, List.map_set]
  exact (World.ownsRow.stored h j (.int .u8 z)).1
theorem SwapM.step (h : SwapM w0 base g N cap L a b x y p1 p2 w) {q1 q2 : Prop} (h1 : ¬ q1) (h2 : ¬ q2) : SwapM w0 base g N cap L a b x y (q1 ∨ p1) (q2 ∨ p2) w :=
  ⟨h.below, h.bg, h.len, h.la, h.lb, h.hx, h.hy, fun hn => h.own0 fun hp => hn (.inr hp), fun hp hn => h.own1 (hp.resolve_left h1) fun hp => hn (.inr hp), fun hp => h.own2 (hp.resolve_left h2)⟩
theorem SwapM.loadX (h : SwapM w0 base g N cap L a b x y p1 p2 w) (hn : ¬ p1) : w.cell? ⟨g, a, none⟩ = some (.int .u8 x) := by
  rw [(h.own0 hn).cellAt h.len a h.la, h.hx]
theorem SwapM.loadY (h : SwapM w0 base g N cap L a b x y p1 p2 w) (hn : ¬ p1) : w.cell? ⟨g, b, none⟩ = some (.int .u8 y) := by
  rw [(h.own0 hn).cellAt h.len b h.lb, h.hy]
theorem SwapM.cell1 (h : SwapM w0 base g N cap L a b x y p1 p2 w) (hn : ¬ p1) (_ : ¬ p2) : w.cell? ⟨g, a, none⟩ = some (.int .u8 x) ∧ w.frozen? ⟨g, a, none⟩ = false :=
  ⟨h.loadX hn, (h.own0 hn).frozenAt h.len a⟩
theorem SwapM.cell2 (h : SwapM w0 base g N cap L a b x y p1 p2 w) (hp : p1) (hn : ¬ p2) : w.cell? ⟨g, b, none⟩ = some (.int .u8 y) ∧ w.frozen? ⟨g, b, none⟩ = false := by
  have h1 := h.own1 hp hn
  have hl : (L.set a y).length = N := by rw [List.length_set]; exact h.len
  refine ⟨?_, h1.frozenAt hl b⟩
  rw [h1.cellAt hl b h.lb]
  by_cases e : a = b
  · subst e
    rw [List.getElem?_set_self (by rw [h.len]; exact h.la)]
    rfl
  · rw [getD_set_ne' _ _ _ _ e, h.hy]
theorem SwapM.store1 (h : SwapM w0 base g N cap L a b x y p1 p2 w) (hn : ¬ p1) (_ : ¬ p2) {q1 q2 : Prop} (hq1 : q1) (hq2 : ¬ q2) : SwapM w0 base g N cap L a b x y q1 q2 (w.setCell ⟨g, a, none⟩ (.int .u8 y)) :=
  ⟨h.below.setCell h.bg _, h.bg, h.len, h.la, h.lb, h.hx, h.hy, fun hn => absurd hq1 hn, fun _ _ => (h.own0 hn).put h.len a y, fun hp => absurd hp hq2⟩
theorem SwapM.store2 (h : SwapM w0 base g N cap L a b x y p1 p2 w) (hp : p1) (hn : ¬ p2) {q1 q2 : Prop} (hq2 : q2) : SwapM w0 base g N cap L a b x y (q1 ∨ p1) q2 (w.setCell ⟨g, b, none⟩ (.int .u8 x)) :=
  ⟨h.below.setCell h.bg _, h.bg, h.len, h.la, h.lb, h.hx, h.hy, fun hn => absurd (.inr hp) hn, fun _ hn2 => absurd hq2 hn2, fun _ => (h.own1 hp hn).put (by rw [List.length_set]; exact h.len) b x⟩
theorem SwapM.done (h : SwapM w0 base g N cap L a b x y p1 p2 w) (hp : p2) : Below base w0 w ∧ OwnB w base (.slice (some ⟨g, 0, none⟩) N cap) ((L.set a y).set b x) := ⟨h.below, h.own2 hp⟩
end
/-- SwapA: what holds, whatever has come up -/
def SwapAR (w0 : World) (base g N cap : Nat) (L : List Int) (i k : Nat) (x y : Int) (u : Nat → Prop) (X : Tmp → Value) (w : World) : Prop :=
  SwapM w0 base g N cap L (2 * i) (2 * k) x y (u 17) (u 19) w ∧
  (u 0 → X 61 = .slice (some ⟨g, 0, none⟩) N cap) ∧
  (u 1 → X 62 = .int .i64 (i : Int)) ∧
  (u 2 → X 63 = .int .i64 (2 * (i : Int))) ∧
  (u 3 → X 64 = .slice (some ⟨g, 0, none⟩) N cap) ∧
  (u 4 → X 65 = .int .i64 (k : Int)) ∧
  (u 5 → X 66 = .int .i64 (2 * (k : Int))) ∧
  (u 6 → X 67 = .slice (some ⟨g, 0, none⟩) N cap) ∧
  (u 7 → X 68 = .int .i64 (k : Int)) ∧
  (u 8 → X 69 = .int .i64 (2 * (k : Int))) ∧
  (u 9 → X 70 = .pointer (some ⟨g, 2 * k, none⟩)) ∧
  (u 10 → X 71 = .int .u8 y) ∧
  (u 11 → X 72 = .slice (some ⟨g, 0, none⟩) N cap) ∧
  (u 12 → X 73 = .int .i64 (i : Int)) ∧
  (u 13 → X 74 = .int .i64 (2 * (i : Int))) ∧
  (u 14 → X 75 = .pointer (some ⟨g, 2 * i, none⟩)) ∧
  (u 15 → X 76 = .int .u8 x) ∧
  (u 16 → X 77 = .pointer (some ⟨g, 2 * i, none⟩)) ∧
  (u 18 → X 78 = .pointer (some ⟨g, 2 * k, none⟩)) ∧
  (u 17 → u 10) ∧
  (u 17 → u 15) ∧
  (u 19 → u 17)
/-- SwapB: what holds, whatever has come up -/
def SwapBR (w0 : World) (base g N cap : Nat) (L : List Int) (i k : Nat) (x y : Int) (u : Nat → Prop) (X : Tmp → Value) (w : World) : Prop :=
  SwapM w0 base g N cap L (2 * i + 1) (2 * k + 1) x y (u 21) (u 23) w ∧
  (u 0 → X 79 = .slice (some ⟨g, 0, none⟩) N cap) ∧
  (u 1 → X 80 = .int .i64 (i : Int)) ∧
  (u 2 → X 81 = .int .i64 (2 * (i : Int))) ∧
  (u 3 → X 82 = .int .i64 (2 * (i : Int) + 1)) ∧
  (u 4 → X 83 = .slice (some ⟨g, 0, none⟩) N cap) ∧
  (u 5 → X 84 = .int .i64 (k : Int)) ∧
  (u 6 → X 85 = .int .i64 (2 * (k : Int))) ∧
  (u 7 → X 86 = .int .i64 (2 * (k : Int) + 1)) ∧
  (u 8 → X 87 = .slice (some ⟨g, 0, none⟩) N cap) ∧
  (u 9 → X 88 = .int .i64 (k : Int)) ∧
  (u 10 → X 89 = .int .i64 (2 * (k : Int))) ∧
  (u 11 → X 90 = .int .i64 (2 * (k : Int) + 1)) ∧
  (u 12 → X 91 = .pointer (some ⟨g, 2 * k + 1, none⟩)) ∧
  (u 13 → X 92 = .int .u8 y) ∧
  (u 14 → X 93 = .slice (some ⟨g, 0, none⟩) N cap) ∧
  (u 15 → X 94 = .int .i64 (i : Int)) ∧
  (u 16 → X 95 = .int .i64 (2 * (i : Int))) ∧
  (u 17 → X 96 = .int .i64 (2 * (i : Int) + 1)) ∧
  (u 18 → X 97 = .pointer (some ⟨g, 2 * i + 1, none⟩)) ∧
  (u 19 → X 98 = .int .u8 x) ∧
  (u 20 → X 99 = .pointer (some ⟨g, 2 * i + 1, none⟩)) ∧
  (u 22 → X 100 = .pointer (some ⟨g, 2 * k + 1, none⟩)) ∧
  (u 21 → u 13) ∧
  (u 21 → u 19) ∧
  (u 23 → u 21)

/-- behind the exchange, or where there is none -/
def WordsS (w0 : World) (base n : Nat) (v : Value) (s0 S : Int) (w : World) : Prop := ∃ C, OwnB w base v C ∧ C.length = n ∧ Byt C ∧ sumW C s0 = S ∧ Below base w0 w

set_option maxRecDepth 100000 in
set_option maxHeartbeats 4000000 in
theorem helpWords_walk (w : World) (A : Option Addr) (n c : Nat) (L : List Int) (hL : L.length = n) (hnc : n ≤ c ∧ c ≤ 140737488351232) (hb : Byt L) (hA : BytesAt w A L)
    (seed : Int) (hseed : -9223372036854775808 ≤ seed ∧ seed ≤ 9223372036854775807) (pi : Int) (hpi : -9223372036854775808 ≤ pi ∧ pi ≤ 9223372036854775807) (pk : Int) (hpk : -9223372036854775808 ≤ pk ∧ pk ≤ 9223372036854775807) :
    Calls Try.prog 10 #[.slice A n c, .int .i64 seed, .int .i64 pi, .int .i64 pk] w fun e w' => e = .returned (.bool true) ∧ Below w.heap.size w w' := by
  have hk := Lib.hid (known_any w)
  have HA := Lib.hid hA
  have HL := Lib.hid hL
  have HY := Lib.hid hb
  obtain ⟨hn1, hn2⟩ := hnc
  have ha := and16 seed
  have h0 : 0 ≤ seed % 65536 ∧ seed % 65536 ≤ 65535 := by omega
  have hsm := fun w A c' C (hC : C.length = n) h1 h2 hb hA => sum_any w A n c' C seed hC h1 h2 hb hA
  have hsm1 := fun w A c' m C (hC : C.length = m) h1 h2 hb hA => sum_any w A m c' C seed hC h1 h2 hb hA
  clear hL hb hA
  generalize seed % 65536 = s0 at *
  have HS0 := Lib.hid h0
  have HSM := Lib.hid hsm
  have HSM1 := Lib.hid hsm1
  have hrg := sumW_rng L s0 HY.out h0
  have HZ := Lib.hid (zB_end L s0 HY.out h0)
  have HSW := Lib.hid (fun i k => sumW_swapped L i k s0 HY.out h0)
  clear hsm hsm1 h0
  go_enter Try.func10, Try.ntmps10
  go_wp2_with fail
  refine hk.out.mono ?_
  rintro e w1 ⟨rfl, hB⟩
  have HA1 := Lib.hid (HA.out.below hB)
  clear hk HA
  go_wp2_with fail
  refine (HSM.out w1 A c L HL.out hn1 (by unfold maxLen; omega) HY.out HA1.out).mono ?_
  rintro e w2 ⟨rfl, q, hq⟩
  have HA2 : Hid (BytesAt w2 A L) := Lib.hid (by rw [hq]; exact HA1.out)
  have hB2 : Below w.heap.size w w2 := by rw [hq]; exact below_drewN hB q
  clear hB HA1 hq q
  have HSV := Lib.hid (show sumW L s0 = sumW L s0 from rfl)
  go_wp2_with fail
  go_loopw [10, 11] (fun z i wr => ∃ j : Nat, j ≤ n ∧ i = .int .i64 j ∧ z = .bool (zB L s0 j) ∧ wr = w2) (fun _ i _ => (n - intOf i).toNat)
  case atStart => exact ⟨0, Nat.zero_le _, rfl, by unfold zB; simp, rfl⟩
  case round =>
    obtain ⟨j, hj, rfl, rfl, rfl⟩ := hrel
    by_cases hlt : j < n
    · obtain ⟨b, off, e1, hbl, hc⟩ := HA2.out (by have := HL.out; omega)
      have hcj := hc j (by have := HL.out; omega)
      have HZS := Lib.hid (zB_step L s0 j (by have := HL.out; omega))
      have g1 : (j : Int) < n := by omega
      subst e1
      clear hc
      generalize L[j]?.getD 0 = y at *
      cases hzb : zB L s0 j with
      | false =>
        have HR := Lib.hid (show zB L s0 (j + 1) = false by rw [HZS.out, hzb]; rfl)
        clear hzb HZS
        go_wp2_with fail
        go_roundw
        case rel => exact ⟨j + 1, by omega, by go_num, by rw [HR.out], trivial⟩
        case measure => simp [intOf]; omega
      | true =>
        have HR := Lib.hid (show zB L s0 (j + 1) = (y == 0) by rw [HZS.out, hzb]; rfl)
        clear hzb HZS
        go_wp2_with fail
        go_roundw
        case rel => exact ⟨j + 1, by omega, by go_num, by rw [HR.out], trivial⟩
        case measure => simp [intOf]; omega
    · obtain rfl : j = n := by omega
      have hz := HZ.out
      rw [HL.out] at hz
      have g1 : decide ((j : Int) < j) = false := by simp
      have hnz : ((sumW L s0 == 0) == zB L s0 j) = true := by rw [hz]; simp
      have HCp := Lib.hid (copyBytes_own wr A j c L HL.out (by omega) HA2.out)
      obtain ⟨hr0, hr1⟩ := hrg
      have hsz := hB2.size
      clear HZ hz HA2
      generalize zB L s0 j = Z at *
      have HSD := Lib.hid (show ∃ S, S = sumW L s0 from ⟨_, rfl⟩)
      obtain ⟨S, hS⟩ := HSD.out
      rw [← hS] at hr0 hr1 hnz ⊢
      have HS := Lib.hid hS
      clear hS HSD
      go_upto_region 11 with (fail)
      go_upto_region 12 with (go_at_call 26; refine HCp.out.mono ?_; rintro e w3 ⟨v, rfl, hown, hB3⟩)
      have hs3 := hB3.size
      obtain ⟨A1, cap, hv, hat, hlc, hcm⟩ := ownB_slice hown
      rw [HL.out] at hv hlc
      have HV := Lib.hid hv
      subst hv
      clear HCp
      obtain ⟨m, hm⟩ : ∃ m : Nat, m = j / 2 := ⟨_, rfl⟩
      have hmi : (j : Int) / 2 = (m : Int) := by omega
      have HM2 := Lib.hid hm
      clear hm
      go_upto_region 13 with (fail)
      clear hmi
      go_upto_if 54 with (fail)
      go_cut [2, 3] (fun s2 s3 wx => WordsS wr wr.heap.size j (.slice A1 j cap) s0 S wx)
      case first =>
        by_cases hj2 : 2 ≤ j
        · obtain ⟨g, hg, rfl⟩ : ∃ g, wr.heap.size ≤ g ∧ A1 = some ⟨g, 0, none⟩ := by
            rcases hown.2 with ⟨hv, _⟩ | ⟨g, cap', cur, hv, hg, _⟩
            · injection hv with e1 e2 e3
              omega
            · injection hv with e1 e2 e3
              exact ⟨g, hg, e1⟩
          have hm := HM2.out
          have hm0 : (0 : Int) < (m : Int) := by omega
          have hp1 := Lib.hid (fun w => place_any pi m (by omega) (by omega) hpi w)
          have hp2 := Lib.hid (fun w => place_any pk m (by omega) (by omega) hpk w)
          clear hm hat hnz
          go_upto_region 15 with (first | (go_at_call 33; with_reducible refine (hp1.out _).mono ?_; rintro e w' ⟨i, hi, rfl, rfl⟩) | (go_at_call 33; with_reducible refine (hp2.out _).mono ?_; rintro e w' ⟨k, hk, rfl, rfl⟩))
          have hm := HM2.out
          have i1 : IntKind.i64.wrap (2 * (i : Int)) = 2 * (i : Int) := IntWalk.i64_in _ (by omega)
          have i2 : (2 * (i : Int)).toNat = 2 * i := by omega
          have i3 : (0 : Int) ≤ 2 * (i : Int) := by omega
          have i4 : 2 * (i : Int) < (j : Int) := by omega
          have i5 : 2 * i < j := by omega
          have k1 : IntKind.i64.wrap (2 * (k : Int)) = 2 * (k : Int) := IntWalk.i64_in _ (by omega)
          have k2 : (2 * (k : Int)).toNat = 2 * k := by omega
          have k3 : (0 : Int) ≤ 2 * (k : Int) := by omega
          have k4 : 2 * (k : Int) < (j : Int) := by omega
          have k5 : 2 * k < j := by omega
          have i6 : IntKind.i64.wrap (2 * (i : Int) + 1) = 2 * (i : Int) + 1 := IntWalk.i64_in _ (by omega)
          have i7 : (2 * (i : Int) + 1).toNat = 2 * i + 1 := by omega
          have i8 : (0 : Int) ≤ 2 * (i : Int) + 1 := by omega
          have i9 : 2 * (i : Int) + 1 < (j : Int) := by omega
          have i10 : 2 * i + 1 < j := by omega
          have k6 : IntKind.i64.wrap (2 * (k : Int) + 1) = 2 * (k : Int) + 1 := IntWalk.i64_in _ (by omega)
          have k7 : (2 * (k : Int) + 1).toNat = 2 * k + 1 := by omega
          have k8 : (0 : Int) ≤ 2 * (k : Int) + 1 := by omega
          have k9 : 2 * (k : Int) + 1 < (j : Int) := by omega
          have k10 : 2 * k + 1 < j := by omega
          clear hm hi hk hp1 hp2 hm0
          obtain ⟨x, hx⟩ : ∃ x, L[2 * i]?.getD 0 = x := ⟨_, rfl⟩
          obtain ⟨y, hy⟩ : ∃ y, L[2 * k]?.getD 0 = y := ⟨_, rfl⟩
          have HST : Hid (SwapM wr wr.heap.size g j cap L (2 * i) (2 * k) x y False False w3.drew) := Lib.hid ⟨hB3.drew, hg, HL.out, i5, k5, hx, hy, fun _ => World.ownsRow.drew hown, fun h => h.elim, fun h => h.elim⟩
          have HX := Lib.hid hx
          have HY2 := Lib.hid hy
          clear hx hy hown
          refine Inv.wp_region_inv [61, 62, 63, 64, 65, 66, 67, 68, 69, 70, 71, 72, 73, 74, 75, 76, 77, 78] (SwapAR wr wr.heap.size g j cap L i k x y) (by kernel_rfl) (by kernel_rfl) [0, 1, 2, 3, 4, 5, 6, 7, 8, 9, 10, 11, 12, 13, 14, 15, 16, 17, 18, 19] (by kernel_rfl) ?_ ?_ ?_
          · exact ⟨HST.out, fun h => h.elim, fun h => h.elim, fun h => h.elim, fun h => h.elim, fun h => h.elim, fun h => h.elim, fun h => h.elim, fun h => h.elim, fun h => h.elim, fun h => h.elim, fun h => h.elim, fun h => h.elim, fun h => h.elim, fun h => h.elim, fun h => h.elim, fun h => h.elim, fun h => h.elim, fun h => h.elim, fun h => h.elim, fun h => h.elim, fun h => h.elim⟩
          · refine Inv.AllInv.cons ({ dst := some 61, op := Op.move (Operand.tmp 12), type := 37, pos := "outright.go:37", after := #[], guard := none }) rfl rfl [] (by kernel_rfl) ?_ ?_
            · intro Q2 u X wv hR hu hd K hK
              obtain ⟨q0, q1, q2, q3, q4, q5, q6, q7, q8, q9, q10, q11, q12, q13, q14, q15, q16, q17, q18, q19, q20, q21⟩ := hR
              refine ⟨?_⟩
              simp only [Inv.puts, Act.put, List.setIfInBounds_toArray, List.set_cons_zero, List.set_cons_succ] at hK
              simp only [Inv.puts, Act.put, List.setIfInBounds_toArray, List.set_cons_zero, List.set_cons_succ]
              go_simp
              refine hK.out (Inv.upd X 61 (.slice (some ⟨g, 0, none⟩) j cap)) _ ?_
              exact ⟨q0.step (by decide) (by decide), fun _ => rfl, fun h => q2 (h.resolve_left (by decide)), fun h => q3 (h.resolve_left (by decide)), fun h => q4 (h.resolve_left (by decide)), fun h => q5 (h.resolve_left (by decide)), fun h => q6 (h.resolve_left (by decide)), fun h => q7 (h.resolve_left (by decide)), fun h => q8 (h.resolve_left (by decide)), fun h => q9 (h.resolve_left (by decide)), fun h => q10 (h.resolve_left (by decide)), fun h => q11 (h.resolve_left (by decide)), fun h => q12 (h.resolve_left (by decide)), fun h => q13 (h.resolve_left (by decide)), fun h => q14 (h.resolve_left (by decide)), fun h => q15 (h.resolve_left (by decide)), fun h => q16 (h.resolve_left (by decide)), fun h => q17 (h.resolve_left (by decide)), fun h => q18 (h.resolve_left (by decide)), fun h => .inr (q19 (h.resolve_left (by decide))), fun h => .inr (q20 (h.resolve_left (by decide))), fun h => .inr (q21 (h.resolve_left (by decide)))⟩
            refine Inv.AllInv.cons ({ dst := some 62, op := Op.move (Operand.tmp 2), type := 3, pos := "outright.go:37", after := #[], guard := none }) rfl rfl [] (by kernel_rfl) ?_ ?_
            · intro Q2 u X wv hR hu hd K hK
              obtain ⟨q0, q1, q2, q3, q4, q5, q6, q7, q8, q9, q10, q11, q12, q13, q14, q15, q16, q17, q18, q19, q20, q21⟩ := hR
              refine ⟨?_⟩
              simp only [Inv.puts, Act.put, List.setIfInBounds_toArray, List.set_cons_zero, List.set_cons_succ] at hK
              simp only [Inv.puts, Act.put, List.setIfInBounds_toArray, List.set_cons_zero, List.set_cons_succ]
              go_simp
              refine hK.out (Inv.upd X 62 (.int .i64 (i : Int))) _ ?_
              exact ⟨q0.step (by decide) (by decide), fun h => q1 (h.resolve_left (by decide)), fun _ => rfl, fun h => q3 (h.resolve_left (by decide)), fun h => q4 (h.resolve_left (by decide)), fun h => q5 (h.resolve_left (by decide)), fun h => q6 (h.resolve_left (by decide)), fun h => q7 (h.resolve_left (by decide)), fun h => q8 (h.resolve_left (by decide)), fun h => q9 (h.resolve_left (by decide)), fun h => q10 (h.resolve_left (by decide)), fun h => q11 (h.resolve_left (by decide)), fun h => q12 (h.resolve_left (by decide)), fun h => q13 (h.resolve_left (by decide)), fun h => q14 (h.resolve_left (by decide)), fun h => q15 (h.resolve_left (by decide)), fun h => q16 (h.resolve_left (by decide)), fun h => q17 (h.resolve_left (by decide)), fun h => q18 (h.resolve_left (by decide)), fun h => .inr (q19 (h.resolve_left (by decide))), fun h => .inr (q20 (h.resolve_left (by decide))), fun h => .inr (q21 (h.resolve_left (by decide)))⟩
            refine Inv.AllInv.cons ({ dst := some 63, op := Op.binOp BinOp.mul 3 (Operand.const (Value.int IntKind.i64 2)) (Operand.tmp 62) 3, type := 3, pos := "outright.go:37", after := #[{ on := 1, ground := Ground.data }], guard := none }) rfl rfl [1] (by kernel_rfl) ?_ ?_
            · intro Q2 u X wv hR hu hd K hK
              obtain ⟨q0, q1, q2, q3, q4, q5, q6, q7, q8, q9, q10, q11, q12, q13, q14, q15, q16, q17, q18, q19, q20, q21⟩ := hR
              have e2 := q2 hd.1
              refine ⟨?_⟩
              simp only [Inv.puts, Act.put, List.setIfInBounds_toArray, List.set_cons_zero, List.set_cons_succ] at hK
              simp only [Inv.puts, Act.put, List.setIfInBounds_toArray, List.set_cons_zero, List.set_cons_succ, e2]
              go_simp
              refine hK.out (Inv.upd (Inv.upd X 62 (.int .i64 (i : Int))) 63 (.int .i64 (2 * (i : Int)))) _ ?_
              rw [Inv.upd_same e2]
              exact ⟨q0.step (by decide) (by decide), fun h => q1 (h.resolve_left (by decide)), fun h => q2 (h.resolve_left (by decide)), fun _ => rfl, fun h => q4 (h.resolve_left (by decide)), fun h => q5 (h.resolve_left (by decide)), fun h => q6 (h.resolve_left (by decide)), fun h => q7 (h.resolve_left (by decide)), fun h => q8 (h.resolve_left (by decide)), fun h => q9 (h.resolve_left (by decide)), fun h => q10 (h.resolve_left (by decide)), fun h => q11 (h.resolve_left (by decide)), fun h => q12 (h.resolve_left (by decide)), fun h => q13 (h.resolve_left (by decide)), fun h => q14 (h.resolve_left (by decide)), fun h => q15 (h.resolve_left (by decide)), fun h => q16 (h.resolve_left (by decide)), fun h => q17 (h.resolve_left (by decide)), fun h => q18 (h.resolve_left (by decide)), fun h => .inr (q19 (h.resolve_left (by decide))), fun h => .inr (q20 (h.resolve_left (by decide))), fun h => .inr (q21 (h.resolve_left (by decide)))⟩
            refine Inv.AllInv.cons ({ dst := some 64, op := Op.move (Operand.tmp 12), type := 37, pos := "outright.go:37", after := #[{ on := 17, ground := Ground.gcOnly Departure.lateStores }], guard := none }) rfl rfl [] (by kernel_rfl) ?_ ?_
            · intro Q2 u X wv hR hu hd K hK
              obtain ⟨q0, q1, q2, q3, q4, q5, q6, q7, q8, q9, q10, q11, q12, q13, q14, q15, q16, q17, q18, q19, q20, q21⟩ := hR
              refine ⟨?_⟩
              simp only [Inv.puts, Act.put, List.setIfInBounds_toArray, List.set_cons_zero, List.set_cons_succ] at hK
              simp only [Inv.puts, Act.put, List.setIfInBounds_toArray, List.set_cons_zero, List.set_cons_succ]
              go_simp
              refine hK.out (Inv.upd X 64 (.slice (some ⟨g, 0, none⟩) j cap)) _ ?_
              exact ⟨q0.step (by decide) (by decide), fun h => q1 (h.resolve_left (by decide)), fun h => q2 (h.resolve_left (by decide)), fun h => q3 (h.resolve_left (by decide)), fun _ => rfl, fun h => q5 (h.resolve_left (by decide)), fun h => q6 (h.resolve_left (by decide)), fun h => q7 (h.resolve_left (by decide)), fun h => q8 (h.resolve_left (by decide)), fun h => q9 (h.resolve_left (by decide)), fun h => q10 (h.resolve_left (by decide)), fun h => q11 (h.resolve_left (by decide)), fun h => q12 (h.resolve_left (by decide)), fun h => q13 (h.resolve_left (by decide)), fun h => q14 (h.resolve_left (by decide)), fun h => q15 (h.resolve_left (by decide)), fun h => q16 (h.resolve_left (by decide)), fun h => q17 (h.resolve_left (by decide)), fun h => q18 (h.resolve_left (by decide)), fun h => .inr (q19 (h.resolve_left (by decide))), fun h => .inr (q20 (h.resolve_left (by decide))), fun h => .inr (q21 (h.resolve_left (by decide)))⟩
            refine Inv.AllInv.cons ({ dst := some 65, op := Op.move (Operand.tmp 3), type := 3, pos := "outright.go:37", after := #[{ on := 17, ground := Ground.gcOnly Departure.lateStores }], guard := none }) rfl rfl [] (by kernel_rfl) ?_ ?_
            · intro Q2 u X wv hR hu hd K hK
              obtain ⟨q0, q1, q2, q3, q4, q5, q6, q7, q8, q9, q10, q11, q12, q13, q14, q15, q16, q17, q18, q19, q20, q21⟩ := hR
              refine ⟨?_⟩
              simp only [Inv.puts, Act.put, List.setIfInBounds_toArray, List.set_cons_zero, List.set_cons_succ] at hK
              simp only [Inv.puts, Act.put, List.setIfInBounds_toArray, List.set_cons_zero, List.set_cons_succ]
              go_simp
              refine hK.out (Inv.upd X 65 (.int .i64 (k : Int))) _ ?_
              exact ⟨q0.step (by decide) (by decide), fun h => q1 (h.resolve_left (by decide)), fun h => q2 (h.resolve_left (by decide)), fun h => q3 (h.resolve_left (by decide)), fun h => q4 (h.resolve_left (by decide)), fun _ => rfl, fun h => q6 (h.resolve_left (by decide)), fun h => q7 (h.resolve_left (by decide)), fun h => q8 (h.resolve_left (by decide)), fun h => q9 (h.resolve_left (by decide)), fun h => q10 (h.resolve_left (by decide)), fun h => q11 (h.resolve_left (by decide)), fun h => q12 (h.resolve_left (by decide)), fun h => q13 (h.resolve_left (by decide)), fun h => q14 (h.resolve_left (by decide)), fun h => q15 (h.resolve_left (by decide)), fun h => q16 (h.resolve_left (by decide)), fun h => q17 (h.resolve_left (by decide)), fun h => q18 (h.resolve_left (by decide)), fun h => .inr (q19 (h.resolve_left (by decide))), fun h => .inr (q20 (h.resolve_left (by decide))), fun h => .inr (q21 (h.resolve_left (by decide)))⟩
            refine Inv.AllInv.cons ({ dst := some 66, op := Op.binOp BinOp.mul 3 (Operand.const (Value.int IntKind.i64 2)) (Operand.tmp 65) 3, type := 3, pos := "outright.go:37", after := #[{ on := 4, ground := Ground.data }, { on := 17, ground := Ground.gcOnly Departure.lateStores }], guard := none }) rfl rfl [4] (by kernel_rfl) ?_ ?_
            · intro Q2 u X wv hR hu hd K hK
              obtain ⟨q0, q1, q2, q3, q4, q5, q6, q7, q8, q9, q10, q11, q12, q13, q14, q15, q16, q17, q18, q19, q20, q21⟩ := hR
              have e5 := q5 hd.1
              refine ⟨?_⟩
              simp only [Inv.puts, Act.put, List.setIfInBounds_toArray, List.set_cons_zero, List.set_cons_succ] at hK
              simp only [Inv.puts, Act.put, List.setIfInBounds_toArray, List.set_cons_zero, List.set_cons_succ, e5]
              go_simp
              refine hK.out (Inv.upd (Inv.upd X 65 (.int .i64 (k : Int))) 66 (.int .i64 (2 * (k : Int)))) _ ?_
              rw [Inv.upd_same e5]
              exact ⟨q0.step (by decide) (by decide), fun h => q1 (h.resolve_left (by decide)), fun h => q2 (h.resolve_left (by decide)), fun h => q3 (h.resolve_left (by decide)), fun h => q4 (h.resolve_left (by decide)), fun h => q5 (h.resolve_left (by decide)), fun _ => rfl, fun h => q7 (h.resolve_left (by decide)), fun h => q8 (h.resolve_left (by decide)), fun h => q9 (h.resolve_left (by decide)), fun h => q10 (h.resolve_left (by decide)), fun h => q11 (h.resolve_left (by decide)), fun h => q12 (h.resolve_left (by decide)), fun h => q13 (h.resolve_left (by decide)), fun h => q14 (h.resolve_left (by decide)), fun h => q15 (h.resolve_left (by decide)), fun h => q16 (h.resolve_left (by decide)), fun h => q17 (h.resolve_left (by decide)), fun h => q18 (h.resolve_left (by decide)), fun h => .inr (q19 (h.resolve_left (by decide))), fun h => .inr (q20 (h.resolve_left (by decide))), fun h => .inr (q21 (h.resolve_left (by decide)))⟩
            refine Inv.AllInv.cons ({ dst := some 67, op := Op.move (Operand.tmp 12), type := 37, pos := "outright.go:37", after := #[], guard := none }) rfl rfl [] (by kernel_rfl) ?_ ?_
            · intro Q2 u X wv hR hu hd K hK
              obtain ⟨q0, q1, q2, q3, q4, q5, q6, q7, q8, q9, q10, q11, q12, q13, q14, q15, q16, q17, q18, q19, q20, q21⟩ := hR
              refine ⟨?_⟩
              simp only [Inv.puts, Act.put, List.setIfInBounds_toArray, List.set_cons_zero, List.set_cons_succ] at hK
              simp only [Inv.puts, Act.put, List.setIfInBounds_toArray, List.set_cons_zero, List.set_cons_succ]
              go_simp
              refine hK.out (Inv.upd X 67 (.slice (some ⟨g, 0, none⟩) j cap)) _ ?_
              exact ⟨q0.step (by decide) (by decide), fun h => q1 (h.resolve_left (by decide)), fun h => q2 (h.resolve_left (by decide)), fun h => q3 (h.resolve_left (by decide)), fun h => q4 (h.resolve_left (by decide)), fun h => q5 (h.resolve_left (by decide)), fun h => q6 (h.resolve_left (by decide)), fun _ => rfl, fun h => q8 (h.resolve_left (by decide)), fun h => q9 (h.resolve_left (by decide)), fun h => q10 (h.resolve_left (by decide)), fun h => q11 (h.resolve_left (by decide)), fun h => q12 (h.resolve_left (by decide)), fun h => q13 (h.resolve_left (by decide)), fun h => q14 (h.resolve_left (by decide)), fun h => q15 (h.resolve_left (by decide)), fun h => q16 (h.resolve_left (by decide)), fun h => q17 (h.resolve_left (by decide)), fun h => q18 (h.resolve_left (by decide)), fun h => .inr (q19 (h.resolve_left (by decide))), fun h => .inr (q20 (h.resolve_left (by decide))), fun h => .inr (q21 (h.resolve_left (by decide)))⟩
            refine Inv.AllInv.cons ({ dst := some 68, op := Op.move (Operand.tmp 3), type := 3, pos := "outright.go:37", after := #[], guard := none }) rfl rfl [] (by kernel_rfl) ?_ ?_
            · intro Q2 u X wv hR hu hd K hK
              obtain ⟨q0, q1, q2, q3, q4, q5, q6, q7, q8, q9, q10, q11, q12, q13, q14, q15, q16, q17, q18, q19, q20, q21⟩ := hR
              refine ⟨?_⟩
              simp only [Inv.puts, Act.put, List.setIfInBounds_toArray, List.set_cons_zero, List.set_cons_succ] at hK
              simp only [Inv.puts, Act.put, List.setIfInBounds_toArray, List.set_cons_zero, List.set_cons_succ]
              go_simp
              refine hK.out (Inv.upd X 68 (.int .i64 (k : Int))) _ ?_
              exact ⟨q0.step (by decide) (by decide), fun h => q1 (h.resolve_left (by decide)), fun h => q2 (h.resolve_left (by decide)), fun h => q3 (h.resolve_left (by decide)), fun h => q4 (h.resolve_left (by decide)), fun h => q5 (h.resolve_left (by decide)), fun h => q6 (h.resolve_left (by decide)), fun h => q7 (h.resolve_left (by decide)), fun _ => rfl, fun h => q9 (h.resolve_left (by decide)), fun h => q10 (h.resolve_left (by decide)), fun h => q11 (h.resolve_left (by decide)), fun h => q12 (h.resolve_left (by decide)), fun h => q13 (h.resolve_left (by decide)), fun h => q14 (h.resolve_left (by decide)), fun h => q15 (h.resolve_left (by decide)), fun h => q16 (h.resolve_left (by decide)), fun h => q17 (h.resolve_left (by decide)), fun h => q18 (h.resolve_left (by decide)), fun h => .inr (q19 (h.resolve_left (by decide))), fun h => .inr (q20 (h.resolve_left (by decide))), fun h => .inr (q21 (h.resolve_left (by decide)))⟩
            refine Inv.AllInv.cons ({ dst := some 69, op := Op.binOp BinOp.mul 3 (Operand.const (Value.int IntKind.i64 2)) (Operand.tmp 68) 3, type := 3, pos := "outright.go:37", after := #[{ on := 7, ground := Ground.data }], guard := none }) rfl rfl [7] (by kernel_rfl) ?_ ?_
            · intro Q2 u X wv hR hu hd K hK
              obtain ⟨q0, q1, q2, q3, q4, q5, q6, q7, q8, q9, q10, q11, q12, q13, q14, q15, q16, q17, q18, q19, q20, q21⟩ := hR
              have e8 := q8 hd.1
              refine ⟨?_⟩
              simp only [Inv.puts, Act.put, List.setIfInBounds_toArray, List.set_cons_zero, List.set_cons_succ] at hK
              simp only [Inv.puts, Act.put, List.setIfInBounds_toArray, List.set_cons_zero, List.set_cons_succ, e8]
              go_simp
              refine hK.out (Inv.upd (Inv.upd X 68 (.int .i64 (k : Int))) 69 (.int .i64 (2 * (k : Int)))) _ ?_
              rw [Inv.upd_same e8]
              exact ⟨q0.step (by decide) (by decide), fun h => q1 (h.resolve_left (by decide)), fun h => q2 (h.resolve_left (by decide)), fun h => q3 (h.resolve_left (by decide)), fun h => q4 (h.resolve_left (by decide)), fun h => q5 (h.resolve_left (by decide)), fun h => q6 (h.resolve_left (by decide)), fun h => q7 (h.resolve_left (by decide)), fun h => q8 (h.resolve_left (by decide)), fun _ => rfl, fun h => q10 (h.resolve_left (by decide)), fun h => q11 (h.resolve_left (by decide)), fun h => q12 (h.resolve_left (by decide)), fun h => q13 (h.resolve_left (by decide)), fun h => q14 (h.resolve_left (by decide)), fun h => q15 (h.resolve_left (by decide)), fun h => q16 (h.resolve_left (by decide)), fun h => q17 (h.resolve_left (by decide)), fun h => q18 (h.resolve_left (by decide)), fun h => .inr (q19 (h.resolve_left (by decide))), fun h => .inr (q20 (h.resolve_left (by decide))), fun h => .inr (q21 (h.resolve_left (by decide)))⟩
            refine Inv.AllInv.cons ({ dst := some 70, op := Op.indexAddr 37 (Operand.tmp 67) (Operand.tmp 69), type := 0, pos := "outright.go:37", after := #[{ on := 6, ground := Ground.data }, { on := 8, ground := Ground.data }], guard := none }) rfl rfl [6, 8] (by kernel_rfl) ?_ ?_
            · intro Q2 u X wv hR hu hd K hK
              obtain ⟨q0, q1, q2, q3, q4, q5, q6, q7, q8, q9, q10, q11, q12, q13, q14, q15, q16, q17, q18, q19, q20, q21⟩ := hR
              have e7 := q7 hd.1
              have e9 := q9 hd.2.1
              refine ⟨?_⟩
              simp only [Inv.puts, Act.put, List.setIfInBounds_toArray, List.set_cons_zero, List.set_cons_succ] at hK
              simp only [Inv.puts, Act.put, List.setIfInBounds_toArray, List.set_cons_zero, List.set_cons_succ, e7, e9]
              go_simp
              refine hK.out (Inv.upd (Inv.upd (Inv.upd X 67 (.slice (some ⟨g, 0, none⟩) j cap)) 69 (.int .i64 (2 * (k : Int)))) 70 (.pointer (some ⟨g, 2 * k, none⟩))) _ ?_
              rw [Inv.upd_same e7, Inv.upd_same e9]
              exact ⟨q0.step (by decide) (by decide), fun h => q1 (h.resolve_left (by decide)), fun h => q2 (h.resolve_left (by decide)), fun h => q3 (h.resolve_left (by decide)), fun h => q4 (h.resolve_left (by decide)), fun h => q5 (h.resolve_left (by decide)), fun h => q6 (h.resolve_left (by decide)), fun h => q7 (h.resolve_left (by decide)), fun h => q8 (h.resolve_left (by decide)), fun h => q9 (h.resolve_left (by decide)), fun _ => rfl, fun h => q11 (h.resolve_left (by decide)), fun h => q12 (h.resolve_left (by decide)), fun h => q13 (h.resolve_left (by decide)), fun h => q14 (h.resolve_left (by decide)), fun h => q15 (h.resolve_left (by decide)), fun h => q16 (h.resolve_left (by decide)), fun h => q17 (h.resolve_left (by decide)), fun h => q18 (h.resolve_left (by decide)), fun h => .inr (q19 (h.resolve_left (by decide))), fun h => .inr (q20 (h.resolve_left (by decide))), fun h => .inr (q21 (h.resolve_left (by decide)))⟩
            refine Inv.AllInv.cons ({ dst := some 71, op := Op.load 5 (Operand.tmp 70), type := 5, pos := "outright.go:37", after := #[{ on := 9, ground := Ground.data }], guard := none }) rfl rfl [9] (by kernel_rfl) ?_ ?_
            · intro Q2 u X wv hR hu hd K hK
              obtain ⟨q0, q1, q2, q3, q4, q5, q6, q7, q8, q9, q10, q11, q12, q13, q14, q15, q16, q17, q18, q19, q20, q21⟩ := hR
              have e10 := q10 hd.1
              have hcy := q0.loadY (fun h => hu (q19 h))
              refine ⟨?_⟩
              simp only [Inv.puts, Act.put, List.setIfInBounds_toArray, List.set_cons_zero, List.set_cons_succ] at hK
              simp only [Inv.puts, Act.put, List.setIfInBounds_toArray, List.set_cons_zero, List.set_cons_succ, e10]
              go_simp
              refine hK.out (Inv.upd (Inv.upd X 70 (.pointer (some ⟨g, 2 * k, none⟩))) 71 (.int .u8 y)) _ ?_
              rw [Inv.upd_same e10]
              exact ⟨q0.step (by decide) (by decide), fun h => q1 (h.resolve_left (by decide)), fun h => q2 (h.resolve_left (by decide)), fun h => q3 (h.resolve_left (by decide)), fun h => q4 (h.resolve_left (by decide)), fun h => q5 (h.resolve_left (by decide)), fun h => q6 (h.resolve_left (by decide)), fun h => q7 (h.resolve_left (by decide)), fun h => q8 (h.resolve_left (by decide)), fun h => q9 (h.resolve_left (by decide)), fun h => q10 (h.resolve_left (by decide)), fun _ => rfl, fun h => q12 (h.resolve_left (by decide)), fun h => q13 (h.resolve_left (by decide)), fun h => q14 (h.resolve_left (by decide)), fun h => q15 (h.resolve_left (by decide)), fun h => q16 (h.resolve_left (by decide)), fun h => q17 (h.resolve_left (by decide)), fun h => q18 (h.resolve_left (by decide)), fun h => .inr (q19 (h.resolve_left (by decide))), fun h => .inr (q20 (h.resolve_left (by decide))), fun h => .inr (q21 (h.resolve_left (by decide)))⟩
            refine Inv.AllInv.cons ({ dst := some 72, op := Op.move (Operand.tmp 12), type := 37, pos := "outright.go:37", after := #[], guard := none }) rfl rfl [] (by kernel_rfl) ?_ ?_
            · intro Q2 u X wv hR hu hd K hK
              obtain ⟨q0, q1, q2, q3, q4, q5, q6, q7, q8, q9, q10, q11, q12, q13, q14, q15, q16, q17, q18, q19, q20, q21⟩ := hR
              refine ⟨?_⟩
              simp only [Inv.puts, Act.put, List.setIfInBounds_toArray, List.set_cons_zero, List.set_cons_succ] at hK
              simp only [Inv.puts, Act.put, List.setIfInBounds_toArray, List.set_cons_zero, List.set_cons_succ]
              go_simp
              refine hK.out (Inv.upd X 72 (.slice (some ⟨g, 0, none⟩) j cap)) _ ?_
              exact ⟨q0.step (by decide) (by decide), fun h => q1 (h.resolve_left (by decide)), fun h => q2 (h.resolve_left (by decide)), fun h => q3 (h.resolve_left (by decide)), fun h => q4 (h.resolve_left (by decide)), fun h => q5 (h.resolve_left (by decide)), fun h => q6 (h.resolve_left (by decide)), fun h => q7 (h.resolve_left (by decide)), fun h => q8 (h.resolve_left (by decide)), fun h => q9 (h.resolve_left (by decide)), fun h => q10 (h.resolve_left (by decide)), fun h => q11 (h.resolve_left (by decide)), fun _ => rfl, fun h => q13 (h.resolve_left (by decide)), fun h => q14 (h.resolve_left (by decide)), fun h => q15 (h.resolve_left (by decide)), fun h => q16 (h.resolve_left (by decide)), fun h => q17 (h.resolve_left (by decide)), fun h => q18 (h.resolve_left (by decide)), fun h => .inr (q19 (h.resolve_left (by decide))), fun h => .inr (q20 (h.resolve_left (by decide))), fun h => .inr (q21 (h.resolve_left (by decide)))⟩
            refine Inv.AllInv.cons ({ dst := some 73, op := Op.move (Operand.tmp 2), type := 3, pos := "outright.go:37", after := #[], guard := none }) rfl rfl [] (by kernel_rfl) ?_ ?_
            · intro Q2 u X wv hR hu hd K hK
              obtain ⟨q0, q1, q2, q3, q4, q5, q6, q7, q8, q9, q10, q11, q12, q13, q14, q15, q16, q17, q18, q19, q20, q21⟩ := hR
              refine ⟨?_⟩
              simp only [Inv.puts, Act.put, List.setIfInBounds_toArray, List.set_cons_zero, List.set_cons_succ] at hK
              simp only [Inv.puts, Act.put, List.setIfInBounds_toArray, List.set_cons_zero, List.set_cons_succ]
              go_simp
              refine hK.out (Inv.upd X 73 (.int .i64 (i : Int))) _ ?_
              exact ⟨q0.step (by decide) (by decide), fun h => q1 (h.resolve_left (by decide)), fun h => q2 (h.resolve_left (by decide)), fun h => q3 (h.resolve_left (by decide)), fun h => q4 (h.resolve_left (by decide)), fun h => q5 (h.resolve_left (by decide)), fun h => q6 (h.resolve_left (by decide)), fun h => q7 (h.resolve_left (by decide)), fun h => q8 (h.resolve_left (by decide)), fun h => q9 (h.resolve_left (by decide)), fun h => q10 (h.resolve_left (by decide)), fun h => q11 (h.resolve_left (by decide)), fun h => q12 (h.resolve_left (by decide)), fun _ => rfl, fun h => q14 (h.resolve_left (by decide)), fun h => q15 (h.resolve_left (by decide)), fun h => q16 (h.resolve_left (by decide)), fun h => q17 (h.resolve_left (by decide)), fun h => q18 (h.resolve_left (by decide)), fun h => .inr (q19 (h.resolve_left (by decide))), fun h => .inr (q20 (h.resolve_left (by decide))), fun h => .inr (q21 (h.resolve_left (by decide)))⟩
            refine Inv.AllInv.cons ({ dst := some 74, op := Op.binOp BinOp.mul 3 (Operand.const (Value.int IntKind.i64 2)) (Operand.tmp 73) 3, type := 3, pos := "outright.go:37", after := #[{ on := 12, ground := Ground.data }], guard := none }) rfl rfl [12] (by kernel_rfl) ?_ ?_
            · intro Q2 u X wv hR hu hd K hK
              obtain ⟨q0, q1, q2, q3, q4, q5, q6, q7, q8, q9, q10, q11, q12, q13, q14, q15, q16, q17, q18, q19, q20, q21⟩ := hR
              have e13 := q13 hd.1
              refine ⟨?_⟩
              simp only [Inv.puts, Act.put, List.setIfInBounds_toArray, List.set_cons_zero, List.set_cons_succ] at hK
              simp only [Inv.puts, Act.put, List.setIfInBounds_toArray, List.set_cons_zero, List.set_cons_succ, e13]
              go_simp
              refine hK.out (Inv.upd (Inv.upd X 73 (.int .i64 (i : Int))) 74 (.int .i64 (2 * (i : Int)))) _ ?_
              rw [Inv.upd_same e13]
              exact ⟨q0.step (by decide) (by decide), fun h => q1 (h.resolve_left (by decide)), fun h => q2 (h.resolve_left (by decide)), fun h => q3 (h.resolve_left (by decide)), fun h => q4 (h.resolve_left (by decide)), fun h => q5 (h.resolve_left (by decide)), fun h => q6 (h.resolve_left (by decide)), fun h => q7 (h.resolve_left (by decide)), fun h => q8 (h.resolve_left (by decide)), fun h => q9 (h.resolve_left (by decide)), fun h => q10 (h.resolve_left (by decide)), fun h => q11 (h.resolve_left (by decide)), fun h => q12 (h.resolve_left (by decide)), fun h => q13 (h.resolve_left (by decide)), fun _ => rfl, fun h => q15 (h.resolve_left (by decide)), fun h => q16 (h.resolve_left (by decide)), fun h => q17 (h.resolve_left (by decide)), fun h => q18 (h.resolve_left (by decide)), fun h => .inr (q19 (h.resolve_left (by decide))), fun h => .inr (q20 (h.resolve_left (by decide))), fun h => .inr (q21 (h.resolve_left (by decide)))⟩
            refine Inv.AllInv.cons ({ dst := some 75, op := Op.indexAddr 37 (Operand.tmp 72) (Operand.tmp 74), type := 0, pos := "outright.go:37", after := #[{ on := 11, ground := Ground.data }, { on := 13, ground := Ground.data }], guard := none }) rfl rfl [11, 13] (by kernel_rfl) ?_ ?_
            · intro Q2 u X wv hR hu hd K hK
              obtain ⟨q0, q1, q2, q3, q4, q5, q6, q7, q8, q9, q10, q11, q12, q13, q14, q15, q16, q17, q18, q19, q20, q21⟩ := hR
              have e12 := q12 hd.1
              have e14 := q14 hd.2.1
              refine ⟨?_⟩
              simp only [Inv.puts, Act.put, List.setIfInBounds_toArray, List.set_cons_zero, List.set_cons_succ] at hK
              simp only [Inv.puts, Act.put, List.setIfInBounds_toArray, List.set_cons_zero, List.set_cons_succ, e12, e14]
              go_simp
              refine hK.out (Inv.upd (Inv.upd (Inv.upd X 72 (.slice (some ⟨g, 0, none⟩) j cap)) 74 (.int .i64 (2 * (i : Int)))) 75 (.pointer (some ⟨g, 2 * i, none⟩))) _ ?_
              rw [Inv.upd_same e12, Inv.upd_same e14]
              exact ⟨q0.step (by decide) (by decide), fun h => q1 (h.resolve_left (by decide)), fun h => q2 (h.resolve_left (by decide)), fun h => q3 (h.resolve_left (by decide)), fun h => q4 (h.resolve_left (by decide)), fun h => q5 (h.resolve_left (by decide)), fun h => q6 (h.resolve_left (by decide)), fun h => q7 (h.resolve_left (by decide)), fun h => q8 (h.resolve_left (by decide)), fun h => q9 (h.resolve_left (by decide)), fun h => q10 (h.resolve_left (by decide)), fun h => q11 (h.resolve_left (by decide)), fun h => q12 (h.resolve_left (by decide)), fun h => q13 (h.resolve_left (by decide)), fun h => q14 (h.resolve_left (by decide)), fun _ => rfl, fun h => q16 (h.resolve_left (by decide)), fun h => q17 (h.resolve_left (by decide)), fun h => q18 (h.resolve_left (by decide)), fun h => .inr (q19 (h.resolve_left (by decide))), fun h => .inr (q20 (h.resolve_left (by decide))), fun h => .inr (q21 (h.resolve_left (by decide)))⟩
            refine Inv.AllInv.cons ({ dst := some 76, op := Op.load 5 (Operand.tmp 75), type := 5, pos := "outright.go:37", after := #[{ on := 14, ground := Ground.data }], guard := none }) rfl rfl [14] (by kernel_rfl) ?_ ?_
            · intro Q2 u X wv hR hu hd K hK
              obtain ⟨q0, q1, q2, q3, q4, q5, q6, q7, q8, q9, q10, q11, q12, q13, q14, q15, q16, q17, q18, q19, q20, q21⟩ := hR
              have e15 := q15 hd.1
              have hcx := q0.loadX (fun h => hu (q20 h))
              refine ⟨?_⟩
              simp only [Inv.puts, Act.put, List.setIfInBounds_toArray, List.set_cons_zero, List.set_cons_succ] at hK
              simp only [Inv.puts, Act.put, List.setIfInBounds_toArray, List.set_cons_zero, List.set_cons_succ, e15]
              go_simp
              refine hK.out (Inv.upd (Inv.upd X 75 (.pointer (some ⟨g, 2 * i, none⟩))) 76 (.int .u8 x)) _ ?_
              rw [Inv.upd_same e15]
              exact ⟨q0.step (by decide) (by decide), fun h => q1 (h.resolve_left (by decide)), fun h => q2 (h.resolve_left (by decide)), fun h => q3 (h.resolve_left (by decide)), fun h => q4 (h.resolve_left (by decide)), fun h => q5 (h.resolve_left (by decide)), fun h => q6 (h.resolve_left (by decide)), fun h => q7 (h.resolve_left (by decide)), fun h => q8 (h.resolve_left (by decide)), fun h => q9 (h.resolve_left (by decide)), fun h => q10 (h.resolve_left (by decide)), fun h => q11 (h.resolve_left (by decide)), fun h => q12 (h.resolve_left (by decide)), fun h => q13 (h.resolve_left (by decide)), fun h => q14 (h.resolve_left (by decide)), fun h => q15 (h.resolve_left (by decide)), fun _ => rfl, fun h => q17 (h.resolve_left (by decide)), fun h => q18 (h.resolve_left (by decide)), fun h => .inr (q19 (h.resolve_left (by decide))), fun h => .inr (q20 (h.resolve_left (by decide))), fun h => .inr (q21 (h.resolve_left (by decide)))⟩
            refine Inv.AllInv.cons ({ dst := some 77, op := Op.indexAddr 37 (Operand.tmp 61) (Operand.tmp 63), type := 0, pos := "outright.go:37", after := #[{ on := 0, ground := Ground.data }, { on := 2, ground := Ground.data }, { on := 0, ground := Ground.phase }, { on := 1, ground := Ground.phase }, { on := 2, ground := Ground.phase }, { on := 3, ground := Ground.textOnly Departure.lateStores }, { on := 4, ground := Ground.textOnly Departure.lateStores }, { on := 5, ground := Ground.textOnly Departure.lateStores }, { on := 6, ground := Ground.phase }, { on := 7, ground := Ground.phase }, { on := 8, ground := Ground.phase }, { on := 9, ground := Ground.phase }, { on := 10, ground := Ground.phase }, { on := 11, ground := Ground.textOnly Departure.lateStores }, { on := 12, ground := Ground.textOnly Departure.lateStores }, { on := 13, ground := Ground.textOnly Departure.lateStores }, { on := 14, ground := Ground.textOnly Departure.lateStoresUnsure }, { on := 15, ground := Ground.phase }], guard := none }) rfl rfl [0, 2, 0, 1, 2, 6, 7, 8, 9, 10, 15] (by kernel_rfl) ?_ ?_
            · intro Q2 u X wv hR hu hd K hK
              obtain ⟨q0, q1, q2, q3, q4, q5, q6, q7, q8, q9, q10, q11, q12, q13, q14, q15, q16, q17, q18, q19, q20, q21⟩ := hR
              have e1 := q1 hd.1
              have e3 := q3 hd.2.1
              refine ⟨?_⟩
              simp only [Inv.puts, Act.put, List.setIfInBounds_toArray, List.set_cons_zero, List.set_cons_succ] at hK
              simp only [Inv.puts, Act.put, List.setIfInBounds_toArray, List.set_cons_zero, List.set_cons_succ, e1, e3]
              go_simp
              refine hK.out (Inv.upd (Inv.upd (Inv.upd X 61 (.slice (some ⟨g, 0, none⟩) j cap)) 63 (.int .i64 (2 * (i : Int)))) 77 (.pointer (some ⟨g, 2 * i, none⟩))) _ ?_
              rw [Inv.upd_same e1, Inv.upd_same e3]
              exact ⟨q0.step (by decide) (by decide), fun h => q1 (h.resolve_left (by decide)), fun h => q2 (h.resolve_left (by decide)), fun h => q3 (h.resolve_left (by decide)), fun h => q4 (h.resolve_left (by decide)), fun h => q5 (h.resolve_left (by decide)), fun h => q6 (h.resolve_left (by decide)), fun h => q7 (h.resolve_left (by decide)), fun h => q8 (h.resolve_left (by decide)), fun h => q9 (h.resolve_left (by decide)), fun h => q10 (h.resolve_left (by decide)), fun h => q11 (h.resolve_left (by decide)), fun h => q12 (h.resolve_left (by decide)), fun h => q13 (h.resolve_left (by decide)), fun h => q14 (h.resolve_left (by decide)), fun h => q15 (h.resolve_left (by decide)), fun h => q16 (h.resolve_left (by decide)), fun _ => rfl, fun h => q18 (h.resolve_left (by decide)), fun h => .inr (q19 (h.resolve_left (by decide))), fun h => .inr (q20 (h.resolve_left (by decide))), fun h => .inr (q21 (h.resolve_left (by decide)))⟩
            refine Inv.AllInv.cons ({ dst := none, op := Op.store 5 (Operand.tmp 77) (Operand.tmp 71), type := 0, pos := "outright.go:37", after := #[{ on := 16, ground := Ground.data }, { on := 10, ground := Ground.data }, { on := 0, ground := Ground.phase }, { on := 1, ground := Ground.phase }, { on := 2, ground := Ground.phase }, { on := 3, ground := Ground.textOnly Departure.lateStores }, { on := 4, ground := Ground.textOnly Departure.lateStores }, { on := 5, ground := Ground.textOnly Departure.lateStores }, { on := 6, ground := Ground.phase }, { on := 7, ground := Ground.phase }, { on := 8, ground := Ground.phase }, { on := 9, ground := Ground.phase }, { on := 10, ground := Ground.phase }, { on := 11, ground := Ground.textOnly Departure.lateStores }, { on := 12, ground := Ground.textOnly Departure.lateStores }, { on := 13, ground := Ground.textOnly Departure.lateStores }, { on := 14, ground := Ground.textOnly Departure.lateStoresUnsure }, { on := 15, ground := Ground.phase }], guard := none }) rfl rfl [16, 10, 0, 1, 2, 6, 7, 8, 9, 10, 15] (by kernel_rfl) ?_ ?_
            · intro Q2 u X wv hR hu hd K hK
              obtain ⟨q0, q1, q2, q3, q4, q5, q6, q7, q8, q9, q10, q11, q12, q13, q14, q15, q16, q17, q18, q19, q20, q21⟩ := hR
              have e17 := q17 hd.1
              have e11 := q11 hd.2.1
              have hnot2 : ¬ u 19 := fun h => hu (q21 h)
              obtain ⟨hcell, hfr⟩ := q0.cell1 hu hnot2
              refine ⟨?_⟩
              simp only [Inv.puts, Act.put, List.setIfInBounds_toArray, List.set_cons_zero, List.set_cons_succ] at hK
              simp only [Inv.puts, Act.put, List.setIfInBounds_toArray, List.set_cons_zero, List.set_cons_succ, e17, e11]
              go_simp
              refine hK.out (Inv.upd (Inv.upd X 77 (.pointer (some ⟨g, 2 * i, none⟩))) 71 (.int .u8 y)) _ ?_
              rw [Inv.upd_same e17, Inv.upd_same e11]
              exact ⟨q0.store1 hu hnot2 (.inl rfl) (fun h => hnot2 (h.resolve_left (by decide))), fun h => q1 (h.resolve_left (by decide)), fun h => q2 (h.resolve_left (by decide)), fun h => q3 (h.resolve_left (by decide)), fun h => q4 (h.resolve_left (by decide)), fun h => q5 (h.resolve_left (by decide)), fun h => q6 (h.resolve_left (by decide)), fun h => q7 (h.resolve_left (by decide)), fun h => q8 (h.resolve_left (by decide)), fun h => q9 (h.resolve_left (by decide)), fun h => q10 (h.resolve_left (by decide)), fun h => q11 (h.resolve_left (by decide)), fun h => q12 (h.resolve_left (by decide)), fun h => q13 (h.resolve_left (by decide)), fun h => q14 (h.resolve_left (by decide)), fun h => q15 (h.resolve_left (by decide)), fun h => q16 (h.resolve_left (by decide)), fun h => q17 (h.resolve_left (by decide)), fun h => q18 (h.resolve_left (by decide)), fun _ => .inr (hd.2.1), fun _ => .inr (hd.2.2.2.2.2.2.2.2.2.2.1), fun h => .inr (q21 (h.resolve_left (by decide)))⟩
            refine Inv.AllInv.cons ({ dst := some 78, op := Op.indexAddr 37 (Operand.tmp 64) (Operand.tmp 66), type := 0, pos := "outright.go:37", after := #[{ on := 3, ground := Ground.data }, { on := 5, ground := Ground.data }, { on := 0, ground := Ground.phase }, { on := 1, ground := Ground.phase }, { on := 2, ground := Ground.phase }, { on := 3, ground := Ground.phase }, { on := 4, ground := Ground.phase }, { on := 5, ground := Ground.phase }, { on := 6, ground := Ground.phase }, { on := 7, ground := Ground.phase }, { on := 8, ground := Ground.phase }, { on := 9, ground := Ground.phase }, { on := 10, ground := Ground.phase }, { on := 11, ground := Ground.phase }, { on := 12, ground := Ground.phase }, { on := 13, ground := Ground.phase }, { on := 14, ground := Ground.phase }, { on := 15, ground := Ground.phase }, { on := 16, ground := Ground.phase }, { on := 17, ground := Ground.phase }], guard := none }) rfl rfl [3, 5, 0, 1, 2, 3, 4, 5, 6, 7, 8, 9, 10, 11, 12, 13, 14, 15, 16, 17] (by kernel_rfl) ?_ ?_
            · intro Q2 u X wv hR hu hd K hK
              obtain ⟨q0, q1, q2, q3, q4, q5, q6, q7, q8, q9, q10, q11, q12, q13, q14, q15, q16, q17, q18, q19, q20, q21⟩ := hR
              have e4 := q4 hd.1
              have e6 := q6 hd.2.1
              refine ⟨?_⟩
              simp only [Inv.puts, Act.put, List.setIfInBounds_toArray, List.set_cons_zero, List.set_cons_succ] at hK
              simp only [Inv.puts, Act.put, List.setIfInBounds_toArray, List.set_cons_zero, List.set_cons_succ, e4, e6]
              go_simp
              refine hK.out (Inv.upd (Inv.upd (Inv.upd X 64 (.slice (some ⟨g, 0, none⟩) j cap)) 66 (.int .i64 (2 * (k : Int)))) 78 (.pointer (some ⟨g, 2 * k, none⟩))) _ ?_
              rw [Inv.upd_same e4, Inv.upd_same e6]
              exact ⟨q0.step (by decide) (by decide), fun h => q1 (h.resolve_left (by decide)), fun h => q2 (h.resolve_left (by decide)), fun h => q3 (h.resolve_left (by decide)), fun h => q4 (h.resolve_left (by decide)), fun h => q5 (h.resolve_left (by decide)), fun h => q6 (h.resolve_left (by decide)), fun h => q7 (h.resolve_left (by decide)), fun h => q8 (h.resolve_left (by decide)), fun h => q9 (h.resolve_left (by decide)), fun h => q10 (h.resolve_left (by decide)), fun h => q11 (h.resolve_left (by decide)), fun h => q12 (h.resolve_left (by decide)), fun h => q13 (h.resolve_left (by decide)), fun h => q14 (h.resolve_left (by decide)), fun h => q15 (h.resolve_left (by decide)), fun h => q16 (h.resolve_left (by decide)), fun h => q17 (h.resolve_left (by decide)), fun _ => rfl, fun h => .inr (q19 (h.resolve_left (by decide))), fun h => .inr (q20 (h.resolve_left (by decide))), fun h => .inr (q21 (h.resolve_left (by decide)))⟩
            refine Inv.AllInv.cons ({ dst := none, op := Op.store 5 (Operand.tmp 78) (Operand.tmp 76), type := 0, pos := "outright.go:37", after := #[{ on := 18, ground := Ground.data }, { on := 15, ground := Ground.data }, { on := 17, ground := Ground.chain }, { on := 0, ground := Ground.phase }, { on := 1, ground := Ground.phase }, { on := 2, ground := Ground.phase }, { on := 3, ground := Ground.phase }, { on := 4, ground := Ground.phase }, { on := 5, ground := Ground.phase }, { on := 6, ground := Ground.phase }, { on := 7, ground := Ground.phase }, { on := 8, ground := Ground.phase }, { on := 9, ground := Ground.phase }, { on := 10, ground := Ground.phase }, { on := 11, ground := Ground.phase }, { on := 12, ground := Ground.phase }, { on := 13, ground := Ground.phase }, { on := 14, ground := Ground.phase }, { on := 15, ground := Ground.phase }, { on := 16, ground := Ground.phase }, { on := 17, ground := Ground.phase }], guard := none }) rfl rfl [18, 15, 17, 0, 1, 2, 3, 4, 5, 6, 7, 8, 9, 10, 11, 12, 13, 14, 15, 16, 17] (by kernel_rfl) ?_ ?_
            · intro Q2 u X wv hR hu hd K hK
              obtain ⟨q0, q1, q2, q3, q4, q5, q6, q7, q8, q9, q10, q11, q12, q13, q14, q15, q16, q17, q18, q19, q20, q21⟩ := hR
              have e18 := q18 hd.1
              have e16 := q16 hd.2.1
              obtain ⟨hcell, hfr⟩ := q0.cell2 hd.2.2.1 hu
              refine ⟨?_⟩
              simp only [Inv.puts, Act.put, List.setIfInBounds_toArray, List.set_cons_zero, List.set_cons_succ] at hK
              simp only [Inv.puts, Act.put, List.setIfInBounds_toArray, List.set_cons_zero, List.set_cons_succ, e18, e16]
              go_simp
              refine hK.out (Inv.upd (Inv.upd X 78 (.pointer (some ⟨g, 2 * k, none⟩))) 76 (.int .u8 x)) _ ?_
              rw [Inv.upd_same e18, Inv.upd_same e16]
              exact ⟨q0.store2 hd.2.2.1 hu (.inl rfl), fun h => q1 (h.resolve_left (by decide)), fun h => q2 (h.resolve_left (by decide)), fun h => q3 (h.resolve_left (by decide)), fun h => q4 (h.resolve_left (by decide)), fun h => q5 (h.resolve_left (by decide)), fun h => q6 (h.resolve_left (by decide)), fun h => q7 (h.resolve_left (by decide)), fun h => q8 (h.resolve_left (by decide)), fun h => q9 (h.resolve_left (by decide)), fun h => q10 (h.resolve_left (by decide)), fun h => q11 (h.resolve_left (by decide)), fun h => q12 (h.resolve_left (by decide)), fun h => q13 (h.resolve_left (by decide)), fun h => q14 (h.resolve_left (by decide)), fun h => q15 (h.resolve_left (by decide)), fun h => q16 (h.resolve_left (by decide)), fun h => q17 (h.resolve_left (by decide)), fun h => q18 (h.resolve_left (by decide)), fun h => .inr (q19 (h.resolve_left (by decide))), fun h => .inr (q20 (h.resolve_left (by decide))), fun _ => .inr (hd.2.2.1)⟩
            exact Inv.AllInv.nil
          · intro u X wv hd hR
            obtain ⟨q0, q1, q2, q3, q4, q5, q6, q7, q8, q9, q10, q11, q12, q13, q14, q15, q16, q17, q18, q19, q20, q21⟩ := hR
            obtain ⟨u0, u1, u2, u3, u4, u5, u6, u7, u8, u9, u10, u11, u12, u13, u14, u15, u16, u17, u18, u19, -⟩ := hd
            simp only [Inv.puts, Act.put, List.setIfInBounds_toArray, List.set_cons_zero, List.set_cons_succ, q1 u0, q2 u1, q3 u2, q4 u3, q5 u4, q6 u5, q7 u6, q8 u7, q9 u8, q10 u9, q11 u10, q12 u11, q13 u12, q14 u13, q15 u14, q16 u15, q17 u16, q18 u18]
            have HM := q0.done u19
            clear q0 q1 q2 q3 q4 q5 q6 q7 q8 q9 q10 q11 q12 q13 q14 q15 q16 q17 q18 q19 q20 q21 u0 u1 u2 u3 u4 u5 u6 u7 u8 u9 u10 u11 u12 u13 u14 u15 u16 u17 u18 u19
            obtain ⟨hMB, hMO⟩ := HM
            obtain ⟨C1, hC1⟩ : ∃ C1, C1 = (L.set (2 * i) y).set (2 * k) x := ⟨_, rfl⟩
            rw [← hC1] at hMO
            have hC1L : C1.length = j := by rw [hC1, List.length_set, List.length_set, HL.out]
            obtain ⟨x2, hx2⟩ : ∃ x2, C1[2 * i + 1]?.getD 0 = x2 := ⟨_, rfl⟩
            obtain ⟨y2, hy2⟩ : ∃ y2, C1[2 * k + 1]?.getD 0 = y2 := ⟨_, rfl⟩
            have hsw : (C1.set (2 * i + 1) y2).set (2 * k + 1) x2 = swapped L i k := by
              rw [← hx2, ← hy2]
              exact swapped_two L C1 i k (by rw [hC1, HX.out, HY2.out])
            have HSWP := Lib.hid hsw
            have HST2 : Hid (SwapM wr wr.heap.size g j cap C1 (2 * i + 1) (2 * k + 1) x2 y2 False False wv.drew) := Lib.hid ⟨hMB.drew, hg, hC1L, i10, k10, hx2, hy2, fun _ => World.ownsRow.drew hMO, fun h => h.elim, fun h => h.elim⟩
            clear hC1 hC1L hx2 hy2 hsw hMO hMB HST X
            have HST := HST2
            clear HST2
            go_upto_region 16 with (fail)
            refine Inv.wp_region_inv [79, 80, 81, 82, 83, 84, 85, 86, 87, 88, 89, 90, 91, 92, 93, 94, 95, 96, 97, 98, 99, 100] (SwapBR wr wr.heap.size g j cap C1 i k x2 y2) (by kernel_rfl) (by kernel_rfl) [0, 1, 2, 3, 4, 5, 6, 7, 8, 9, 10, 11, 12, 13, 14, 15, 16, 17, 18, 19, 20, 21, 22, 23] (by kernel_rfl) ?_ ?_ ?_
            · exact ⟨HST.out, fun h => h.elim, fun h => h.elim, fun h => h.elim, fun h => h.elim, fun h => h.elim, fun h => h.elim, fun h => h.elim, fun h => h.elim, fun h => h.elim, fun h => h.elim, fun h => h.elim, fun h => h.elim, fun h => h.elim, fun h => h.elim, fun h => h.elim, fun h => h.elim, fun h => h.elim, fun h => h.elim, fun h => h.elim, fun h => h.elim, fun h => h.elim, fun h => h.elim, fun h => h.elim, fun h => h.elim, fun h => h.elim⟩
            · refine Inv.AllInv.cons ({ dst := some 79, op := Op.move (Operand.tmp 12), type := 37, pos := "outright.go:38", after := #[], guard := none }) rfl rfl [] (by kernel_rfl) ?_ ?_
              · intro Q2 u X wv hR hu hd K hK
                obtain ⟨q0, q1, q2, q3, q4, q5, q6, q7, q8, q9, q10, q11, q12, q13, q14, q15, q16, q17, q18, q19, q20, q21, q22, q23, q24, q25⟩ := hR
                refine ⟨?_⟩
                simp only [Inv.puts, Act.put, List.setIfInBounds_toArray, List.set_cons_zero, List.set_cons_succ] at hK
                simp only [Inv.puts, Act.put, List.setIfInBounds_toArray, List.set_cons_zero, List.set_cons_succ]
                go_simp
                refine hK.out (Inv.upd X 79 (.slice (some ⟨g, 0, none⟩) j cap)) _ ?_
                exact ⟨q0.step (by decide) (by decide), fun _ => rfl, fun h => q2 (h.resolve_left (by decide)), fun h => q3 (h.resolve_left (by decide)), fun h => q4 (h.resolve_left (by decide)), fun h => q5 (h.resolve_left (by decide)), fun h => q6 (h.resolve_left (by decide)), fun h => q7 (h.resolve_left (by decide)), fun h => q8 (h.resolve_left (by decide)), fun h => q9 (h.resolve_left (by decide)), fun h => q10 (h.resolve_left (by decide)), fun h => q11 (h.resolve_left (by decide)), fun h => q12 (h.resolve_left (by decide)), fun h => q13 (h.resolve_left (by decide)), fun h => q14 (h.resolve_left (by decide)), fun h => q15 (h.resolve_left (by decide)), fun h => q16 (h.resolve_left (by decide)), fun h => q17 (h.resolve_left (by decide)), fun h => q18 (h.resolve_left (by decide)), fun h => q19 (h.resolve_left (by decide)), fun h => q20 (h.resolve_left (by decide)), fun h => q21 (h.resolve_left (by decide)), fun h => q22 (h.resolve_left (by decide)), fun h => .inr (q23 (h.resolve_left (by decide))), fun h => .inr (q24 (h.resolve_left (by decide))), fun h => .inr (q25 (h.resolve_left (by decide)))⟩
              refine Inv.AllInv.cons ({ dst := some 80, op := Op.move (Operand.tmp 2), type := 3, pos := "outright.go:38", after := #[], guard := none }) rfl rfl [] (by kernel_rfl) ?_ ?_
              · intro Q2 u X wv hR hu hd K hK
                obtain ⟨q0, q1, q2, q3, q4, q5, q6, q7, q8, q9, q10, q11, q12, q13, q14, q15, q16, q17, q18, q19, q20, q21, q22, q23, q24, q25⟩ := hR
                refine ⟨?_⟩
                simp only [Inv.puts, Act.put, List.setIfInBounds_toArray, List.set_cons_zero, List.set_cons_succ] at hK
                simp only [Inv.puts, Act.put, List.setIfInBounds_toArray, List.set_cons_zero, List.set_cons_succ]
                go_simp
                refine hK.out (Inv.upd X 80 (.int .i64 (i : Int))) _ ?_
                exact ⟨q0.step (by decide) (by decide), fun h => q1 (h.resolve_left (by decide)), fun _ => rfl, fun h => q3 (h.resolve_left (by decide)), fun h => q4 (h.resolve_left (by decide)), fun h => q5 (h.resolve_left (by decide)), fun h => q6 (h.resolve_left (by decide)), fun h => q7 (h.resolve_left (by decide)), fun h => q8 (h.resolve_left (by decide)), fun h => q9 (h.resolve_left (by decide)), fun h => q10 (h.resolve_left (by decide)), fun h => q11 (h.resolve_left (by decide)), fun h => q12 (h.resolve_left (by decide)), fun h => q13 (h.resolve_left (by decide)), fun h => q14 (h.resolve_left (by decide)), fun h => q15 (h.resolve_left (by decide)), fun h => q16 (h.resolve_left (by decide)), fun h => q17 (h.resolve_left (by decide)), fun h => q18 (h.resolve_left (by decide)), fun h => q19 (h.resolve_left (by decide)), fun h => q20 (h.resolve_left (by decide)), fun h => q21 (h.resolve_left (by decide)), fun h => q22 (h.resolve_left (by decide)), fun h => .inr (q23 (h.resolve_left (by decide))), fun h => .inr (q24 (h.resolve_left (by decide))), fun h => .inr (q25 (h.resolve_left (by decide)))⟩
              refine Inv.AllInv.cons ({ dst := some 81, op := Op.binOp BinOp.mul 3 (Operand.const (Value.int IntKind.i64 2)) (Operand.tmp 80) 3, type := 3, pos := "outright.go:38", after := #[{ on := 1, ground := Ground.data }], guard := none }) rfl rfl [1] (by kernel_rfl) ?_ ?_
              · intro Q2 u X wv hR hu hd K hK
                obtain ⟨q0, q1, q2, q3, q4, q5, q6, q7, q8, q9, q10, q11, q12, q13, q14, q15, q16, q17, q18, q19, q20, q21, q22, q23, q24, q25⟩ := hR
                have e2 := q2 hd.1
                refine ⟨?_⟩
                simp only [Inv.puts, Act.put, List.setIfInBounds_toArray, List.set_cons_zero, List.set_cons_succ] at hK
                simp only [Inv.puts, Act.put, List.setIfInBounds_toArray, List.set_cons_zero, List.set_cons_succ, e2]
                go_simp
                refine hK.out (Inv.upd (Inv.upd X 80 (.int .i64 (i : Int))) 81 (.int .i64 (2 * (i : Int)))) _ ?_
                rw [Inv.upd_same e2]
                exact ⟨q0.step (by decide) (by decide), fun h => q1 (h.resolve_left (by decide)), fun h => q2 (h.resolve_left (by decide)), fun _ => rfl, fun h => q4 (h.resolve_left (by decide)), fun h => q5 (h.resolve_left (by decide)), fun h => q6 (h.resolve_left (by decide)), fun h => q7 (h.resolve_left (by decide)), fun h => q8 (h.resolve_left (by decide)), fun h => q9 (h.resolve_left (by decide)), fun h => q10 (h.resolve_left (by decide)), fun h => q11 (h.resolve_left (by decide)), fun h => q12 (h.resolve_left (by decide)), fun h => q13 (h.resolve_left (by decide)), fun h => q14 (h.resolve_left (by decide)), fun h => q15 (h.resolve_left (by decide)), fun h => q16 (h.resolve_left (by decide)), fun h => q17 (h.resolve_left (by decide)), fun h => q18 (h.resolve_left (by decide)), fun h => q19 (h.resolve_left (by decide)), fun h => q20 (h.resolve_left (by decide)), fun h => q21 (h.resolve_left (by decide)), fun h => q22 (h.resolve_left (by decide)), fun h => .inr (q23 (h.resolve_left (by decide))), fun h => .inr (q24 (h.resolve_left (by decide))), fun h => .inr (q25 (h.resolve_left (by decide)))⟩
              refine Inv.AllInv.cons ({ dst := some 82, op := Op.binOp BinOp.add 3 (Operand.tmp 81) (Operand.const (Value.int IntKind.i64 1)) 3, type := 3, pos := "outright.go:38", after := #[{ on := 2, ground := Ground.data }], guard := none }) rfl rfl [2] (by kernel_rfl) ?_ ?_
              · intro Q2 u X wv hR hu hd K hK
                obtain ⟨q0, q1, q2, q3, q4, q5, q6, q7, q8, q9, q10, q11, q12, q13, q14, q15, q16, q17, q18, q19, q20, q21, q22, q23, q24, q25⟩ := hR
                have e3 := q3 hd.1
                refine ⟨?_⟩
                simp only [Inv.puts, Act.put, List.setIfInBounds_toArray, List.set_cons_zero, List.set_cons_succ] at hK
                simp only [Inv.puts, Act.put, List.setIfInBounds_toArray, List.set_cons_zero, List.set_cons_succ, e3]
                go_simp
                refine hK.out (Inv.upd (Inv.upd X 81 (.int .i64 (2 * (i : Int)))) 82 (.int .i64 (2 * (i : Int) + 1))) _ ?_
                rw [Inv.upd_same e3]
                exact ⟨q0.step (by decide) (by decide), fun h => q1 (h.resolve_left (by decide)), fun h => q2 (h.resolve_left (by decide)), fun h => q3 (h.resolve_left (by decide)), fun _ => rfl, fun h => q5 (h.resolve_left (by decide)), fun h => q6 (h.resolve_left (by decide)), fun h => q7 (h.resolve_left (by decide)), fun h => q8 (h.resolve_left (by decide)), fun h => q9 (h.resolve_left (by decide)), fun h => q10 (h.resolve_left (by decide)), fun h => q11 (h.resolve_left (by decide)), fun h => q12 (h.resolve_left (by decide)), fun h => q13 (h.resolve_left (by decide)), fun h => q14 (h.resolve_left (by decide)), fun h => q15 (h.resolve_left (by decide)), fun h => q16 (h.resolve_left (by decide)), fun h => q17 (h.resolve_left (by decide)), fun h => q18 (h.resolve_left (by decide)), fun h => q19 (h.resolve_left (by decide)), fun h => q20 (h.resolve_left (by decide)), fun h => q21 (h.resolve_left (by decide)), fun h => q22 (h.resolve_left (by decide)), fun h => .inr (q23 (h.resolve_left (by decide))), fun h => .inr (q24 (h.resolve_left (by decide))), fun h => .inr (q25 (h.resolve_left (by decide)))⟩
              refine Inv.AllInv.cons ({ dst := some 83, op := Op.move (Operand.tmp 12), type := 37, pos := "outright.go:38", after := #[{ on := 21, ground := Ground.gcOnly Departure.lateStores }], guard := none }) rfl rfl [] (by kernel_rfl) ?_ ?_
              · intro Q2 u X wv hR hu hd K hK
                obtain ⟨q0, q1, q2, q3, q4, q5, q6, q7, q8, q9, q10, q11, q12, q13, q14, q15, q16, q17, q18, q19, q20, q21, q22, q23, q24, q25⟩ := hR
                refine ⟨?_⟩
                simp only [Inv.puts, Act.put, List.setIfInBounds_toArray, List.set_cons_zero, List.set_cons_succ] at hK
                simp only [Inv.puts, Act.put, List.setIfInBounds_toArray, List.set_cons_zero, List.set_cons_succ]
                go_simp
                refine hK.out (Inv.upd X 83 (.slice (some ⟨g, 0, none⟩) j cap)) _ ?_
                exact ⟨q0.step (by decide) (by decide), fun h => q1 (h.resolve_left (by decide)), fun h => q2 (h.resolve_left (by decide)), fun h => q3 (h.resolve_left (by decide)), fun h => q4 (h.resolve_left (by decide)), fun _ => rfl, fun h => q6 (h.resolve_left (by decide)), fun h => q7 (h.resolve_left (by decide)), fun h => q8 (h.resolve_left (by decide)), fun h => q9 (h.resolve_left (by decide)), fun h => q10 (h.resolve_left (by decide)), fun h => q11 (h.resolve_left (by decide)), fun h => q12 (h.resolve_left (by decide)), fun h => q13 (h.resolve_left (by decide)), fun h => q14 (h.resolve_left (by decide)), fun h => q15 (h.resolve_left (by decide)), fun h => q16 (h.resolve_left (by decide)), fun h => q17 (h.resolve_left (by decide)), fun h => q18 (h.resolve_left (by decide)), fun h => q19 (h.resolve_left (by decide)), fun h => q20 (h.resolve_left (by decide)), fun h => q21 (h.resolve_left (by decide)), fun h => q22 (h.resolve_left (by decide)), fun h => .inr (q23 (h.resolve_left (by decide))), fun h => .inr (q24 (h.resolve_left (by decide))), fun h => .inr (q25 (h.resolve_left (by decide)))⟩
              refine Inv.AllInv.cons ({ dst := some 84, op := Op.move (Operand.tmp 3), type := 3, pos := "outright.go:38", after := #[{ on := 21, ground := Ground.gcOnly Departure.lateStores }], guard := none }) rfl rfl [] (by kernel_rfl) ?_ ?_
              · intro Q2 u X wv hR hu hd K hK
                obtain ⟨q0, q1, q2, q3, q4, q5, q6, q7, q8, q9, q10, q11, q12, q13, q14, q15, q16, q17, q18, q19, q20, q21, q22, q23, q24, q25⟩ := hR
                refine ⟨?_⟩
                simp only [Inv.puts, Act.put, List.setIfInBounds_toArray, List.set_cons_zero, List.set_cons_succ] at hK
                simp only [Inv.puts, Act.put, List.setIfInBounds_toArray, List.set_cons_zero, List.set_cons_succ]
                go_simp
                refine hK.out (Inv.upd X 84 (.int .i64 (k : Int))) _ ?_
                exact ⟨q0.step (by decide) (by decide), fun h => q1 (h.resolve_left (by decide)), fun h => q2 (h.resolve_left (by decide)), fun h => q3 (h.resolve_left (by decide)), fun h => q4 (h.resolve_left (by decide)), fun h => q5 (h.resolve_left (by decide)), fun _ => rfl, fun h => q7 (h.resolve_left (by decide)), fun h => q8 (h.resolve_left (by decide)), fun h => q9 (h.resolve_left (by decide)), fun h => q10 (h.resolve_left (by decide)), fun h => q11 (h.resolve_left (by decide)), fun h => q12 (h.resolve_left (by decide)), fun h => q13 (h.resolve_left (by decide)), fun h => q14 (h.resolve_left (by decide)), fun h => q15 (h.resolve_left (by decide)), fun h => q16 (h.resolve_left (by decide)), fun h => q17 (h.resolve_left (by decide)), fun h => q18 (h.resolve_left (by decide)), fun h => q19 (h.resolve_left (by decide)), fun h => q20 (h.resolve_left (by decide)), fun h => q21 (h.resolve_left (by decide)), fun h => q22 (h.resolve_left (by decide)), fun h => .inr (q23 (h.resolve_left (by decide))), fun h => .inr (q24 (h.resolve_left (by decide))), fun h => .inr (q25 (h.resolve_left (by decide)))⟩
              refine Inv.AllInv.cons ({ dst := some 85, op := Op.binOp BinOp.mul 3 (Operand.const (Value.int IntKind.i64 2)) (Operand.tmp 84) 3, type := 3, pos := "outright.go:38", after := #[{ on := 5, ground := Ground.data }, { on := 21, ground := Ground.gcOnly Departure.lateStores }], guard := none }) rfl rfl [5] (by kernel_rfl) ?_ ?_
              · intro Q2 u X wv hR hu hd K hK
                obtain ⟨q0, q1, q2, q3, q4, q5, q6, q7, q8, q9, q10, q11, q12, q13, q14, q15, q16, q17, q18, q19, q20, q21, q22, q23, q24, q25⟩ := hR
                have e6 := q6 hd.1
                refine ⟨?_⟩
                simp only [Inv.puts, Act.put, List.setIfInBounds_toArray, List.set_cons_zero, List.set_cons_succ] at hK
                simp only [Inv.puts, Act.put, List.setIfInBounds_toArray, List.set_cons_zero, List.set_cons_succ, e6]
                go_simp
                refine hK.out (Inv.upd (Inv.upd X 84 (.int .i64 (k : Int))) 85 (.int .i64 (2 * (k : Int)))) _ ?_
                rw [Inv.upd_same e6]
                exact ⟨q0.step (by decide) (by decide), fun h => q1 (h.resolve_left (by decide)), fun h => q2 (h.resolve_left (by decide)), fun h => q3 (h.resolve_left (by decide)), fun h => q4 (h.resolve_left (by decide)), fun h => q5 (h.resolve_left (by decide)), fun h => q6 (h.resolve_left (by decide)), fun _ => rfl, fun h => q8 (h.resolve_left (by decide)), fun h => q9 (h.resolve_left (by decide)), fun h => q10 (h.resolve_left (by decide)), fun h => q11 (h.resolve_left (by decide)), fun h => q12 (h.resolve_left (by decide)), fun h => q13 (h.resolve_left (by decide)), fun h => q14 (h.resolve_left (by decide)), fun h => q15 (h.resolve_left (by decide)), fun h => q16 (h.resolve_left (by decide)), fun h => q17 (h.resolve_left (by decide)), fun h => q18 (h.resolve_left (by decide)), fun h => q19 (h.resolve_left (by decide)), fun h => q20 (h.resolve_left (by decide)), fun h => q21 (h.resolve_left (by decide)), fun h => q22 (h.resolve_left (by decide)), fun h => .inr (q23 (h.resolve_left (by decide))), fun h => .inr (q24 (h.resolve_left (by decide))), fun h => .inr (q25 (h.resolve_left (by decide)))⟩
              refine Inv.AllInv.cons ({ dst := some 86, op := Op.binOp BinOp.add 3 (Operand.tmp 85) (Operand.const (Value.int IntKind.i64 1)) 3, type := 3, pos := "outright.go:38", after := #[{ on := 6, ground := Ground.data }, { on := 21, ground := Ground.gcOnly Departure.lateStores }], guard := none }) rfl rfl [6] (by kernel_rfl) ?_ ?_
              · intro Q2 u X wv hR hu hd K hK
                obtain ⟨q0, q1, q2, q3, q4, q5, q6, q7, q8, q9, q10, q11, q12, q13, q14, q15, q16, q17, q18, q19, q20, q21, q22, q23, q24, q25⟩ := hR
                have e7 := q7 hd.1
                refine ⟨?_⟩
                simp only [Inv.puts, Act.put, List.setIfInBounds_toArray, List.set_cons_zero, List.set_cons_succ] at hK
                simp only [Inv.puts, Act.put, List.setIfInBounds_toArray, List.set_cons_zero, List.set_cons_succ, e7]
                go_simp
                refine hK.out (Inv.upd (Inv.upd X 85 (.int .i64 (2 * (k : Int)))) 86 (.int .i64 (2 * (k : Int) + 1))) _ ?_
                rw [Inv.upd_same e7]
                exact ⟨q0.step (by decide) (by decide), fun h => q1 (h.resolve_left (by decide)), fun h => q2 (h.resolve_left (by decide)), fun h => q3 (h.resolve_left (by decide)), fun h => q4 (h.resolve_left (by decide)), fun h => q5 (h.resolve_left (by decide)), fun h => q6 (h.resolve_left (by decide)), fun h => q7 (h.resolve_left (by decide)), fun _ => rfl, fun h => q9 (h.resolve_left (by decide)), fun h => q10 (h.resolve_left (by decide)), fun h => q11 (h.resolve_left (by decide)), fun h => q12 (h.resolve_left (by decide)), fun h => q13 (h.resolve_left (by decide)), fun h => q14 (h.resolve_left (by decide)), fun h => q15 (h.resolve_left (by decide)), fun h => q16 (h.resolve_left (by decide)), fun h => q17 (h.resolve_left (by decide)), fun h => q18 (h.resolve_left (by decide)), fun h => q19 (h.resolve_left (by decide)), fun h => q20 (h.resolve_left (by decide)), fun h => q21 (h.resolve_left (by decide)), fun h => q22 (h.resolve_left (by decide)), fun h => .inr (q23 (h.resolve_left (by decide))), fun h => .inr (q24 (h.resolve_left (by decide))), fun h => .inr (q25 (h.resolve_left (by decide)))⟩
              refine Inv.AllInv.cons ({ dst := some 87, op := Op.move (Operand.tmp 12), type := 37, pos := "outright.go:38", after := #[], guard := none }) rfl rfl [] (by kernel_rfl) ?_ ?_
              · intro Q2 u X wv hR hu hd K hK
                obtain ⟨q0, q1, q2, q3, q4, q5, q6, q7, q8, q9, q10, q11, q12, q13, q14, q15, q16, q17, q18, q19, q20, q21, q22, q23, q24, q25⟩ := hR
                refine ⟨?_⟩
                simp only [Inv.puts, Act.put, List.setIfInBounds_toArray, List.set_cons_zero, List.set_cons_succ] at hK
                simp only [Inv.puts, Act.put, List.setIfInBounds_toArray, List.set_cons_zero, List.set_cons_succ]
                go_simp
                refine hK.out (Inv.upd X 87 (.slice (some ⟨g, 0, none⟩) j cap)) _ ?_
                exact ⟨q0.step (by decide) (by decide), fun h => q1 (h.resolve_left (by decide)), fun h => q2 (h.resolve_left (by decide)), fun h => q3 (h.resolve_left (by decide)), fun h => q4 (h.resolve_left (by decide)), fun h => q5 (h.resolve_left (by decide)), fun h => q6 (h.resolve_left (by decide)), fun h => q7 (h.resolve_left (by decide)), fun h => q8 (h.resolve_left (by decide)), fun _ => rfl, fun h => q10 (h.resolve_left (by decide)), fun h => q11 (h.resolve_left (by decide)), fun h => q12 (h.resolve_left (by decide)), fun h => q13 (h.resolve_left (by decide)), fun h => q14 (h.resolve_left (by decide)), fun h => q15 (h.resolve_left (by decide)), fun h => q16 (h.resolve_left (by decide)), fun h => q17 (h.resolve_left (by decide)), fun h => q18 (h.resolve_left (by decide)), fun h => q19 (h.resolve_left (by decide)), fun h => q20 (h.resolve_left (by decide)), fun h => q21 (h.resolve_left (by decide)), fun h => q22 (h.resolve_left (by decide)), fun h => .inr (q23 (h.resolve_left (by decide))), fun h => .inr (q24 (h.resolve_left (by decide))), fun h => .inr (q25 (h.resolve_left (by decide)))⟩
              refine Inv.AllInv.cons ({ dst := some 88, op := Op.move (Operand.tmp 3), type := 3, pos := "outright.go:38", after := #[], guard := none }) rfl rfl [] (by kernel_rfl) ?_ ?_
              · intro Q2 u X wv hR hu hd K hK
                obtain ⟨q0, q1, q2, q3, q4, q5, q6, q7, q8, q9, q10, q11, q12, q13, q14, q15, q16, q17, q18, q19, q20, q21, q22, q23, q24, q25⟩ := hR
                refine ⟨?_⟩
                simp only [Inv.puts, Act.put, List.setIfInBounds_toArray, List.set_cons_zero, List.set_cons_succ] at hK
                simp only [Inv.puts, Act.put, List.setIfInBounds_toArray, List.set_cons_zero, List.set_cons_succ]
                go_simp
                refine hK.out (Inv.upd X 88 (.int .i64 (k : Int))) _ ?_
                exact ⟨q0.step (by decide) (by decide), fun h => q1 (h.resolve_left (by decide)), fun h => q2 (h.resolve_left (by decide)), fun h => q3 (h.resolve_left (by decide)), fun h => q4 (h.resolve_left (by decide)), fun h => q5 (h.resolve_left (by decide)), fun h => q6 (h.resolve_left (by decide)), fun h => q7 (h.resolve_left (by decide)), fun h => q8 (h.resolve_left (by decide)), fun h => q9 (h.resolve_left (by decide)), fun _ => rfl, fun h => q11 (h.resolve_left (by decide)), fun h => q12 (h.resolve_left (by decide)), fun h => q13 (h.resolve_left (by decide)), fun h => q14 (h.resolve_left (by decide)), fun h => q15 (h.resolve_left (by decide)), fun h => q16 (h.resolve_left (by decide)), fun h => q17 (h.resolve_left (by decide)), fun h => q18 (h.resolve_left (by decide)), fun h => q19 (h.resolve_left (by decide)), fun h => q20 (h.resolve_left (by decide)), fun h => q21 (h.resolve_left (by decide)), fun h => q22 (h.resolve_left (by decide)), fun h => .inr (q23 (h.resolve_left (by decide))), fun h => .inr (q24 (h.resolve_left (by decide))), fun h => .inr (q25 (h.resolve_left (by decide)))⟩
              refine Inv.AllInv.cons ({ dst := some 89, op := Op.binOp BinOp.mul 3 (Operand.const (Value.int IntKind.i64 2)) (Operand.tmp 88) 3, type := 3, pos := "outright.go:38", after := #[{ on := 9, ground := Ground.data }], guard := none }) rfl rfl [9] (by kernel_rfl) ?_ ?_
              · intro Q2 u X wv hR hu hd K hK
                obtain ⟨q0, q1, q2, q3, q4, q5, q6, q7, q8, q9, q10, q11, q12, q13, q14, q15, q16, q17, q18, q19, q20, q21, q22, q23, q24, q25⟩ := hR
                have e10 := q10 hd.1
                refine ⟨?_⟩
                simp only [Inv.puts, Act.put, List.setIfInBounds_toArray, List.set_cons_zero, List.set_cons_succ] at hK
                simp only [Inv.puts, Act.put, List.setIfInBounds_toArray, List.set_cons_zero, List.set_cons_succ, e10]
                go_simp
                refine hK.out (Inv.upd (Inv.upd X 88 (.int .i64 (k : Int))) 89 (.int .i64 (2 * (k : Int)))) _ ?_
                rw [Inv.upd_same e10]
                exact ⟨q0.step (by decide) (by decide), fun h => q1 (h.resolve_left (by decide)), fun h => q2 (h.resolve_left (by decide)), fun h => q3 (h.resolve_left (by decide)), fun h => q4 (h.resolve_left (by decide)), fun h => q5 (h.resolve_left (by decide)), fun h => q6 (h.resolve_left (by decide)), fun h => q7 (h.resolve_left (by decide)), fun h => q8 (h.resolve_left (by decide)), fun h => q9 (h.resolve_left (by decide)), fun h => q10 (h.resolve_left (by decide)), fun _ => rfl, fun h => q12 (h.resolve_left (by decide)), fun h => q13 (h.resolve_left (by decide)), fun h => q14 (h.resolve_left (by decide)), fun h => q15 (h.resolve_left (by decide)), fun h => q16 (h.resolve_left (by decide)), fun h => q17 (h.resolve_left (by decide)), fun h => q18 (h.resolve_left (by decide)), fun h => q19 (h.resolve_left (by decide)), fun h => q20 (h.resolve_left (by decide)), fun h => q21 (h.resolve_left (by decide)), fun h => q22 (h.resolve_left (by decide)), fun h => .inr (q23 (h.resolve_left (by decide))), fun h => .inr (q24 (h.resolve_left (by decide))), fun h => .inr (q25 (h.resolve_left (by decide)))⟩
              refine Inv.AllInv.cons ({ dst := some 90, op := Op.binOp BinOp.add 3 (Operand.tmp 89) (Operand.const (Value.int IntKind.i64 1)) 3, type := 3, pos := "outright.go:38", after := #[{ on := 10, ground := Ground.data }], guard := none }) rfl rfl [10] (by kernel_rfl) ?_ ?_
              · intro Q2 u X wv hR hu hd K hK
                obtain ⟨q0, q1, q2, q3, q4, q5, q6, q7, q8, q9, q10, q11, q12, q13, q14, q15, q16, q17, q18, q19, q20, q21, q22, q23, q24, q25⟩ := hR
                have e11 := q11 hd.1
                refine ⟨?_⟩
                simp only [Inv.puts, Act.put, List.setIfInBounds_toArray, List.set_cons_zero, List.set_cons_succ] at hK
                simp only [Inv.puts, Act.put, List.setIfInBounds_toArray, List.set_cons_zero, List.set_cons_succ, e11]
                go_simp
                refine hK.out (Inv.upd (Inv.upd X 89 (.int .i64 (2 * (k : Int)))) 90 (.int .i64 (2 * (k : Int) + 1))) _ ?_
                rw [Inv.upd_same e11]
                exact ⟨q0.step (by decide) (by decide), fun h => q1 (h.resolve_left (by decide)), fun h => q2 (h.resolve_left (by decide)), fun h => q3 (h.resolve_left (by decide)), fun h => q4 (h.resolve_left (by decide)), fun h => q5 (h.resolve_left (by decide)), fun h => q6 (h.resolve_left (by decide)), fun h => q7 (h.resolve_left (by decide)), fun h => q8 (h.resolve_left (by decide)), fun h => q9 (h.resolve_left (by decide)), fun h => q10 (h.resolve_left (by decide)), fun h => q11 (h.resolve_left (by decide)), fun _ => rfl, fun h => q13 (h.resolve_left (by decide)), fun h => q14 (h.resolve_left (by decide)), fun h => q15 (h.resolve_left (by decide)), fun h => q16 (h.resolve_left (by decide)), fun h => q17 (h.resolve_left (by decide)), fun h => q18 (h.resolve_left (by decide)), fun h => q19 (h.resolve_left (by decide)), fun h => q20 (h.resolve_left (by decide)), fun h => q21 (h.resolve_left (by decide)), fun h => q22 (h.resolve_left (by decide)), fun h => .inr (q23 (h.resolve_left (by decide))), fun h => .inr (q24 (h.resolve_left (by decide))), fun h => .inr (q25 (h.resolve_left (by decide)))⟩
              refine Inv.AllInv.cons ({ dst := some 91, op := Op.indexAddr 37 (Operand.tmp 87) (Operand.tmp 90), type := 0, pos := "outright.go:38", after := #[{ on := 8, ground := Ground.data }, { on := 11, ground := Ground.data }], guard := none }) rfl rfl [8, 11] (by kernel_rfl) ?_ ?_
              · intro Q2 u X wv hR hu hd K hK
                obtain ⟨q0, q1, q2, q3, q4, q5, q6, q7, q8, q9, q10, q11, q12, q13, q14, q15, q16, q17, q18, q19, q20, q21, q22, q23, q24, q25⟩ := hR
                have e9 := q9 hd.1
                have e12 := q12 hd.2.1
                refine ⟨?_⟩
                simp only [Inv.puts, Act.put, List.setIfInBounds_toArray, List.set_cons_zero, List.set_cons_succ] at hK
                simp only [Inv.puts, Act.put, List.setIfInBounds_toArray, List.set_cons_zero, List.set_cons_succ, e9, e12]
                go_simp
                refine hK.out (Inv.upd (Inv.upd (Inv.upd X 87 (.slice (some ⟨g, 0, none⟩) j cap)) 90 (.int .i64 (2 * (k : Int) + 1))) 91 (.pointer (some ⟨g, 2 * k + 1, none⟩))) _ ?_
                rw [Inv.upd_same e9, Inv.upd_same e12]
                exact ⟨q0.step (by decide) (by decide), fun h => q1 (h.resolve_left (by decide)), fun h => q2 (h.resolve_left (by decide)), fun h => q3 (h.resolve_left (by decide)), fun h => q4 (h.resolve_left (by decide)), fun h => q5 (h.resolve_left (by decide)), fun h => q6 (h.resolve_left (by decide)), fun h => q7 (h.resolve_left (by decide)), fun h => q8 (h.resolve_left (by decide)), fun h => q9 (h.resolve_left (by decide)), fun h => q10 (h.resolve_left (by decide)), fun h => q11 (h.resolve_left (by decide)), fun h => q12 (h.resolve_left (by decide)), fun _ => rfl, fun h => q14 (h.resolve_left (by decide)), fun h => q15 (h.resolve_left (by decide)), fun h => q16 (h.resolve_left (by decide)), fun h => q17 (h.resolve_left (by decide)), fun h => q18 (h.resolve_left (by decide)), fun h => q19 (h.resolve_left (by decide)), fun h => q20 (h.resolve_left (by decide)), fun h => q21 (h.resolve_left (by decide)), fun h => q22 (h.resolve_left (by decide)), fun h => .inr (q23 (h.resolve_left (by decide))), fun h => .inr (q24 (h.resolve_left (by decide))), fun h => .inr (q25 (h.resolve_left (by decide)))⟩
              refine Inv.AllInv.cons ({ dst := some 92, op := Op.load 5 (Operand.tmp 91), type := 5, pos := "outright.go:38", after := #[{ on := 12, ground := Ground.data }], guard := none }) rfl rfl [12] (by kernel_rfl) ?_ ?_
              · intro Q2 u X wv hR hu hd K hK
                obtain ⟨q0, q1, q2, q3, q4, q5, q6, q7, q8, q9, q10, q11, q12, q13, q14, q15, q16, q17, q18, q19, q20, q21, q22, q23, q24, q25⟩ := hR
                have e13 := q13 hd.1
                have hcy := q0.loadY (fun h => hu (q23 h))
                refine ⟨?_⟩
                simp only [Inv.puts, Act.put, List.setIfInBounds_toArray, List.set_cons_zero, List.set_cons_succ] at hK
                simp only [Inv.puts, Act.put, List.setIfInBounds_toArray, List.set_cons_zero, List.set_cons_succ, e13]
                go_simp
                refine hK.out (Inv.upd (Inv.upd X 91 (.pointer (some ⟨g, 2 * k + 1, none⟩))) 92 (.int .u8 y2)) _ ?_
                rw [Inv.upd_same e13]
                exact ⟨q0.step (by decide) (by decide), fun h => q1 (h.resolve_left (by decide)), fun h => q2 (h.resolve_left (by decide)), fun h => q3 (h.resolve_left (by decide)), fun h => q4 (h.resolve_left (by decide)), fun h => q5 (h.resolve_left (by decide)), fun h => q6 (h.resolve_left (by decide)), fun h => q7 (h.resolve_left (by decide)), fun h => q8 (h.resolve_left (by decide)), fun h => q9 (h.resolve_left (by decide)), fun h => q10 (h.resolve_left (by decide)), fun h => q11 (h.resolve_left (by decide)), fun h => q12 (h.resolve_left (by decide)), fun h => q13 (h.resolve_left (by decide)), fun _ => rfl, fun h => q15 (h.resolve_left (by decide)), fun h => q16 (h.resolve_left (by decide)), fun h => q17 (h.resolve_left (by decide)), fun h => q18 (h.resolve_left (by decide)), fun h => q19 (h.resolve_left (by decide)), fun h => q20 (h.resolve_left (by decide)), fun h => q21 (h.resolve_left (by decide)), fun h => q22 (h.resolve_left (by decide)), fun h => .inr (q23 (h.resolve_left (by decide))), fun h => .inr (q24 (h.resolve_left (by decide))), fun h => .inr (q25 (h.resolve_left (by decide)))⟩
              refine Inv.AllInv.cons ({ dst := some 93, op := Op.move (Operand.tmp 12), type := 37, pos := "outright.go:38", after := #[], guard := none }) rfl rfl [] (by kernel_rfl) ?_ ?_
              · intro Q2 u X wv hR hu hd K hK
                obtain ⟨q0, q1, q2, q3, q4, q5, q6, q7, q8, q9, q10, q11, q12, q13, q14, q15, q16, q17, q18, q19, q20, q21, q22, q23, q24, q25⟩ := hR
                refine ⟨?_⟩
                simp only [Inv.puts, Act.put, List.setIfInBounds_toArray, List.set_cons_zero, List.set_cons_succ] at hK
                simp only [Inv.puts, Act.put, List.setIfInBounds_toArray, List.set_cons_zero, List.set_cons_succ]
                go_simp
                refine hK.out (Inv.upd X 93 (.slice (some ⟨g, 0, none⟩) j cap)) _ ?_
                exact ⟨q0.step (by decide) (by decide), fun h => q1 (h.resolve_left (by decide)), fun h => q2 (h.resolve_left (by decide)), fun h => q3 (h.resolve_left (by decide)), fun h => q4 (h.resolve_left (by decide)), fun h => q5 (h.resolve_left (by decide)), fun h => q6 (h.resolve_left (by decide)), fun h => q7 (h.resolve_left (by decide)), fun h => q8 (h.resolve_left (by decide)), fun h => q9 (h.resolve_left (by decide)), fun h => q10 (h.resolve_left (by decide)), fun h => q11 (h.resolve_left (by decide)), fun h => q12 (h.resolve_left (by decide)), fun h => q13 (h.resolve_left (by decide)), fun h => q14 (h.resolve_left (by decide)), fun _ => rfl, fun h => q16 (h.resolve_left (by decide)), fun h => q17 (h.resolve_left (by decide)), fun h => q18 (h.resolve_left (by decide)), fun h => q19 (h.resolve_left (by decide)), fun h => q20 (h.resolve_left (by decide)), fun h => q21 (h.resolve_left (by decide)), fun h => q22 (h.resolve_left (by decide)), fun h => .inr (q23 (h.resolve_left (by decide))), fun h => .inr (q24 (h.resolve_left (by decide))), fun h => .inr (q25 (h.resolve_left (by decide)))⟩
              refine Inv.AllInv.cons ({ dst := some 94, op := Op.move (Operand.tmp 2), type := 3, pos := "outright.go:38", after := #[], guard := none }) rfl rfl [] (by kernel_rfl) ?_ ?_
              · intro Q2 u X wv hR hu hd K hK
                obtain ⟨q0, q1, q2, q3, q4, q5, q6, q7, q8, q9, q10, q11, q12, q13, q14, q15, q16, q17, q18, q19, q20, q21, q22, q23, q24, q25⟩ := hR
                refine ⟨?_⟩
                simp only [Inv.puts, Act.put, List.setIfInBounds_toArray, List.set_cons_zero, List.set_cons_succ] at hK
                simp only [Inv.puts, Act.put, List.setIfInBounds_toArray, List.set_cons_zero, List.set_cons_succ]
                go_simp
                refine hK.out (Inv.upd X 94 (.int .i64 (i : Int))) _ ?_
                exact ⟨q0.step (by decide) (by decide), fun h => q1 (h.resolve_left (by decide)), fun h => q2 (h.resolve_left (by decide)), fun h => q3 (h.resolve_left (by decide)), fun h => q4 (h.resolve_left (by decide)), fun h => q5 (h.resolve_left (by decide)), fun h => q6 (h.resolve_left (by decide)), fun h => q7 (h.resolve_left (by decide)), fun h => q8 (h.resolve_left (by decide)), fun h => q9 (h.resolve_left (by decide)), fun h => q10 (h.resolve_left (by decide)), fun h => q11 (h.resolve_left (by decide)), fun h => q12 (h.resolve_left (by decide)), fun h => q13 (h.resolve_left (by decide)), fun h => q14 (h.resolve_left (by decide)), fun h => q15 (h.resolve_left (by decide)), fun _ => rfl, fun h => q17 (h.resolve_left (by decide)), fun h => q18 (h.resolve_left (by decide)), fun h => q19 (h.resolve_left (by decide)), fun h => q20 (h.resolve_left (by decide)), fun h => q21 (h.resolve_left (by decide)), fun h => q22 (h.resolve_left (by decide)), fun h => .inr (q23 (h.resolve_left (by decide))), fun h => .inr (q24 (h.resolve_left (by decide))), fun h => .inr (q25 (h.resolve_left (by decide)))⟩
              refine Inv.AllInv.cons ({ dst := some 95, op := Op.binOp BinOp.mul 3 (Operand.const (Value.int IntKind.i64 2)) (Operand.tmp 94) 3, type := 3, pos := "outright.go:38", after := #[{ on := 15, ground := Ground.data }], guard := none }) rfl rfl [15] (by kernel_rfl) ?_ ?_
              · intro Q2 u X wv hR hu hd K hK
                obtain ⟨q0, q1, q2, q3, q4, q5, q6, q7, q8, q9, q10, q11, q12, q13, q14, q15, q16, q17, q18, q19, q20, q21, q22, q23, q24, q25⟩ := hR
                have e16 := q16 hd.1
                refine ⟨?_⟩
                simp only [Inv.puts, Act.put, List.setIfInBounds_toArray, List.set_cons_zero, List.set_cons_succ] at hK
                simp only [Inv.puts, Act.put, List.setIfInBounds_toArray, List.set_cons_zero, List.set_cons_succ, e16]
                go_simp
                refine hK.out (Inv.upd (Inv.upd X 94 (.int .i64 (i : Int))) 95 (.int .i64 (2 * (i : Int)))) _ ?_
                rw [Inv.upd_same e16]
                exact ⟨q0.step (by decide) (by decide), fun h => q1 (h.resolve_left (by decide)), fun h => q2 (h.resolve_left (by decide)), fun h => q3 (h.resolve_left (by decide)), fun h => q4 (h.resolve_left (by decide)), fun h => q5 (h.resolve_left (by decide)), fun h => q6 (h.resolve_left (by decide)), fun h => q7 (h.resolve_left (by decide)), fun h => q8 (h.resolve_left (by decide)), fun h => q9 (h.resolve_left (by decide)), fun h => q10 (h.resolve_left (by decide)), fun h => q11 (h.resolve_left (by decide)), fun h => q12 (h.resolve_left (by decide)), fun h => q13 (h.resolve_left (by decide)), fun h => q14 (h.resolve_left (by decide)), fun h => q15 (h.resolve_left (by decide)), fun h => q16 (h.resolve_left (by decide)), fun _ => rfl, fun h => q18 (h.resolve_left (by decide)), fun h => q19 (h.resolve_left (by decide)), fun h => q20 (h.resolve_left (by decide)), fun h => q21 (h.resolve_left (by decide)), fun h => q22 (h.resolve_left (by decide)), fun h => .inr (q23 (h.resolve_left (by decide))), fun h => .inr (q24 (h.resolve_left (by decide))), fun h => .inr (q25 (h.resolve_left (by decide)))⟩
              refine Inv.AllInv.cons ({ dst := some 96, op := Op.binOp BinOp.add 3 (Operand.tmp 95) (Operand.const (Value.int IntKind.i64 1)) 3, type := 3, pos := "outright.go:38", after := #[{ on := 16, ground := Ground.data }], guard := none }) rfl rfl [16] (by kernel_rfl) ?_ ?_
              · intro Q2 u X wv hR hu hd K hK
                obtain ⟨q0, q1, q2, q3, q4, q5, q6, q7, q8, q9, q10, q11, q12, q13, q14, q15, q16, q17, q18, q19, q20, q21, q22, q23, q24, q25⟩ := hR
                have e17 := q17 hd.1
                refine ⟨?_⟩
                simp only [Inv.puts, Act.put, List.setIfInBounds_toArray, List.set_cons_zero, List.set_cons_succ] at hK
                simp only [Inv.puts, Act.put, List.setIfInBounds_toArray, List.set_cons_zero, List.set_cons_succ, e17]
                go_simp
                refine hK.out (Inv.upd (Inv.upd X 95 (.int .i64 (2 * (i : Int)))) 96 (.int .i64 (2 * (i : Int) + 1))) _ ?_
                rw [Inv.upd_same e17]
                exact ⟨q0.step (by decide) (by decide), fun h => q1 (h.resolve_left (by decide)), fun h => q2 (h.resolve_left (by decide)), fun h => q3 (h.resolve_left (by decide)), fun h => q4 (h.resolve_left (by decide)), fun h => q5 (h.resolve_left (by decide)), fun h => q6 (h.resolve_left (by decide)), fun h => q7 (h.resolve_left (by decide)), fun h => q8 (h.resolve_left (by decide)), fun h => q9 (h.resolve_left (by decide)), fun h => q10 (h.resolve_left (by decide)), fun h => q11 (h.resolve_left (by decide)), fun h => q12 (h.resolve_left (by decide)), fun h => q13 (h.resolve_left (by decide)), fun h => q14 (h.resolve_left (by decide)), fun h => q15 (h.resolve_left (by decide)), fun h => q16 (h.resolve_left (by decide)), fun h => q17 (h.resolve_left (by decide)), fun _ => rfl, fun h => q19 (h.resolve_left (by decide)), fun h => q20 (h.resolve_left (by decide)), fun h => q21 (h.resolve_left (by decide)), fun h => q22 (h.resolve_left (by decide)), fun h => .inr (q23 (h.resolve_left (by decide))), fun h => .inr (q24 (h.resolve_left (by decide))), fun h => .inr (q25 (h.resolve_left (by decide)))⟩
              refine Inv.AllInv.cons ({ dst := some 97, op := Op.indexAddr 37 (Operand.tmp 93) (Operand.tmp 96), type := 0, pos := "outright.go:38", after := #[{ on := 14, ground := Ground.data }, { on := 17, ground := Ground.data }], guard := none }) rfl rfl [14, 17] (by kernel_rfl) ?_ ?_
              · intro Q2 u X wv hR hu hd K hK
                obtain ⟨q0, q1, q2, q3, q4, q5, q6, q7, q8, q9, q10, q11, q12, q13, q14, q15, q16, q17, q18, q19, q20, q21, q22, q23, q24, q25⟩ := hR
                have e15 := q15 hd.1
                have e18 := q18 hd.2.1
                refine ⟨?_⟩
                simp only [Inv.puts, Act.put, List.setIfInBounds_toArray, List.set_cons_zero, List.set_cons_succ] at hK
                simp only [Inv.puts, Act.put, List.setIfInBounds_toArray, List.set_cons_zero, List.set_cons_succ, e15, e18]
                go_simp
                refine hK.out (Inv.upd (Inv.upd (Inv.upd X 93 (.slice (some ⟨g, 0, none⟩) j cap)) 96 (.int .i64 (2 * (i : Int) + 1))) 97 (.pointer (some ⟨g, 2 * i + 1, none⟩))) _ ?_
                rw [Inv.upd_same e15, Inv.upd_same e18]
                exact ⟨q0.step (by decide) (by decide), fun h => q1 (h.resolve_left (by decide)), fun h => q2 (h.resolve_left (by decide)), fun h => q3 (h.resolve_left (by decide)), fun h => q4 (h.resolve_left (by decide)), fun h => q5 (h.resolve_left (by decide)), fun h => q6 (h.resolve_left (by decide)), fun h => q7 (h.resolve_left (by decide)), fun h => q8 (h.resolve_left (by decide)), fun h => q9 (h.resolve_left (by decide)), fun h => q10 (h.resolve_left (by decide)), fun h => q11 (h.resolve_left (by decide)), fun h => q12 (h.resolve_left (by decide)), fun h => q13 (h.resolve_left (by decide)), fun h => q14 (h.resolve_left (by decide)), fun h => q15 (h.resolve_left (by decide)), fun h => q16 (h.resolve_left (by decide)), fun h => q17 (h.resolve_left (by decide)), fun h => q18 (h.resolve_left (by decide)), fun _ => rfl, fun h => q20 (h.resolve_left (by decide)), fun h => q21 (h.resolve_left (by decide)), fun h => q22 (h.resolve_left (by decide)), fun h => .inr (q23 (h.resolve_left (by decide))), fun h => .inr (q24 (h.resolve_left (by decide))), fun h => .inr (q25 (h.resolve_left (by decide)))⟩
              refine Inv.AllInv.cons ({ dst := some 98, op := Op.load 5 (Operand.tmp 97), type := 5, pos := "outright.go:38", after := #[{ on := 18, ground := Ground.data }], guard := none }) rfl rfl [18] (by kernel_rfl) ?_ ?_
              · intro Q2 u X wv hR hu hd K hK
                obtain ⟨q0, q1, q2, q3, q4, q5, q6, q7, q8, q9, q10, q11, q12, q13, q14, q15, q16, q17, q18, q19, q20, q21, q22, q23, q24, q25⟩ := hR
                have e19 := q19 hd.1
                have hcx := q0.loadX (fun h => hu (q24 h))
                refine ⟨?_⟩
                simp only [Inv.puts, Act.put, List.setIfInBounds_toArray, List.set_cons_zero, List.set_cons_succ] at hK
                simp only [Inv.puts, Act.put, List.setIfInBounds_toArray, List.set_cons_zero, List.set_cons_succ, e19]
                go_simp
                refine hK.out (Inv.upd (Inv.upd X 97 (.pointer (some ⟨g, 2 * i + 1, none⟩))) 98 (.int .u8 x2)) _ ?_
                rw [Inv.upd_same e19]
                exact ⟨q0.step (by decide) (by decide), fun h => q1 (h.resolve_left (by decide)), fun h => q2 (h.resolve_left (by decide)), fun h => q3 (h.resolve_left (by decide)), fun h => q4 (h.resolve_left (by decide)), fun h => q5 (h.resolve_left (by decide)), fun h => q6 (h.resolve_left (by decide)), fun h => q7 (h.resolve_left (by decide)), fun h => q8 (h.resolve_left (by decide)), fun h => q9 (h.resolve_left (by decide)), fun h => q10 (h.resolve_left (by decide)), fun h => q11 (h.resolve_left (by decide)), fun h => q12 (h.resolve_left (by decide)), fun h => q13 (h.resolve_left (by decide)), fun h => q14 (h.resolve_left (by decide)), fun h => q15 (h.resolve_left (by decide)), fun h => q16 (h.resolve_left (by decide)), fun h => q17 (h.resolve_left (by decide)), fun h => q18 (h.resolve_left (by decide)), fun h => q19 (h.resolve_left (by decide)), fun _ => rfl, fun h => q21 (h.resolve_left (by decide)), fun h => q22 (h.resolve_left (by decide)), fun h => .inr (q23 (h.resolve_left (by decide))), fun h => .inr (q24 (h.resolve_left (by decide))), fun h => .inr (q25 (h.resolve_left (by decide)))⟩
              refine Inv.AllInv.cons ({ dst := some 99, op := Op.indexAddr 37 (Operand.tmp 79) (Operand.tmp 82), type := 0, pos := "outright.go:38", after := #[{ on := 0, ground := Ground.data }, { on := 3, ground := Ground.data }, { on := 0, ground := Ground.phase }, { on := 1, ground := Ground.phase }, { on := 2, ground := Ground.phase }, { on := 3, ground := Ground.phase }, { on := 4, ground := Ground.textOnly Departure.lateStores }, { on := 5, ground := Ground.textOnly Departure.lateStores }, { on := 6, ground := Ground.textOnly Departure.lateStores }, { on := 7, ground := Ground.textOnly Departure.lateStores }, { on := 8, ground := Ground.phase }, { on := 9, ground := Ground.phase }, { on := 10, ground := Ground.phase }, { on := 11, ground := Ground.phase }, { on := 12, ground := Ground.phase }, { on := 13, ground := Ground.phase }, { on := 14, ground := Ground.textOnly Departure.lateStores }, { on := 15, ground := Ground.textOnly Departure.lateStores }, { on := 16, ground := Ground.textOnly Departure.lateStores }, { on := 17, ground := Ground.textOnly Departure.lateStores }, { on := 18, ground := Ground.textOnly Departure.lateStoresUnsure }, { on := 19, ground := Ground.phase }], guard := none }) rfl rfl [0, 3, 0, 1, 2, 3, 8, 9, 10, 11, 12, 13, 19] (by kernel_rfl) ?_ ?_
              · intro Q2 u X wv hR hu hd K hK
                obtain ⟨q0, q1, q2, q3, q4, q5, q6, q7, q8, q9, q10, q11, q12, q13, q14, q15, q16, q17, q18, q19, q20, q21, q22, q23, q24, q25⟩ := hR
                have e1 := q1 hd.1
                have e4 := q4 hd.2.1
                refine ⟨?_⟩
                simp only [Inv.puts, Act.put, List.setIfInBounds_toArray, List.set_cons_zero, List.set_cons_succ] at hK
                simp only [Inv.puts, Act.put, List.setIfInBounds_toArray, List.set_cons_zero, List.set_cons_succ, e1, e4]
                go_simp
                refine hK.out (Inv.upd (Inv.upd (Inv.upd X 79 (.slice (some ⟨g, 0, none⟩) j cap)) 82 (.int .i64 (2 * (i : Int) + 1))) 99 (.pointer (some ⟨g, 2 * i + 1, none⟩))) _ ?_
                rw [Inv.upd_same e1, Inv.upd_same e4]
                exact ⟨q0.step (by decide) (by decide), fun h => q1 (h.resolve_left (by decide)), fun h => q2 (h.resolve_left (by decide)), fun h => q3 (h.resolve_left (by decide)), fun h => q4 (h.resolve_left (by decide)), fun h => q5 (h.resolve_left (by decide)), fun h => q6 (h.resolve_left (by decide)), fun h => q7 (h.resolve_left (by decide)), fun h => q8 (h.resolve_left (by decide)), fun h => q9 (h.resolve_left (by decide)), fun h => q10 (h.resolve_left (by decide)), fun h => q11 (h.resolve_left (by decide)), fun h => q12 (h.resolve_left (by decide)), fun h => q13 (h.resolve_left (by decide)), fun h => q14 (h.resolve_left (by decide)), fun h => q15 (h.resolve_left (by decide)), fun h => q16 (h.resolve_left (by decide)), fun h => q17 (h.resolve_left (by decide)), fun h => q18 (h.resolve_left (by decide)), fun h => q19 (h.resolve_left (by decide)), fun h => q20 (h.resolve_left (by decide)), fun _ => rfl, fun h => q22 (h.resolve_left (by decide)), fun h => .inr (q23 (h.resolve_left (by decide))), fun h => .inr (q24 (h.resolve_left (by decide))), fun h => .inr (q25 (h.resolve_left (by decide)))⟩
              refine Inv.AllInv.cons ({ dst := none, op := Op.store 5 (Operand.tmp 99) (Operand.tmp 92), type := 0, pos := "outright.go:38", after := #[{ on := 20, ground := Ground.data }, { on := 13, ground := Ground.data }, { on := 0, ground := Ground.phase }, { on := 1, ground := Ground.phase }, { on := 2, ground := Ground.phase }, { on := 3, ground := Ground.phase }, { on := 4, ground := Ground.textOnly Departure.lateStores }, { on := 5, ground := Ground.textOnly Departure.lateStores }, { on := 6, ground := Ground.textOnly Departure.lateStores }, { on := 7, ground := Ground.textOnly Departure.lateStores }, { on := 8, ground := Ground.phase }, { on := 9, ground := Ground.phase }, { on := 10, ground := Ground.phase }, { on := 11, ground := Ground.phase }, { on := 12, ground := Ground.phase }, { on := 13, ground := Ground.phase }, { on := 14, ground := Ground.textOnly Departure.lateStores }, { on := 15, ground := Ground.textOnly Departure.lateStores }, { on := 16, ground := Ground.textOnly Departure.lateStores }, { on := 17, ground := Ground.textOnly Departure.lateStores }, { on := 18, ground := Ground.textOnly Departure.lateStoresUnsure }, { on := 19, ground := Ground.phase }], guard := none }) rfl rfl [20, 13, 0, 1, 2, 3, 8, 9, 10, 11, 12, 13, 19] (by kernel_rfl) ?_ ?_
              · intro Q2 u X wv hR hu hd K hK
                obtain ⟨q0, q1, q2, q3, q4, q5, q6, q7, q8, q9, q10, q11, q12, q13, q14, q15, q16, q17, q18, q19, q20, q21, q22, q23, q24, q25⟩ := hR
                have e21 := q21 hd.1
                have e14 := q14 hd.2.1
                have hnot2 : ¬ u 23 := fun h => hu (q25 h)
                obtain ⟨hcell, hfr⟩ := q0.cell1 hu hnot2
                refine ⟨?_⟩
                simp only [Inv.puts, Act.put, List.setIfInBounds_toArray, List.set_cons_zero, List.set_cons_succ] at hK
                simp only [Inv.puts, Act.put, List.setIfInBounds_toArray, List.set_cons_zero, List.set_cons_succ, e21, e14]
                go_simp
                refine hK.out (Inv.upd (Inv.upd X 99 (.pointer (some ⟨g, 2 * i + 1, none⟩))) 92 (.int .u8 y2)) _ ?_
                rw [Inv.upd_same e21, Inv.upd_same e14]
                exact ⟨q0.store1 hu hnot2 (.inl rfl) (fun h => hnot2 (h.resolve_left (by decide))), fun h => q1 (h.resolve_left (by decide)), fun h => q2 (h.resolve_left (by decide)), fun h => q3 (h.resolve_left (by decide)), fun h => q4 (h.resolve_left (by decide)), fun h => q5 (h.resolve_left (by decide)), fun h => q6 (h.resolve_left (by decide)), fun h => q7 (h.resolve_left (by decide)), fun h => q8 (h.resolve_left (by decide)), fun h => q9 (h.resolve_left (by decide)), fun h => q10 (h.resolve_left (by decide)), fun h => q11 (h.resolve_left (by decide)), fun h => q12 (h.resolve_left (by decide)), fun h => q13 (h.resolve_left (by decide)), fun h => q14 (h.resolve_left (by decide)), fun h => q15 (h.resolve_left (by decide)), fun h => q16 (h.resolve_left (by decide)), fun h => q17 (h.resolve_left (by decide)), fun h => q18 (h.resolve_left (by decide)), fun h => q19 (h.resolve_left (by decide)), fun h => q20 (h.resolve_left (by decide)), fun h => q21 (h.resolve_left (by decide)), fun h => q22 (h.resolve_left (by decide)), fun _ => .inr (hd.2.1), fun _ => .inr (hd.2.2.2.2.2.2.2.2.2.2.2.2.1), fun h => .inr (q25 (h.resolve_left (by decide)))⟩
              refine Inv.AllInv.cons ({ dst := some 100, op := Op.indexAddr 37 (Operand.tmp 83) (Operand.tmp 86), type := 0, pos := "outright.go:38", after := #[{ on := 4, ground := Ground.data }, { on := 7, ground := Ground.data }, { on := 0, ground := Ground.phase }, { on := 1, ground := Ground.phase }, { on := 2, ground := Ground.phase }, { on := 3, ground := Ground.phase }, { on := 4, ground := Ground.phase }, { on := 5, ground := Ground.phase }, { on := 6, ground := Ground.phase }, { on := 7, ground := Ground.phase }, { on := 8, ground := Ground.phase }, { on := 9, ground := Ground.phase }, { on := 10, ground := Ground.phase }, { on := 11, ground := Ground.phase }, { on := 12, ground := Ground.phase }, { on := 13, ground := Ground.phase }, { on := 14, ground := Ground.phase }, { on := 15, ground := Ground.phase }, { on := 16, ground := Ground.phase }, { on := 17, ground := Ground.phase }, { on := 18, ground := Ground.phase }, { on := 19, ground := Ground.phase }, { on := 20, ground := Ground.phase }, { on := 21, ground := Ground.phase }], guard := none }) rfl rfl [4, 7, 0, 1, 2, 3, 4, 5, 6, 7, 8, 9, 10, 11, 12, 13, 14, 15, 16, 17, 18, 19, 20, 21] (by kernel_rfl) ?_ ?_
              · intro Q2 u X wv hR hu hd K hK
                obtain ⟨q0, q1, q2, q3, q4, q5, q6, q7, q8, q9, q10, q11, q12, q13, q14, q15, q16, q17, q18, q19, q20, q21, q22, q23, q24, q25⟩ := hR
                have e5 := q5 hd.1
                have e8 := q8 hd.2.1
                refine ⟨?_⟩
                simp only [Inv.puts, Act.put, List.setIfInBounds_toArray, List.set_cons_zero, List.set_cons_succ] at hK
                simp only [Inv.puts, Act.put, List.setIfInBounds_toArray, List.set_cons_zero, List.set_cons_succ, e5, e8]
                go_simp
                refine hK.out (Inv.upd (Inv.upd (Inv.upd X 83 (.slice (some ⟨g, 0, none⟩) j cap)) 86 (.int .i64 (2 * (k : Int) + 1))) 100 (.pointer (some ⟨g, 2 * k + 1, none⟩))) _ ?_
                rw [Inv.upd_same e5, Inv.upd_same e8]
                exact ⟨q0.step (by decide) (by decide), fun h => q1 (h.resolve_left (by decide)), fun h => q2 (h.resolve_left (by decide)), fun h => q3 (h.resolve_left (by decide)), fun h => q4 (h.resolve_left (by decide)), fun h => q5 (h.resolve_left (by decide)), fun h => q6 (h.resolve_left (by decide)), fun h => q7 (h.resolve_left (by decide)), fun h => q8 (h.resolve_left (by decide)), fun h => q9 (h.resolve_left (by decide)), fun h => q10 (h.resolve_left (by decide)), fun h => q11 (h.resolve_left (by decide)), fun h => q12 (h.resolve_left (by decide)), fun h => q13 (h.resolve_left (by decide)), fun h => q14 (h.resolve_left (by decide)), fun h => q15 (h.resolve_left (by decide)), fun h => q16 (h.resolve_left (by decide)), fun h => q17 (h.resolve_left (by decide)), fun h => q18 (h.resolve_left (by decide)), fun h => q19 (h.resolve_left (by decide)), fun h => q20 (h.resolve_left (by decide)), fun h => q21 (h.resolve_left (by decide)), fun _ => rfl, fun h => .inr (q23 (h.resolve_left (by decide))), fun h => .inr (q24 (h.resolve_left (by decide))), fun h => .inr (q25 (h.resolve_left (by decide)))⟩
              refine Inv.AllInv.cons ({ dst := none, op := Op.store 5 (Operand.tmp 100) (Operand.tmp 98), type := 0, pos := "outright.go:38", after := #[{ on := 22, ground := Ground.data }, { on := 19, ground := Ground.data }, { on := 21, ground := Ground.chain }, { on := 0, ground := Ground.phase }, { on := 1, ground := Ground.phase }, { on := 2, ground := Ground.phase }, { on := 3, ground := Ground.phase }, { on := 4, ground := Ground.phase }, { on := 5, ground := Ground.phase }, { on := 6, ground := Ground.phase }, { on := 7, ground := Ground.phase }, { on := 8, ground := Ground.phase }, { on := 9, ground := Ground.phase }, { on := 10, ground := Ground.phase }, { on := 11, ground := Ground.phase }, { on := 12, ground := Ground.phase }, { on := 13, ground := Ground.phase }, { on := 14, ground := Ground.phase }, { on := 15, ground := Ground.phase }, { on := 16, ground := Ground.phase }, { on := 17, ground := Ground.phase }, { on := 18, ground := Ground.phase }, { on := 19, ground := Ground.phase }, { on := 20, ground := Ground.phase }, { on := 21, ground := Ground.phase }], guard := none }) rfl rfl [22, 19, 21, 0, 1, 2, 3, 4, 5, 6, 7, 8, 9, 10, 11, 12, 13, 14, 15, 16, 17, 18, 19, 20, 21] (by kernel_rfl) ?_ ?_
              · intro Q2 u X wv hR hu hd K hK
                obtain ⟨q0, q1, q2, q3, q4, q5, q6, q7, q8, q9, q10, q11, q12, q13, q14, q15, q16, q17, q18, q19, q20, q21, q22, q23, q24, q25⟩ := hR
                have e22 := q22 hd.1
                have e20 := q20 hd.2.1
                obtain ⟨hcell, hfr⟩ := q0.cell2 hd.2.2.1 hu
                refine ⟨?_⟩
                simp only [Inv.puts, Act.put, List.setIfInBounds_toArray, List.set_cons_zero, List.set_cons_succ] at hK
                simp only [Inv.puts, Act.put, List.setIfInBounds_toArray, List.set_cons_zero, List.set_cons_succ, e22, e20]
                go_simp
                refine hK.out (Inv.upd (Inv.upd X 100 (.pointer (some ⟨g, 2 * k + 1, none⟩))) 98 (.int .u8 x2)) _ ?_
                rw [Inv.upd_same e22, Inv.upd_same e20]
                exact ⟨q0.store2 hd.2.2.1 hu (.inl rfl), fun h => q1 (h.resolve_left (by decide)), fun h => q2 (h.resolve_left (by decide)), fun h => q3 (h.resolve_left (by decide)), fun h => q4 (h.resolve_left (by decide)), fun h => q5 (h.resolve_left (by decide)), fun h => q6 (h.resolve_left (by decide)), fun h => q7 (h.resolve_left (by decide)), fun h => q8 (h.resolve_left (by decide)), fun h => q9 (h.resolve_left (by decide)), fun h => q10 (h.resolve_left (by decide)), fun h => q11 (h.resolve_left (by decide)), fun h => q12 (h.resolve_left (by decide)), fun h => q13 (h.resolve_left (by decide)), fun h => q14 (h.resolve_left (by decide)), fun h => q15 (h.resolve_left (by decide)), fun h => q16 (h.resolve_left (by decide)), fun h => q17 (h.resolve_left (by decide)), fun h => q18 (h.resolve_left (by decide)), fun h => q19 (h.resolve_left (by decide)), fun h => q20 (h.resolve_left (by decide)), fun h => q21 (h.resolve_left (by decide)), fun h => q22 (h.resolve_left (by decide)), fun h => .inr (q23 (h.resolve_left (by decide))), fun h => .inr (q24 (h.resolve_left (by decide))), fun _ => .inr (hd.2.2.1)⟩
              exact Inv.AllInv.nil
            · intro u X wv hd hR
              obtain ⟨q0, q1, q2, q3, q4, q5, q6, q7, q8, q9, q10, q11, q12, q13, q14, q15, q16, q17, q18, q19, q20, q21, q22, q23, q24, q25⟩ := hR
              obtain ⟨u0, u1, u2, u3, u4, u5, u6, u7, u8, u9, u10, u11, u12, u13, u14, u15, u16, u17, u18, u19, u20, u21, u22, u23, -⟩ := hd
              simp only [Inv.puts, Act.put, List.setIfInBounds_toArray, List.set_cons_zero, List.set_cons_succ, q1 u0, q2 u1, q3 u2, q4 u3, q5 u4, q6 u5, q7 u6, q8 u7, q9 u8, q10 u9, q11 u10, q12 u11, q13 u12, q14 u13, q15 u14, q16 u15, q17 u16, q18 u17, q19 u18, q20 u19, q21 u20, q22 u22]
              have HM := q0.done u23
              clear q0 q1 q2 q3 q4 q5 q6 q7 q8 q9 q10 q11 q12 q13 q14 q15 q16 q17 q18 q19 q20 q21 q22 q23 q24 q25 u0 u1 u2 u3 u4 u5 u6 u7 u8 u9 u10 u11 u12 u13 u14 u15 u16 u17 u18 u19 u20 u21 u22 u23
              obtain ⟨hMB, hMO⟩ := HM
              rw [HSWP.out] at hMO
              have hbi : 2 * i + 1 < L.length := by rw [HL.out]; exact i10
              have hbk : 2 * k + 1 < L.length := by rw [HL.out]; exact k10
              have hfin : WordsS wr wr.heap.size j (.slice (some ⟨g, 0, none⟩) j cap) s0 S wv := ⟨swapped L i k, hMO, by rw [swapped_length, HL.out], byt_swapped HY.out i k, by rw [HSW.out i k hbi hbk, HS.out], hMB⟩
              have HF := Lib.hid hfin
              clear hMB hMO hfin HST X
              go_wp2_with fail
              go_meet
              case rel => exact HF.out
        · obtain rfl : m = 0 := by have := HM2.out; omega
          have hfin : WordsS wr wr.heap.size j (.slice A1 j cap) s0 S w3 := ⟨L, hown, HL.out, HY.out, HS.out.symm, hB3⟩
          have HF := Lib.hid hfin
          clear hfin hown hat
          go_wp2_with fail
          go_meet
          case rel => exact HF.out
      case rest =>
        obtain ⟨C, hCO, hCL, hCY, hCS, hCB⟩ := hcut
        clear hown hat hB3 hs3
        have hat := (hCO.form)
        obtain ⟨A2, c2, e2, hat2⟩ := hat
        injection e2 with e3 e4 e5
        subst e3
        clear e4 e5
        have hsm2 := Lib.hid (HSM.out _ A1 cap C hCL hlc hcm hCY hat2)
        rw [hCS] at hsm2
        have HCO := Lib.hid hCO
        have HCB := Lib.hid hCB
        have HCY := Lib.hid hCY
        clear hCO hat2 hCB hCY HSM HSW HS
        go_wp2_with fail
        refine hsm2.out.mono ?_
        rintro e w5 ⟨rfl, q5, hq5⟩
        have hO5 : OwnB w5 wr.heap.size (.slice A1 j cap) C := by rw [hq5]; exact World.ownsRow.drewN' HCO.out q5
        have hB5 : Below wr.heap.size wr w5 := by rw [hq5]; exact below_drewN HCB.out q5
        have hB6 := hB2.trans (hB5.mono hsz)
        clear hsm2 HCO HCB hq5
        rcases Nat.mod_two_eq_zero_or_one j with h2 | h2
        · have f0 : (j : Int) % 2 = 0 := by omega
          go_wp2_with fail
          go_ret
          exact ⟨rfl, hB6⟩
        · have f0 : (j : Int) % 2 = 1 := by omega
          have hz1 : BytesAt (w5.alloc (.cells #[.int .u8 0] 5)) (some ⟨w5.heap.size, 0, none⟩) [0] := (ByteBlk.new w5 [0]).at_
          have hO6 : OwnB (w5.alloc (.cells #[.int .u8 0] 5)) wr.heap.size (.slice A1 j cap) C := World.ownsRow.alloc hO5 _
          have hs6 : wr.heap.size ≤ (w5.alloc (.cells #[.int .u8 0] 5)).heap.size := by have := hB5.size; simp; omega
          have hB7 : Below w.heap.size w (w5.alloc (.cells #[.int .u8 0] 5)) := hB6.alloc (by have := hB5.size; omega) _
          have hpd := sumW_pad C s0 HCY.out HS0.out (by rw [hCL]; exact h2)
          rw [hCS] at hpd
          go_wp2_with (at_builtin; (refine append_bytes_g Try.underlying37 byte_info _ rfl (.tmp 111) (.tmp 112) rfl wr.heap.size _ C rfl hO6 _ 1 1 [0] rfl rfl hz1 (by rw [hCL]; simp; omega) hs6 ?_; intro v' w6 hO7 hB8))
          obtain ⟨A3, c3, rfl, hat3, hlc3, hcm3⟩ := ownB_slice hO7
          have hY3 : Byt (C ++ [0]) := fun y hy => by
            rcases List.mem_append.1 hy with h | h
            · exact HCY.out y h
            · simp at h; omega
          have hfin := HSM1.out w6 A3 c3 (C ++ [0]).length (C ++ [0]) rfl hlc3 hcm3 hY3 hat3
          rw [hpd] at hfin
          have hB9 : Below w.heap.size w w6 := hB7.trans (hB8.mono hsz)
          clear hO7 hat3 hY3 hpd hB8 hB7 hO6 hO5 HSM1
          generalize (C ++ [0]).length = N3 at *
          refine hfin.mono ?_
          rintro e w7 ⟨rfl, q7, rfl⟩
          go_wp2_with fail
          go_ret
          exact ⟨by simp, below_drewN hB9 q7⟩
end Go.Proofs.Ytmdblhgnncfooaa
