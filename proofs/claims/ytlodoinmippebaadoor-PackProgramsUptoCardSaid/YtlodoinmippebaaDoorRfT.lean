/- The table of rows of the document's answer for package code: what Rows makes. -/
import Derived.Test.YtlodoinmippebaaDoorRfA
namespace Go.Proofs.YtlodoinmippebaaDoor.Rf
open Go.ChangeShapes Go.WideShapes Go.ChangeAt Go.RowKit
open Cod Bits
set_option linter.unusedVariables false
set_option linter.unusedSimpArgs false

/-- rows under way: of the call's own -/
structure RWay (w0 : World) (L : List RRow) (n : Nat) (v : Value) (w : World) : Prop where
  own : OwnR w w0.heap.size v L
  below : Below w0.heap.size w0 w
  len : L.length ≤ n
theorem RWay.up {w0 : World} {L : List RRow} {n : Nat} {v : Value} {w w' : World} (h : RWay w0 L n v w) (hb : Below w.heap.size w w') : RWay w0 L n v w' := ⟨h.own.below hb, h.below.trans (hb.mono h.below.size), h.len⟩
theorem RWay.alu {w0 : World} {L : List RRow} {n : Nat} {v : Value} {w : World} (h : RWay w0 L n v w) (hn : n ≤ 4000) (op digit off : Int) (hd : 0 ≤ digit ∧ digit ≤ 15) :
    Calls Tryd.prog 98 #[v, .int .i64 op, .int .i64 digit, .int .i64 off] w fun e w' => ∃ v', e = .returned v' ∧ RWay w0 (L ++ aluL op digit off) (n + 4) v' w' :=
  (alu_any w w0.heap.size v L op digit off hd h.own (Nat.le_trans h.len hn) h.below.size).mono fun e w' ⟨v', he, ho, hb⟩ => ⟨v', he, ho, h.below.trans hb, by rw [List.length_append]; have := h.len; simp [aluL]; omega⟩
theorem RWay.jump {w0 : World} {L : List RRow} {n : Nat} {v : Value} {w : World} (h : RWay w0 L n v w) (hn : n ≤ 4000) (op digit : Int) (hd : 0 ≤ digit ∧ digit ≤ 15) :
    Calls Tryd.prog 99 #[v, .int .i64 op, .int .i64 digit] w fun e w' => ∃ v', e = .returned v' ∧ RWay w0 (L ++ jumpRL op digit) (n + 4) v' w' :=
  (jump_any w w0.heap.size v L op digit hd h.own (Nat.le_trans h.len hn) h.below.size).mono fun e w' ⟨v', he, ho, hb⟩ => ⟨v', he, ho, h.below.trans hb, by rw [List.length_append]; have := h.len; simp [jumpRL]; omega⟩
theorem append_rs {P : Program} (hu : P.underlying 118 = some (.slice 125)) (hinf : (P.info? 125).map (fun i => (i.zero, i.size, i.bytes)) = some (some (.agg (row11 0 0 0 false false 0 0 0 0 0 false)), 11, 80)) (w wk : World) {ops : Array Oper} {rest : List Oper} {o : Oper} {a : Act} {Q : Exit → Act → World → Prop} (hgd : Region.wanted o (yielded ops a.tmps) = true) (s x : Operand)
    (ho : o.op = .call { callee := .builtin .append, args := #[s, x], argTypes := #[118, 118] })
    {w0 : World} {v : Value} {L : List RRow} {n : Nat} (H : RWay w0 L n v wk) (hs : a.eval s = v) (r : RRow) (hw : w = wk.alloc (.cells r.cells.toArray 125))
    (g : Nat) (hg : g = wk.heap.size) (hx : a.eval x = .slice (some ⟨g, 0, none⟩) 1 1) (hn : n ≤ 4000)
    (h : ∀ v' w', RWay w0 (L ++ [r]) (n + 1) v' w' → (∀ b cs, Blk wk b 3 cs → Blk w' b 3 cs) → wpList P ops Q rest (a.put o.dst v') w') : wpList P ops Q (o :: rest) a w :=
  append_row hu hinf w wk hgd s x ho w0.heap.size v L hs H.own r hw g hg hx (Nat.le_trans H.len (Nat.le_trans hn (by decide))) H.below.size fun v' w' h1 h2 h3 =>
    h v' w' ⟨h1, H.below.trans h2, by rw [List.length_append]; have := H.len; simp; omega⟩ fun b cs hb => (h3 b hb.lt fun e => own_blk_ne H.own hb (by decide) e.symm).trans hb
/-! the three loops -/
def movsAt (w0 : World) (L : List RRow) (n : Nat) (v s : Value) (w : World) : Prop :=
  (s = .int .i64 8 ∧ RWay w0 L n v w) ∨ (s = .int .i64 16 ∧ RWay w0 (L ++ movsL.take 2) (n + 2) v w) ∨ (s = .int .i64 32 ∧ RWay w0 (L ++ movsL.take 4) (n + 4) v w) ∨ (s = .int .i64 64 ∧ RWay w0 (L ++ movsL) (n + 5) v w)
def swapsAt (w0 : World) (L : List RRow) (n : Nat) (v s : Value) (w : World) : Prop :=
  (s = .int .i64 16 ∧ RWay w0 L n v w) ∨ (s = .int .i64 32 ∧ RWay w0 (L ++ swapL 16) (n + 3) v w) ∨ (s = .int .i64 64 ∧ RWay w0 (L ++ swapL 16 ++ swapL 32) (n + 6) v w) ∨ (s = .int .i64 128 ∧ RWay w0 (L ++ swapL 16 ++ swapL 32 ++ swapL 64) (n + 9) v w)
def digs : Array Value := #[.int .i64 16, .int .i64 8, .int .i64 0, .int .i64 24]
def memAt (w0 : World) (L : List RRow) (n g : Nat) (v s : Value) (w : World) : Prop :=
  Blk w g 3 digs ∧ ((s = .int .i64 0 ∧ RWay w0 L n v w) ∨ (s = .int .i64 1 ∧ RWay w0 (L ++ memL.take 4) (n + 4) v w) ∨ (s = .int .i64 2 ∧ RWay w0 (L ++ memL.take 8) (n + 8) v w) ∨ (s = .int .i64 3 ∧ RWay w0 (L ++ memL.take 13) (n + 13) v w) ∨ (s = .int .i64 4 ∧ RWay w0 (L ++ memL) (n + 17) v w))
theorem RWay.start (w : World) : RWay w [] 0 (.slice none 0 0) w := ⟨OwnR.nil _ _, Below.refl _ _, Nat.le_refl _⟩
theorem RWay.cast {w0 : World} {L L' : List RRow} {n n' : Nat} {v : Value} {w : World} (h : RWay w0 L n v w) (e : L = L') (en : n = n') : RWay w0 L' n' v w := by subst e en; exact h
theorem dig_0 {w : World} {g : Nat} (h : Blk w g 3 digs) : w.cell? ⟨g, 0, none⟩ = some (.int .i64 16) := (h.cell 0).trans rfl
theorem dig_1 {w : World} {g : Nat} (h : Blk w g 3 digs) : w.cell? ⟨g, 1, none⟩ = some (.int .i64 8) := (h.cell 1).trans rfl
theorem dig_2 {w : World} {g : Nat} (h : Blk w g 3 digs) : w.cell? ⟨g, 2, none⟩ = some (.int .i64 0) := (h.cell 2).trans rfl
theorem dig_3 {w : World} {g : Nat} (h : Blk w g 3 digs) : w.cell? ⟨g, 3, none⟩ = some (.int .i64 24) := (h.cell 3).trans rfl
def aluA : List RRow := aluL 1 0 0 ++ aluL 2 1 0 ++ aluL 3 2 0 ++ aluL 4 3 0 ++ aluL 6 3 1 ++ aluL 8 4 0 ++ aluL 9 5 0 ++ aluL 11 6 0 ++ aluL 12 7 0 ++ aluL 5 9 0 ++ aluL 7 9 1 ++ aluL 10 10 0 ++ aluL 15 11 0 ++ aluL 13 12 0
def partB : List RRow := aluA ++ movsL ++ negL
def partC : List RRow := partB ++ (swapL 16 ++ swapL 32 ++ swapL 64) ++ wideL
set_option maxRecDepth 100000 in
set_option maxHeartbeats 8000000 in
theorem rows_any (w : World) : Calls Tryd.prog 69 #[] w (OwnedR w.heap.size w rowsL) := by
  have HS := Lib.hid (RWay.start w)
  go_enter Tryd.func69, Tryd.ntmps69
  go_wp2_with (go_at_call 98; (with_reducible refine (HS.out.alu (Nat.le_of_ble_eq_true rfl) _ _ _ ⟨by decide, by decide⟩).mono ?_); rintro e w1 ⟨v1, rfl, hs1⟩; clear HS; have HS := Lib.hid hs1; clear hs1)
  have hs1 : RWay w aluA 56 v1 w1 := HS.out.cast rfl rfl
  clear HS
  go_loopw [1, 2] (fun v s wr => movsAt w aluA 56 v s wr) (fun _ s _ => (64 - intOf s).toNat)
  case atStart => exact .inl ⟨rfl, hs1⟩
  case round =>
    clear hs1
    rcases hrel with ⟨rfl, hs⟩ | ⟨rfl, hs⟩ | ⟨rfl, hs⟩ | ⟨rfl, hs⟩
    · have HS := Lib.hid hs
      clear hs
      go_wp2_with (at_builtin; (refine append_rs Tryd.underlying118 row_info _ _ rfl _ _ rfl HS.out rfl ⟨_, _, _, _, _, _, _, _, _, _, _⟩ rfl _ rfl rfl (Nat.le_of_ble_eq_true rfl) ?_; intro v' w' hs' hk'; clear HS; have HS := Lib.hid hs'; clear hs' hk'))
      go_roundw
      case rel => exact .inr (.inl ⟨rfl, HS.out.cast (by rfl) rfl⟩)
      case measure => simp [intOf]
    · have HS := Lib.hid hs
      clear hs
      go_wp2_with (at_builtin; (refine append_rs Tryd.underlying118 row_info _ _ rfl _ _ rfl HS.out rfl ⟨_, _, _, _, _, _, _, _, _, _, _⟩ rfl _ rfl rfl (Nat.le_of_ble_eq_true rfl) ?_; intro v' w' hs' hk'; clear HS; have HS := Lib.hid hs'; clear hs' hk'))
      go_roundw
      case rel => exact .inr (.inr (.inl ⟨rfl, HS.out.cast (by rfl) rfl⟩))
      case measure => simp [intOf]
    · have HS := Lib.hid hs
      clear hs
      go_wp2_with (at_builtin; (refine append_rs Tryd.underlying118 row_info _ _ rfl _ _ rfl HS.out rfl ⟨_, _, _, _, _, _, _, _, _, _, _⟩ rfl _ rfl rfl (Nat.le_of_ble_eq_true rfl) ?_; intro v' w' hs' hk'; clear HS; have HS := Lib.hid hs'; clear hs' hk'))
      go_roundw
      case rel => exact .inr (.inr (.inr ⟨rfl, HS.out.cast (by rfl) rfl⟩))
      case measure => simp [intOf]
    · have HS := Lib.hid hs
      clear hs
      go_wp2_with (at_builtin; (refine append_rs Tryd.underlying118 row_info _ _ rfl _ _ rfl HS.out rfl ⟨_, _, _, _, _, _, _, _, _, _, _⟩ rfl _ rfl rfl (Nat.le_of_ble_eq_true rfl) ?_; intro v' w' hs' hk'; clear HS; have HS := Lib.hid hs'; clear hs' hk'))
      have hs1 : RWay w partB 63 v' w' := HS.out.cast rfl rfl
      clear HS
      go_loopw [1, 3] (fun v s wr => swapsAt w partB 63 v s wr) (fun _ s _ => (128 - intOf s).toNat)
      case atStart => exact .inl ⟨rfl, hs1⟩
      case round =>
        clear hs1
        rcases hrel with ⟨rfl, hs⟩ | ⟨rfl, hs⟩ | ⟨rfl, hs⟩ | ⟨rfl, hs⟩
        · have HS := Lib.hid hs
          clear hs
          go_wp2_with (at_builtin; (refine append_rs Tryd.underlying118 row_info _ _ rfl _ _ rfl HS.out rfl ⟨_, _, _, _, _, _, _, _, _, _, _⟩ rfl _ rfl rfl (Nat.le_of_ble_eq_true rfl) ?_; intro v' w' hs' hk'; clear HS; have HS := Lib.hid hs'; clear hs' hk'))
          go_roundw
          case rel => exact .inr (.inl ⟨rfl, HS.out.cast (by rfl) rfl⟩)
          case measure => simp [intOf]
        · have HS := Lib.hid hs
          clear hs
          go_wp2_with (at_builtin; (refine append_rs Tryd.underlying118 row_info _ _ rfl _ _ rfl HS.out rfl ⟨_, _, _, _, _, _, _, _, _, _, _⟩ rfl _ rfl rfl (Nat.le_of_ble_eq_true rfl) ?_; intro v' w' hs' hk'; clear HS; have HS := Lib.hid hs'; clear hs' hk'))
          go_roundw
          case rel => exact .inr (.inr (.inl ⟨rfl, HS.out.cast (by rfl) rfl⟩))
          case measure => simp [intOf]
        · have HS := Lib.hid hs
          clear hs
          go_wp2_with (at_builtin; (refine append_rs Tryd.underlying118 row_info _ _ rfl _ _ rfl HS.out rfl ⟨_, _, _, _, _, _, _, _, _, _, _⟩ rfl _ rfl rfl (Nat.le_of_ble_eq_true rfl) ?_; intro v' w' hs' hk'; clear HS; have HS := Lib.hid hs'; clear hs' hk'))
          go_roundw
          case rel => exact .inr (.inr (.inr ⟨rfl, HS.out.cast (by rfl) rfl⟩))
          case measure => simp [intOf]
        · have HS := Lib.hid hs
          clear hs
          go_wp2_with (at_builtin; (refine append_rs Tryd.underlying118 row_info _ _ rfl _ _ rfl HS.out rfl ⟨_, _, _, _, _, _, _, _, _, _, _⟩ rfl _ rfl rfl (Nat.le_of_ble_eq_true rfl) ?_; intro v' w' hs' hk'; clear HS; have HS := Lib.hid hs'; clear hs' hk'))
          have hd : Blk (w'.alloc (.cells digs 3)) w'.heap.size 3 digs := Blk.new _ _ _
          have hs1 : RWay w partC 74 v' (w'.alloc (.cells digs 3)) := (HS.out.up (below_box _ _)).cast rfl rfl
          clear HS
          generalize w'.heap.size = g at *
          go_loopw [1, 5, 6] (fun v s _ wr => memAt w partC 74 g v s wr) (fun _ s _ _ => (4 - intOf s).toNat)
          case atStart => exact ⟨hd, .inl ⟨rfl, hs1⟩⟩
          case round =>
            clear hs1 hd
            obtain ⟨hd, hrel⟩ := hrel
            rcases hrel with ⟨rfl, hs⟩ | ⟨rfl, hs⟩ | ⟨rfl, hs⟩ | ⟨rfl, hs⟩ | ⟨rfl, hs⟩
            · have HS := Lib.hid hs
              have hc := dig_0 hd
              have HD := Lib.hid hd
              clear hs hd
              go_wp2_with (at_builtin; (refine append_rs Tryd.underlying118 row_info _ _ rfl _ _ rfl HS.out rfl ⟨_, _, _, _, _, _, _, _, _, _, _⟩ rfl _ rfl rfl (Nat.le_of_ble_eq_true rfl) ?_; intro v' w' hs' hk'; have hb' := hk' _ _ HD.out; clear HS HD hc; have HS := Lib.hid hs'; have HD := Lib.hid hb'; have hc := dig_0 hb'; clear hs' hk' hb'))
              go_roundw
              case rel => exact ⟨HD.out, .inr (.inl ⟨rfl, HS.out.cast (by rfl) rfl⟩)⟩
              case measure => simp [intOf]
            · have HS := Lib.hid hs
              have hc := dig_1 hd
              have HD := Lib.hid hd
              clear hs hd
              go_wp2_with (at_builtin; (refine append_rs Tryd.underlying118 row_info _ _ rfl _ _ rfl HS.out rfl ⟨_, _, _, _, _, _, _, _, _, _, _⟩ rfl _ rfl rfl (Nat.le_of_ble_eq_true rfl) ?_; intro v' w' hs' hk'; have hb' := hk' _ _ HD.out; clear HS HD hc; have HS := Lib.hid hs'; have HD := Lib.hid hb'; have hc := dig_1 hb'; clear hs' hk' hb'))
              go_roundw
              case rel => exact ⟨HD.out, .inr (.inr (.inl ⟨rfl, HS.out.cast (by rfl) rfl⟩))⟩
              case measure => simp [intOf]
            · have HS := Lib.hid hs
              have hc := dig_2 hd
              have HD := Lib.hid hd
              clear hs hd
              go_wp2_with (at_builtin; (refine append_rs Tryd.underlying118 row_info _ _ rfl _ _ rfl HS.out rfl ⟨_, _, _, _, _, _, _, _, _, _, _⟩ rfl _ rfl rfl (Nat.le_of_ble_eq_true rfl) ?_; intro v' w' hs' hk'; have hb' := hk' _ _ HD.out; clear HS HD hc; have HS := Lib.hid hs'; have HD := Lib.hid hb'; have hc := dig_2 hb'; clear hs' hk' hb'))
              go_roundw
              case rel => exact ⟨HD.out, .inr (.inr (.inr (.inl ⟨rfl, HS.out.cast (by rfl) rfl⟩)))⟩
              case measure => simp [intOf]
            · have HS := Lib.hid hs
              have hc := dig_3 hd
              have HD := Lib.hid hd
              clear hs hd
              go_wp2_with (at_builtin; (refine append_rs Tryd.underlying118 row_info _ _ rfl _ _ rfl HS.out rfl ⟨_, _, _, _, _, _, _, _, _, _, _⟩ rfl _ rfl rfl (Nat.le_of_ble_eq_true rfl) ?_; intro v' w' hs' hk'; have hb' := hk' _ _ HD.out; clear HS HD hc; have HS := Lib.hid hs'; have HD := Lib.hid hb'; have hc := dig_3 hb'; clear hs' hk' hb'))
              go_roundw
              case rel => exact ⟨HD.out, .inr (.inr (.inr (.inr ⟨rfl, HS.out.cast (by rfl) rfl⟩)))⟩
              case measure => simp [intOf]
            · have HS := Lib.hid hs
              clear hs hd
              go_wp2_with (first | (at_builtin; (refine append_rs Tryd.underlying118 row_info _ _ rfl _ _ rfl HS.out rfl ⟨_, _, _, _, _, _, _, _, _, _, _⟩ rfl _ rfl rfl (Nat.le_of_ble_eq_true rfl) ?_; intro v' w' hs' hk'; clear HS; have HS := Lib.hid hs'; clear hs' hk')) | (go_at_call 99; (with_reducible refine (HS.out.jump (Nat.le_of_ble_eq_true rfl) _ _ ⟨by decide, by decide⟩).mono ?_); rintro e w1 ⟨v1, rfl, hs1⟩; clear HS; have HS := Lib.hid hs1; clear hs1))
              go_ret
              exact ⟨_, rfl, (HS.out.cast (L' := rowsL) rfl rfl).own, HS.out.below⟩
end Go.Proofs.YtlodoinmippebaaDoor.Rf
