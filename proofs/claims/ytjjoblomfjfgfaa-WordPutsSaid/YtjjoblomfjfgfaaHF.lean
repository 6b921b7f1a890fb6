/- Package help: Sig. -/
import Derived.Test.YtjjoblomfjfgfaaHE
namespace Go.Proofs.Ytjjoblomfjfgfaa
open Go.ChangeShapes Go.WideShapes Go.ChangeAt Go.RowKit
set_option linter.unusedVariables false
set_option linter.unusedSimpArgs false

theorem results_cell_tmp {P : Program} {fn : Func} {p q : Tmp} {ty : TypeId} (h : fn.results = #[.cell p ty, .tmp q]) (tmps : Array Value) (w : World) (g : Nat) (t : TypeId) (cs : Array Value) (fr : Nat × Nat) (d : TypeDesc) (v : Value)
    (hp : tmps.getD p undef = .pointer (some ⟨g, 0, none⟩)) (hq : tmps.getD q undef = v) (hg : w.heap[g]? = some (.cells cs t fr))
    (hu : P.underlying ty = some d) (hd : (match d with | .struct _ | .array _ _ => true | _ => false) = true) (hi : (P.info? ty).map (·.size) = some cs.size) :
    (results fn tmps).run P w = .ok (.tuple #[.agg cs, v]) w := by
  have hp' : tmps[p]?.getD undef = .pointer (some ⟨g, 0, none⟩) := by simpa using hp
  have hq' : tmps[q]?.getD undef = v := by simpa using hq
  simp [results, h, hp', hq', asAddr, run_loadVar_row w g t ty cs fr d hg hu hd hi]
/-- what Sig answers of a helper -/
def SigIs (w : World) (L : List Int) (l h : Int) (nl nh : Bool) (e : Ending) (w' : World) : Prop :=
  ∃ v, e = .returned (.tuple #[.agg #[v, .int .i64 l, .int .i64 h, .bool nl, .bool nh], .bool true]) ∧ OwnI w' w.heap.size v L ∧ Below w.heap.size w w'
/-- Sig of no helper -/
def SigNo (w : World) (e : Ending) (w' : World) : Prop :=
  e = .returned (.tuple #[.agg #[.slice none 0 0, .int .i64 0, .int .i64 0, .bool false, .bool false], .bool false]) ∧ Below w.heap.size w w'

theorem Blk.setRowH {w : World} {g : Nat} {t : TypeId} {cs : Array Value} (h : Blk w g t cs) (ds : Array Value) : Blk (w.setRow g ds) g t ds := setRow_heap w g cs ds t _ h
theorem Below.setRowH {B g : Nat} {a w : World} (h : Below B a w) (hg : B ≤ g) (cs : Array Value) : Below B a (w.setRow g cs) :=
  ⟨h.os, h.tape, h.output, by rw [setRow_size]; exact h.size, fun k hk => (setRow_other w g k cs (by omega)).trans (h.block k hk)⟩
theorem sigSize : (Try.prog.info? 40).map (·.size) = some 5 := by kernel_rfl
theorem sig_no (id : Int) (hid : id < 1 ∨ 8 < id) (w : World) : Calls Try.prog 12 #[.int .i64 id] w (SigNo w) := by
  have hd : (decide (0 < id) && decide (id < 9)) = false := by
    rcases hid with h | h
    · have : decide (0 < id) = false := by simp; omega
      rw [this]; rfl
    · have : decide (id < 9) = false := by simp; omega
      rw [this, Bool.and_false]
  have hnot := runNot
  have HB0 := Lib.hid (show ∀ o p, Below w.heap.size w ((w.alloc o).alloc p) from fun o p => ((Below.refl _ _).alloc (Nat.le_refl _) _).alloc (by simp) _)
  have HR0 := Lib.hid (show ∀ cs o, Blk ((w.alloc (.cells cs 40)).alloc o) w.heap.size 40 cs from fun cs o => (Blk.new w _ cs).alloc o)
  have HG0 := Lib.hid (show ∀ o, Unwritten ((w.alloc o).alloc (.cells #[.int .u32 0, .int .i32 0, .int .u32 0, .slice none 0 0] 67)) (w.heap.size + 1) from fun o => blk_new2 w o _ _)
  have HS0 := Lib.hid (show ∀ o p, w.heap.size + 1 < ((w.alloc o).alloc p).heap.size from fun o p => by simp)
  clear hid
  go_enter Try.func12, Try.ntmps12
  go_upto_region 2 with (fail)
  have hB0 := HB0.out (.cells #[.slice none 0 0, .int .i64 0, .int .i64 0, .bool false, .bool false] 40) (.cells #[.int .u32 0, .int .i32 0, .int .u32 0, .slice none 0 0] 67)
  have hR0 := HR0.out #[.slice none 0 0, .int .i64 0, .int .i64 0, .bool false, .bool false] (.cells #[.int .u32 0, .int .i32 0, .int .u32 0, .slice none 0 0] 67)
  have hG0 := HG0.out (.cells #[.slice none 0 0, .int .i64 0, .int .i64 0, .bool false, .bool false] 40)
  have hS0 := HS0.out (.cells #[.slice none 0 0, .int .i64 0, .int .i64 0, .bool false, .bool false] 40) (.cells #[.int .u32 0, .int .i32 0, .int .u32 0, .slice none 0 0] 67)
  generalize (w.alloc (.cells #[.slice none 0 0, .int .i64 0, .int .i64 0, .bool false, .bool false] 40)).alloc (.cells #[.int .u32 0, .int .i32 0, .int .u32 0, .slice none 0 0] 67) = w0 at *
  have hh := Lib.hid (has_any (w.heap.size + 1) id w0 (w.heap.size + 1) (.inl hG0) (Nat.le_refl _) hS0)
  rw [hd] at hh
  clear HB0 HR0 HG0 HS0 hG0
  go_wp2_with (first | (go_at_call 25; refine hh.out.mono ?_; rintro e w' ⟨rfl, hw, hB⟩; have HR1 := Lib.hid (hR0.below hB (Nat.lt_succ_self _))) | (refine wpList_store_row rfl 40 (.tmp 2) (.tmp 12) rfl w.heap.size #[.slice none 0 0, .int .i64 0, .int .i64 0, .bool false, .bool false] rfl rfl 40 _ HR1.out sigSize rfl (by kernel_rfl) ?_))
  exact bodyPost_ret (v := .tuple #[.agg #[.slice none 0 0, .int .i64 0, .int .i64 0, .bool false, .bool false], .bool false]) (results_cell_tmp Try.results12 _ _ w.heap.size 40 #[.slice none 0 0, .int .i64 0, .int .i64 0, .bool false, .bool false] (0, 0) _ _ rfl rfl (Blk.setRowH HR1.out _) Try.underlying40 rfl sigSize) rfl ⟨rfl, Below.setRowH (hB0.trans (hB.mono (Nat.le_succ _))) (Nat.le_refl _) _⟩

theorem ownI_slice {w : World} {base : Nat} {v : Value} {L : List Int} (h : OwnI w base v L) : ∃ A m c, v = .slice A m c := by
  rcases h.2 with ⟨rfl, _⟩ | ⟨g, cap, cur, rfl, _⟩
  · exact ⟨_, _, _, rfl⟩
  · exact ⟨_, _, _, rfl⟩
theorem ownI_one {w : World} {base : Nat} {v : Value} {L : List Int} (h : OwnI w base v L) : v.oneCell' = true := by
  rcases h.2 with ⟨rfl, _⟩ | ⟨g, cap, cur, rfl, _⟩ <;> rfl
theorem sig_one (A : Option Addr) (m c : Nat) (l h : Int) (nl nh : Bool) : (#[.slice A m c, .int .i64 l, .int .i64 h, .bool nl, .bool nh] : Array Value).all (·.oneCell') = true := by
  simp [Value.oneCell']
theorem ownI_setRow {w : World} {base : Nat} {v : Value} {L : List Int} (h : OwnI w base v L) {g : Nat} (hne : v.ownBlock ≠ some g) (cs : Array Value) : OwnI (w.setRow g cs) base v L := by
  obtain ⟨h1, h2⟩ := h
  refine ⟨h1, ?_⟩
  rcases h2 with h2 | ⟨k, cap, cur, rfl, hg, hh, h3⟩
  · exact .inl h2
  · have hkg : k ≠ g := fun e => hne (by rw [← e]; rfl)
    exact .inr ⟨k, cap, cur, rfl, hg, (setRow_other w g k cs hkg).trans hh, h3⟩
theorem ownI_below {w w' : World} {base b2 : Nat} {v : Value} {L : List Int} (h : OwnI w base v L) (_ : OwnI w b2 v L) (hb : Below w.heap.size w w') : OwnI w' base v L := by
  obtain ⟨h1, h2⟩ := h
  refine ⟨h1, ?_⟩
  rcases h2 with h2 | ⟨k, cap, cur, rfl, hg, hh, h3⟩
  · exact .inl h2
  · have hk : k < w.heap.size := by
      rcases Nat.lt_or_ge k w.heap.size with h4 | h4
      · exact h4
      · rw [Array.getElem?_eq_none h4] at hh; cases hh
    exact .inr ⟨k, cap, cur, rfl, hg, (hb.block k hk).trans hh, h3⟩
set_option maxRecDepth 100000 in
set_option maxHeartbeats 1600000 in
theorem sig_row (id : Nat) (h1 : 1 ≤ id) (h8 : id ≤ 8) (L : List Int) (a b c d e l h : Int) (nl nh : Bool) (hL : L = [a, b, c, d, e]) (T : TypeId) (cs : Array Value) (hv : rollCells[id]? = some (.iface T (.agg cs)))
    (hT : (T = 85 ∧ cs = #[.int .i64 a, .int .i64 b, .int .i64 c, .int .i64 d, .int .i64 e, .int .i64 l, .int .i64 h] ∧ nl = false ∧ nh = false) ∨ (T = 87 ∧ cs = #[.int .i64 a, .int .i64 b, .int .i64 c, .int .i64 d, .int .i64 e] ∧ l = 0 ∧ h = 0 ∧ nl = true ∧ nh = true)) (w : World) :
    Calls Try.prog 12 #[.int .i64 id] w (SigIs w L l h nl nh) := by
  have hd : (decide ((0 : Int) < (id : Int)) && decide ((id : Int) < 9)) = true := by
    have h2 : decide ((0 : Int) < (id : Int)) = true := by simp; omega
    have h3 : decide ((id : Int) < 9) = true := by simp; omega
    rw [h2, h3]; rfl
  have hnot := runNot
  have HB0 := Lib.hid (show ∀ o p, Below w.heap.size w ((w.alloc o).alloc p) from fun o p => ((Below.refl _ _).alloc (Nat.le_refl _) _).alloc (by simp) _)
  have HR0 := Lib.hid (show ∀ cs o, Blk ((w.alloc (.cells cs 40)).alloc o) w.heap.size 40 cs from fun cs o => (Blk.new w _ cs).alloc o)
  have HG0 := Lib.hid (show ∀ o, Unwritten ((w.alloc o).alloc (.cells #[.int .u32 0, .int .i32 0, .int .u32 0, .slice none 0 0] 67)) (w.heap.size + 1) from fun o => blk_new2 w o _ _)
  have HS0 := Lib.hid (show ∀ o p, w.heap.size + 1 < ((w.alloc o).alloc p).heap.size from fun o p => by simp)
  rcases hT with ⟨rfl, rfl, rfl, rfl⟩ | ⟨rfl, rfl, rfl, rfl, rfl, rfl⟩
  · go_enter Try.func12, Try.ntmps12
    go_upto_region 2 with (fail)
    have hB0 := HB0.out (.cells #[.slice none 0 0, .int .i64 0, .int .i64 0, .bool false, .bool false] 40) (.cells #[.int .u32 0, .int .i32 0, .int .u32 0, .slice none 0 0] 67)
    have hR0 := HR0.out #[.slice none 0 0, .int .i64 0, .int .i64 0, .bool false, .bool false] (.cells #[.int .u32 0, .int .i32 0, .int .u32 0, .slice none 0 0] 67)
    have hG0 := HG0.out (.cells #[.slice none 0 0, .int .i64 0, .int .i64 0, .bool false, .bool false] 40)
    have hS0 := HS0.out (.cells #[.slice none 0 0, .int .i64 0, .int .i64 0, .bool false, .bool false] 40) (.cells #[.int .u32 0, .int .i32 0, .int .u32 0, .slice none 0 0] 67)
    generalize (w.alloc (.cells #[.slice none 0 0, .int .i64 0, .int .i64 0, .bool false, .bool false] 40)).alloc (.cells #[.int .u32 0, .int .i32 0, .int .u32 0, .slice none 0 0] 67) = w0 at *
    have hh := Lib.hid (has_any (w.heap.size + 1) id w0 (w.heap.size + 1) (.inl hG0) (Nat.le_refl _) hS0)
    rw [hd] at hh
    clear HB0 HR0 HG0 HS0 hG0
    go_upto_region 4 with (go_at_call 25; refine hh.out.mono ?_; rintro e w1 ⟨rfl, hw, hB⟩)
    have HR1 := Lib.hid (hR0.below hB (Nat.lt_succ_self _))
    have hp := Lib.hid (helper_any (w.heap.size + 1) id (by omega) _ hv w1 (w.heap.size + 1) hw (Nat.le_refl _) (by have := hB.size; omega))
    have hB1 := hB0.trans (hB.mono (Nat.le_succ _))
    clear hw hB hR0 hh hB0 hd
    go_upto_region 5 with (go_at_call 26; refine hp.out.mono ?_; rintro e w2 ⟨rfl, hw, hB⟩)
    have HR2 := Lib.hid (HR1.out.below hB (Nat.lt_succ_self _))
    have hB2 := hB1.trans (hB.mono (Nat.le_succ _))
    clear hw hB hp HR1 hv hB1
    have ha := Lib.hid (askedArgs_any L a b c d e hL w2)
    have hre := Lib.hid (fun w => boundedRet_any a b c d e l h w)
    clear hL
    have hlt2 := HR2.out.lt
    have hm1 : ∀ w : World, (method 220 85 (.agg #[.int .i64 a, .int .i64 b, .int .i64 c, .int .i64 d, .int .i64 e, .int .i64 l, .int .i64 h]) "warrant/help.args").run Try.prog w = .ok (82, .agg #[.int .i64 a, .int .i64 b, .int .i64 c, .int .i64 d, .int .i64 e]) w := fun _ => by kernel_rfl
    have hm2 : ∀ w : World, (method 220 85 (.agg #[.int .i64 a, .int .i64 b, .int .i64 c, .int .i64 d, .int .i64 e, .int .i64 l, .int .i64 h]) "warrant/help.ret").run Try.prog w = .ok (84, .agg #[.int .i64 a, .int .i64 b, .int .i64 c, .int .i64 d, .int .i64 e, .int .i64 l, .int .i64 h]) w := fun _ => by kernel_rfl
    go_wp2_with fail
    refine ha.out.mono ?_
    rintro x w3 ⟨v, rfl, hown, hB3⟩
    obtain ⟨A, m, cc, rfl⟩ := ownI_slice hown
    have hone := sig_one A m cc l h false false
    go_wp2_with fail
    refine (hre.out _).mono ?_
    rintro x w4 ⟨rfl, hB4⟩
    have hsz3 := hB3.size
    have hszw := hB2.size
    have HR4 := Lib.hid ((HR2.out.below hB3 hlt2).below hB4 (by omega))
    have hB5 : Below w.heap.size w w4 := (hB2.trans (hB3.mono (Nat.le_of_lt hlt2))).trans (hB4.mono (by omega))
    have HO := Lib.hid (hown.mono (by omega : w.heap.size ≤ w2.heap.size))
    go_wp2_with (refine wpList_store_row rfl 40 (.tmp 2) (.tmp 20) rfl w.heap.size #[.slice A m cc, .int .i64 l, .int .i64 h, .bool false, .bool false] rfl rfl 40 _ HR4.out sigSize rfl hone ?_)
    have hne : (Value.slice A m cc).ownBlock ≠ some w.heap.size := by
      intro he
      have := (World.ownsRow.lt hown _ he).1
      omega
    exact bodyPost_ret (v := .tuple #[.agg #[.slice A m cc, .int .i64 l, .int .i64 h, .bool false, .bool false], .bool true]) (results_cell_tmp Try.results12 _ _ w.heap.size 40 #[.slice A m cc, .int .i64 l, .int .i64 h, .bool false, .bool false] (0, 0) _ _ rfl rfl (Blk.setRowH HR4.out _) Try.underlying40 rfl sigSize) rfl ⟨_, rfl, ownI_setRow (ownI_below HO.out hown hB4) hne _, Below.setRowH hB5 (Nat.le_refl _) _⟩
  · go_enter Try.func12, Try.ntmps12
    go_upto_region 2 with (fail)
    have hB0 := HB0.out (.cells #[.slice none 0 0, .int .i64 0, .int .i64 0, .bool false, .bool false] 40) (.cells #[.int .u32 0, .int .i32 0, .int .u32 0, .slice none 0 0] 67)
    have hR0 := HR0.out #[.slice none 0 0, .int .i64 0, .int .i64 0, .bool false, .bool false] (.cells #[.int .u32 0, .int .i32 0, .int .u32 0, .slice none 0 0] 67)
    have hG0 := HG0.out (.cells #[.slice none 0 0, .int .i64 0, .int .i64 0, .bool false, .bool false] 40)
    have hS0 := HS0.out (.cells #[.slice none 0 0, .int .i64 0, .int .i64 0, .bool false, .bool false] 40) (.cells #[.int .u32 0, .int .i32 0, .int .u32 0, .slice none 0 0] 67)
    generalize (w.alloc (.cells #[.slice none 0 0, .int .i64 0, .int .i64 0, .bool false, .bool false] 40)).alloc (.cells #[.int .u32 0, .int .i32 0, .int .u32 0, .slice none 0 0] 67) = w0 at *
    have hh := Lib.hid (has_any (w.heap.size + 1) id w0 (w.heap.size + 1) (.inl hG0) (Nat.le_refl _) hS0)
    rw [hd] at hh
    clear HB0 HR0 HG0 HS0 hG0
    go_upto_region 4 with (go_at_call 25; refine hh.out.mono ?_; rintro e w1 ⟨rfl, hw, hB⟩)
    have HR1 := Lib.hid (hR0.below hB (Nat.lt_succ_self _))
    have hp := Lib.hid (helper_any (w.heap.size + 1) id (by omega) _ hv w1 (w.heap.size + 1) hw (Nat.le_refl _) (by have := hB.size; omega))
    have hB1 := hB0.trans (hB.mono (Nat.le_succ _))
    clear hw hB hR0 hh hB0 hd
    go_upto_region 5 with (go_at_call 26; refine hp.out.mono ?_; rintro e w2 ⟨rfl, hw, hB⟩)
    have HR2 := Lib.hid (HR1.out.below hB (Nat.lt_succ_self _))
    have hB2 := hB1.trans (hB.mono (Nat.le_succ _))
    clear hw hB hp HR1 hv hB1
    have ha := Lib.hid (askedArgs_any L a b c d e hL w2)
    have hre := Lib.hid (fun w => boundlessRet_any a b c d e w)
    clear hL
    have hlt2 := HR2.out.lt
    have hm1 : ∀ w : World, (method 220 87 (.agg #[.int .i64 a, .int .i64 b, .int .i64 c, .int .i64 d, .int .i64 e]) "warrant/help.args").run Try.prog w = .ok (82, .agg #[.int .i64 a, .int .i64 b, .int .i64 c, .int .i64 d, .int .i64 e]) w := fun _ => by kernel_rfl
    have hm2 : ∀ w : World, (method 220 87 (.agg #[.int .i64 a, .int .i64 b, .int .i64 c, .int .i64 d, .int .i64 e]) "warrant/help.ret").run Try.prog w = .ok (85, .agg #[.int .i64 a, .int .i64 b, .int .i64 c, .int .i64 d, .int .i64 e]) w := fun _ => by kernel_rfl
    go_wp2_with fail
    refine ha.out.mono ?_
    rintro x w3 ⟨v, rfl, hown, hB3⟩
    obtain ⟨A, m, cc, rfl⟩ := ownI_slice hown
    have hone := sig_one A m cc 0 0 true true
    go_wp2_with fail
    refine (hre.out _).mono ?_
    rintro x w4 ⟨rfl, hB4⟩
    have hsz3 := hB3.size
    have hszw := hB2.size
    have HR4 := Lib.hid ((HR2.out.below hB3 hlt2).below hB4 (by omega))
    have hB5 : Below w.heap.size w w4 := (hB2.trans (hB3.mono (Nat.le_of_lt hlt2))).trans (hB4.mono (by omega))
    have HO := Lib.hid (hown.mono (by omega : w.heap.size ≤ w2.heap.size))
    go_wp2_with (refine wpList_store_row rfl 40 (.tmp 2) (.tmp 20) rfl w.heap.size #[.slice A m cc, .int .i64 0, .int .i64 0, .bool true, .bool true] rfl rfl 40 _ HR4.out sigSize rfl hone ?_)
    have hne : (Value.slice A m cc).ownBlock ≠ some w.heap.size := by
      intro he
      have := (World.ownsRow.lt hown _ he).1
      omega
    exact bodyPost_ret (v := .tuple #[.agg #[.slice A m cc, .int .i64 0, .int .i64 0, .bool true, .bool true], .bool true]) (results_cell_tmp Try.results12 _ _ w.heap.size 40 #[.slice A m cc, .int .i64 0, .int .i64 0, .bool true, .bool true] (0, 0) _ _ rfl rfl (Blk.setRowH HR4.out _) Try.underlying40 rfl sigSize) rfl ⟨_, rfl, ownI_setRow (ownI_below HO.out hown hB4) hne _, Below.setRowH hB5 (Nat.le_refl _) _⟩
end Go.Proofs.Ytjjoblomfjfgfaa
