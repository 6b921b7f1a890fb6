/- Package help: Do, the roll of helpers, has, helper, Sig. -/
import Derived.Test.YtjjoblomfjfgfaaHD
import Derived.Test.YtjjoblomfjfgfaaHI
import Derived.Lib.SliceRun
namespace Go.Proofs.Ytjjoblomfjfgfaa
open Go.ChangeShapes Go.WideShapes Go.ChangeAt Go.RowKit
set_option linter.unusedVariables false
set_option linter.unusedSimpArgs false

set_option maxRecDepth 100000 in
set_option maxHeartbeats 1600000 in
theorem do_first (p g : Nat) (w : World) (hp : Blk w p 52 #[.pointer (some ⟨g, 0, none⟩)]) (hg : Unwritten w g) (base : Nat) (hbase : base ≤ g) :
    Calls Try.prog 39 #[.pointer (some ⟨g, 0, none⟩), .func (.func 40) #[] #[.pointer (some ⟨p, 0, none⟩)]] w fun e w' => e = .returned (.tuple #[]) ∧
      ∃ k, Written w' g k ∧ base ≤ k ∧ Blk w' p 52 #[.pointer (some ⟨g, 0, none⟩)] ∧ Below base w w' := by
  have hl := run_call_load (P := Try.prog) Try.func44 (by kernel_rfl) (by kernel_rfl) (by kernel_rfl) .u32 (by kernel_rfl) (w := w) (a := ⟨g, 0, none⟩) (x := 0) (hg.cell 0)
  have hs := Lib.hid (slow_any p g w hp hg base hbase)
  have hnot := runNot
  clear hp hg
  go_enter Try.func39, Try.ntmps39
  go_wp2_with (first | (go_at_call 43; refine hs.out.mono ?_; rintro e w' ⟨rfl, hw⟩) | (go_at_call 42; go_in))
  go_end0
  exact ⟨rfl, hw⟩
theorem do_done (g k : Nat) (fv : Value) (w : World) (hg : Written w g k) :
    Calls Try.prog 39 #[.pointer (some ⟨g, 0, none⟩), fv] w fun e w' => e = .returned (.tuple #[]) ∧ w = w' := by
  have hl := run_call_load (P := Try.prog) Try.func44 (by kernel_rfl) (by kernel_rfl) (by kernel_rfl) .u32 (by kernel_rfl) (w := w) (a := ⟨g, 0, none⟩) (x := 1) (hg.1.cell 0)
  have hnot := runNot
  clear hg
  go_enter Try.func39, Try.ntmps39
  go_wp2_with (first | (go_at_call 42; go_in))
  go_end0
  exact ⟨rfl, rfl⟩

/-- the roll, in whichever state -/
def Roll (w : World) (g base : Nat) : Prop := Unwritten w g ∨ ∃ k, Written w g k ∧ base ≤ k
theorem Written.alloc {w : World} {g k : Nat} (h : Written w g k) (o : Obj) : Written (w.alloc o) g k := ⟨h.1.alloc o, h.2.1.alloc o, h.2.2⟩
theorem Roll.alloc {w : World} {g base : Nat} (h : Roll w g base) (o : Obj) : Roll (w.alloc o) g base := by
  rcases h with h | ⟨k, h, hk⟩
  · exact .inl (Blk.alloc h o)
  · exact .inr ⟨k, h.alloc o, hk⟩
theorem do_any (p g : Nat) (w : World) (base : Nat) (hp : Blk w p 52 #[.pointer (some ⟨g, 0, none⟩)]) (hg : Roll w g base) (hbase : base ≤ g) :
    Calls Try.prog 39 #[.pointer (some ⟨g, 0, none⟩), .func (.func 40) #[] #[.pointer (some ⟨p, 0, none⟩)]] w fun e w' => e = .returned (.tuple #[]) ∧
      ∃ k, Written w' g k ∧ base ≤ k ∧ Blk w' p 52 #[.pointer (some ⟨g, 0, none⟩)] ∧ Below base w w' := by
  rcases hg with hg | ⟨k, hg, hk⟩
  · exact do_first p g w hp hg base hbase
  · refine (do_done g k _ w hg).mono ?_
    rintro e w' ⟨rfl, rfl⟩
    exact ⟨rfl, k, hg, hk, hp, Below.refl _ _⟩

theorem helpers_any (g : Nat) (w : World) (base : Nat) (hg : Roll w g base) (hbase : base ≤ g) (hlt : g < w.heap.size) :
    Calls Try.prog 35 #[.pointer (some ⟨g, 0, none⟩)] w fun e w' => ∃ k, e = .returned (.slice (some ⟨k, 0, none⟩) 9 9) ∧ Written w' g k ∧ base ≤ k ∧ Below base w w' := by
  have hmf : ∀ (fn : Fn) (first cap : Array Value) (w : World), (Instr.makeFunc fn first cap).run Try.prog w = .ok (.func fn first cap) w := fun _ _ _ _ => rfl
  have hp0 : Blk (w.alloc (.cells #[.pointer (some ⟨g, 0, none⟩)] 52)) w.heap.size 52 #[.pointer (some ⟨g, 0, none⟩)] := Blk.new _ _ _
  have hc0 := hp0.cell 0
  have hdo := Lib.hid (do_any w.heap.size g _ base hp0 (hg.alloc _) hbase)
  have hB0 : Below base w (w.alloc (.cells #[.pointer (some ⟨g, 0, none⟩)] 52)) := (Below.refl _ _).alloc (by omega) _
  simp only [List.getElem?_toArray, List.getElem?_cons_zero] at hc0
  clear hg hp0
  go_enter Try.func35, Try.ntmps35
  go_upto_region 1 with (fail)
  generalize (w.alloc (.cells #[.pointer (some ⟨g, 0, none⟩)] 52)) = w0 at *
  generalize w.heap.size = p at *
  go_wp2_with (go_at_call 39; refine hdo.out.mono ?_; rintro e w' ⟨rfl, k, hw, hk, hp, hB⟩; have hc8 : w'.cell? ⟨p, 0, none⟩ = some (.pointer (some ⟨g, 0, none⟩)) := hp.cell 0; have hc9 : w'.cell? ⟨g, 3, none⟩ = some (.slice (some ⟨k, 0, none⟩) 9 9) := hw.1.cell 3)
  go_ret
  exact ⟨k, rfl, hw, hk, hB0.trans hB⟩

theorem has_any (g : Nat) (id : Int) (w : World) (base : Nat) (hg : Roll w g base) (hbase : base ≤ g) (hlt : g < w.heap.size) :
    Calls Try.prog 25 #[.pointer (some ⟨g, 0, none⟩), .int .i64 id] w fun e w' => e = .returned (.bool (decide (0 < id) && decide (id < 9))) ∧ Roll w' g base ∧ Below base w w' := by
  have hh := Lib.hid (helpers_any g w base hg hbase hlt)
  rcases Int.lt_or_le 0 id with hid | hid
  · clear hg
    go_enter Try.func25, Try.ntmps25
    go_wp2_with (go_at_call 35; refine hh.out.mono ?_; rintro e w' ⟨k, rfl, hw, hk, hB⟩)
    go_ret
    exact ⟨by simp [hid], .inr ⟨k, hw, hk⟩, hB⟩
  · have hid' : decide (0 < id) = false := by simp; omega
    have HG := Lib.hid hg
    clear hg
    go_enter Try.func25, Try.ntmps25
    go_wp2_with fail
    go_ret
    exact ⟨by simp [hid'], HG.out, Below.refl _ _⟩

theorem helper_any (g : Nat) (id : Nat) (hid : id < 9) (v : Value) (hv : rollCells[id]? = some v) (w : World) (base : Nat) (hg : Roll w g base) (hbase : base ≤ g) (hlt : g < w.heap.size) :
    Calls Try.prog 26 #[.pointer (some ⟨g, 0, none⟩), .int .i64 id] w fun e w' => e = .returned v ∧ Roll w' g base ∧ Below base w w' := by
  have hh := Lib.hid (helpers_any g w base hg hbase hlt)
  clear hg
  go_enter Try.func26, Try.ntmps26
  go_wp2_with (go_at_call 35; refine hh.out.mono ?_; rintro e w' ⟨k, rfl, hw, hk, hB⟩; have hc8 : w'.cell? ⟨k, id, none⟩ = some v := (hw.2.1.cell id).trans hv)
  go_ret
  exact ⟨rfl, .inr ⟨k, hw, hk⟩, hB⟩

theorem OwnI.mono {w : World} {b b' : Nat} {v : Value} {L : List Int} (h : OwnI w b v L) (hb : b' ≤ b) : OwnI w b' v L := by
  obtain ⟨h1, h2⟩ := h
  refine ⟨h1, ?_⟩
  rcases h2 with h2 | ⟨g, cap, cur, e, hg, h3⟩
  · exact .inl h2
  · exact .inr ⟨g, cap, cur, e, by omega, h3⟩
set_option maxRecDepth 100000 in
theorem clone_any (w : World) (b : Nat) (n c : Nat) (L : List Int) (hL : L.length = n) (hlen : n ≤ 1099511627776) (h : IntsAt w (some ⟨b, 0, none⟩) L) :
    Calls Try.prog 83 #[.slice (some ⟨b, 0, none⟩) n c] w fun x w' => ∃ v, x = .returned v ∧ OwnI w' w.heap.size v L ∧ Below w.heap.size w w' := by
  have hq : (binOp .eql 24 (.slice (some ⟨b, 0, none⟩) n c) (.slice none 0 0)).run Try.prog w = .ok (.bool false) w := Lib.run_eql_slice_nil w _ _ _ _ _ _ _ Try.underlying24
  go_enter Try.func83, Try.ntmps83
  go_upto_region 3 with (fail)
  have hown : OwnI (w.alloc (.cells #[] 3)) w.heap.size (.slice (some ⟨w.heap.size, 0, none⟩) 0 0) [] :=
    ⟨rfl, .inr ⟨w.heap.size, 0, #[], rfl, Nat.le_refl _, heap_alloc_new w _, Nat.le_refl _, by decide, rfl, rfl⟩⟩
  have hat : IntsAt (w.alloc (.cells #[] 3)) (some ⟨b, 0, none⟩) L := fun hp => by
    obtain ⟨b', off', e, hlt, hc⟩ := h hp
    exact ⟨b', off', e, by simp; omega, fun i hi => (World.cell?_alloc_lt w _ _ hlt).trans (hc i hi)⟩
  have hB : Below w.heap.size w (w.alloc (.cells #[] 3)) := (Below.refl _ _).alloc (Nat.le_refl _) _
  have hs : w.heap.size ≤ (w.alloc (.cells #[] 3)).heap.size := by simp
  have HOwn := Lib.hid hown
  clear hown h
  go_wp2_with (at_builtin; (refine append_ints Try.underlying24 int_info _ rfl (.tmp 5) (.tmp 6) rfl w.heap.size _ _ rfl HOwn.out _ n c _ rfl hL hat (by simp; omega) hs ?_; intro v' w' hown' hB'))
  go_ret
  exact ⟨v', rfl, hown', hB.trans (hB'.mono (Nat.le_refl _))⟩

theorem askedArgs_any (L : List Int) (a b c d e : Int) (hL : L = [a, b, c, d, e]) (w : World) :
    Calls Try.prog 82 #[.agg #[.int .i64 a, .int .i64 b, .int .i64 c, .int .i64 d, .int .i64 e]] w fun x w' => ∃ v, x = .returned v ∧ OwnI w' w.heap.size v L ∧ Below w.heap.size w w' := by
  have hlen : L.length = 5 := by rw [hL]; rfl
  have hblk : (w.alloc (.cells #[.int .i64 a, .int .i64 b, .int .i64 c, .int .i64 d, .int .i64 e] 83)).heap[w.heap.size]? = some (.cells (L.map (Value.int .i64)).toArray 83 (0, 0)) := by
    rw [hL]; exact heap_alloc_new w _
  have hat : IntsAt (w.alloc (.cells #[.int .i64 a, .int .i64 b, .int .i64 c, .int .i64 d, .int .i64 e] 83)) (some ⟨w.heap.size, 0, none⟩) L := fun _ =>
    ⟨w.heap.size, 0, rfl, by simp, fun i hi => by
      rw [Nat.zero_add, cell_of_row _ w.heap.size i _ _ _ hblk]
      simp [List.getElem?_eq_getElem hi]⟩
  have hcl := Lib.hid (clone_any _ w.heap.size 5 5 L hlen (by decide) hat)
  have hB : Below w.heap.size w (w.alloc (.cells #[.int .i64 a, .int .i64 b, .int .i64 c, .int .i64 d, .int .i64 e] 83)) := (Below.refl _ _).alloc (Nat.le_refl _) _
  have hs : w.heap.size ≤ (w.alloc (.cells #[.int .i64 a, .int .i64 b, .int .i64 c, .int .i64 d, .int .i64 e] 83)).heap.size := by simp
  clear hat hblk
  go_enter Try.func82, Try.ntmps82
  go_upto_region 1 with (fail)
  go_wp2_with (go_at_call 83; refine hcl.out.mono ?_; rintro e w' ⟨v', rfl, hown', hB'⟩)
  go_ret
  exact ⟨v', rfl, hown'.mono hs, hB.trans (hB'.mono hs)⟩

theorem blk_new2 (w : World) (o : Obj) (t : TypeId) (cs : Array Value) : Blk ((w.alloc o).alloc (.cells cs t)) (w.heap.size + 1) t cs := by
  have h := Blk.new (w.alloc o) t cs
  rw [show (w.alloc o).heap.size = w.heap.size + 1 by simp] at h
  exact h
theorem boundedRet_any (a b c d e l h : Int) (w : World) :
    Calls Try.prog 84 #[.agg #[.int .i64 a, .int .i64 b, .int .i64 c, .int .i64 d, .int .i64 e, .int .i64 l, .int .i64 h]] w fun x w' => x = .returned (.agg #[.int .i64 l, .int .i64 h, .bool false, .bool false]) ∧ Below w.heap.size w w' := by
  have hB : ∀ o p, Below w.heap.size w ((w.alloc o).alloc p) := fun o p => ((Below.refl _ _).alloc (Nat.le_refl _) _).alloc (by simp) _
  go_enter Try.func84, Try.ntmps84
  go_wp2_with fail
  exact bodyPost_ret (v := .agg #[.int .i64 l, .int .i64 h, .bool false, .bool false]) (results_cell_row Try.results84 _ _ (w.heap.size + 1) 38 #[.int .i64 l, .int .i64 h, .bool false, .bool false] (0, 0) _ rfl (blk_new2 w _ _ _) Try.underlying38 rfl (by kernel_rfl)) rfl ⟨rfl, hB _ _⟩
theorem boundlessRet_any (a b c d e : Int) (w : World) :
    Calls Try.prog 85 #[.agg #[.int .i64 a, .int .i64 b, .int .i64 c, .int .i64 d, .int .i64 e]] w fun x w' => x = .returned (.agg #[.int .i64 0, .int .i64 0, .bool true, .bool true]) ∧ Below w.heap.size w w' := by
  have hB : ∀ o p, Below w.heap.size w ((w.alloc o).alloc p) := fun o p => ((Below.refl _ _).alloc (Nat.le_refl _) _).alloc (by simp) _
  go_enter Try.func85, Try.ntmps85
  go_wp2_with fail
  exact bodyPost_ret (v := .agg #[.int .i64 0, .int .i64 0, .bool true, .bool true]) (results_cell_row Try.results85 _ _ (w.heap.size + 1) 38 #[.int .i64 0, .int .i64 0, .bool true, .bool true] (0, 0) _ rfl (blk_new2 w _ _ _) Try.underlying38 rfl (by kernel_rfl)) rfl ⟨rfl, hB _ _⟩
end Go.Proofs.Ytjjoblomfjfgfaa
