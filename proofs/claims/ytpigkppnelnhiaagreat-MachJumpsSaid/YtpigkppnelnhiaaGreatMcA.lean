/- The plain machine in memory: its block, and what it owns. -/
import Derived.Test.YtpigkppnelnhiaaGreatMcM
import Derived.Test.YtpigkppnelnhiaaGreatHI
import Derived.Laws.CopyRow
import Derived.StillTail
import Derived.StillTailTactics
import Derived.Deep.RegionHeld3
import Derived.Deep.DeepCutAuto
import Derived.WalkLawsBesides
import Derived.WalkSpells
namespace Go.Proofs.YtpigkppnelnhiaaGreat
open Go.ChangeShapes Go.WideShapes Go.ChangeAt Go.RowKit
set_option linter.unusedVariables false
set_option maxRecDepth 100000
def arr (n : Nat) (f : Nat → Value) : Array Value := ((List.range n).map f).toArray
theorem arr_size (n : Nat) (f : Nat → Value) : (arr n f).size = n := by simp [arr]
theorem arr_get (n : Nat) (f : Nat → Value) (k : Nat) (h : k < n) : (arr n f)[k]? = some (f k) := by simp [arr, h]
theorem arr_of (cs : Array Value) (n : Nat) (f : Nat → Value) (hs : cs.size = n) (h : ∀ k, k < n → cs[k]? = some (f k)) : cs = arr n f := by
  apply Array.ext_getElem?
  intro k
  rcases Nat.lt_or_ge k n with hk | hk
  · rw [h k hk, arr_get n f k hk]
  · rw [Array.getElem?_eq_none (by omega), Array.getElem?_eq_none (by rw [arr_size]; omega)]
theorem arr_congr {n : Nat} {f g : Nat → Value} (h : ∀ k, k < n → f k = g k) : arr n f = arr n g :=
  arr_of _ _ _ (arr_size n f) fun k hk => by rw [arr_get n f k hk, h k hk]
/-- The block g is n cells, told by a function of the place. -/
def FB (w : World) (g : Nat) (t : TypeId) (n : Nat) (f : Nat → Value) : Prop := Blk w g t (arr n f)
def updC (f : Nat → Value) (k : Nat) (v : Value) : Nat → Value := fun i => if i = k then v else f i
/-- The block g alone may have turned; blocks may have been made. -/
structure Touch (g : Nat) (w w' : World) : Prop where
  os : w'.os = w.os
  tape : w'.tape = w.tape
  output : w'.output = w.output
  size : w.heap.size ≤ w'.heap.size
  block : ∀ k, k < w.heap.size → k ≠ g → w'.heap[k]? = w.heap[k]?
theorem Touch.refl (g : Nat) (w : World) : Touch g w w := ⟨rfl, rfl, rfl, Nat.le_refl _, fun _ _ _ => rfl⟩
theorem Touch.trans {g : Nat} {a b c : World} (h : Touch g a b) (k : Touch g b c) : Touch g a c :=
  ⟨k.os.trans h.os, k.tape.trans h.tape, k.output.trans h.output, Nat.le_trans h.size k.size, fun i hi hne => (k.block i (Nat.lt_of_lt_of_le hi h.size) hne).trans (h.block i hi hne)⟩
theorem Touch.of_below {g : Nat} {w w' : World} (h : Below w.heap.size w w') : Touch g w w' := ⟨h.os, h.tape, h.output, h.size, fun k hk _ => h.block k hk⟩
theorem Touch.below {g B : Nat} {w w' : World} (h : Touch g w w') (hB : B ≤ g) (hs : B ≤ w.heap.size) : Below B w w' := ⟨h.os, h.tape, h.output, h.size, fun k hk => h.block k (by omega) (by omega)⟩
theorem Touch.drewN {g : Nat} (w : World) (n : Nat) : Touch g w (w.drewN n) := ⟨rfl, rfl, rfl, Nat.le_refl _, fun _ _ _ => rfl⟩
theorem Touch.set_ {g : Nat} (w : World) (i : Nat) (v : Value) : Touch g w (w.setCell ⟨g, i, none⟩ v) := ⟨rfl, rfl, rfl, by simp [World.setCell], fun k _ hne => Below.heap_setCell _ _ _ _ hne⟩
theorem Touch.alloc {g : Nat} (w : World) (o : Obj) : Touch g w (w.alloc o) := .of_below ((Below.refl _ _).alloc (Nat.le_refl _) _)
section
variable {w w' : World} {g n : Nat} {t : TypeId} {f : Nat → Value}
theorem FB.lt (h : FB w g t n f) : g < w.heap.size := Blk.lt h
theorem FB.cell (h : FB w g t n f) (k : Nat) (hk : k < n) : w.cell? ⟨g, k, none⟩ = some (f k) := (Blk.cell h k).trans (arr_get n f k hk)
theorem FB.frozen (h : FB w g t n f) (k : Nat) : w.frozen? ⟨g, k, none⟩ = false := Blk.frozen h k
theorem FB.congr {f' : Nat → Value} (h : FB w g t n f) (e : ∀ k, k < n → f k = f' k) : FB w g t n f' := by unfold FB; rw [← arr_congr e]; exact h
theorem FB.set_ (h : FB w g t n f) (k : Nat) (v : Value) : FB (w.setCell ⟨g, k, none⟩ v) g t n (updC f k v) := by
  have := Blk.set_ h k v
  unfold FB
  rw [← arr_of ((arr n f).setIfInBounds k v) n (updC f k v) (by simp [arr_size]) ?_]
  · exact this
  · intro j hj
    unfold updC
    rw [Array.getElem?_setIfInBounds]
    by_cases e : j = k
    · subst e; rw [if_pos rfl, if_pos (by rw [arr_size]; exact hj), if_pos rfl]
    · rw [if_neg (fun e' => e e'.symm), if_neg e]; exact arr_get n f j hj
theorem FB.touch {k : Nat} (h : FB w g t n f) (ht : Touch k w w') (hne : g ≠ k) : FB w' g t n f := (ht.block g h.lt hne).trans h
theorem FB.up (h : FB w g t n f) (hb : Below w.heap.size w w') : FB w' g t n f := Blk.below h hb h.lt
theorem FB.far (h : FB w g t n f) {p : Addr} (hp : g ≠ p.block) (u : Value) : FB (w.setCell p u) g t n f := Blk.far h hp u
theorem Blk.up {cs : Array Value} (h : Blk w g t cs) (hb : Below w.heap.size w w') : Blk w' g t cs := Blk.below h hb h.lt
theorem Blk.touch {k : Nat} {cs : Array Value} (h : Blk w g t cs) (ht : Touch k w w') (hne : g ≠ k) : Blk w' g t cs := (ht.block g h.lt hne).trans h
theorem owns_up {base : Nat} {e : TypeId} {size m : Nat} {v : Value} {xs : List Value} (h : w.ownsRow base e size v m xs) (hb : Below w.heap.size w w') : w'.ownsRow base e size v m xs := by
  obtain ⟨h1, h2⟩ := h
  refine ⟨h1, ?_⟩
  rcases h2 with h2 | ⟨b, cap, cur, e1, hg, hh, h3⟩
  · exact .inl h2
  · exact .inr ⟨b, cap, cur, e1, hg, (hb.block b (Blk.lt hh)).trans hh, h3⟩
theorem owns_touch {base : Nat} {e : TypeId} {size m k : Nat} {v : Value} {xs : List Value} (h : w.ownsRow base e size v m xs) (ht : Touch k w w') (hne : v.ownBlock ≠ some k) : w'.ownsRow base e size v m xs := by
  obtain ⟨h1, h2⟩ := h
  refine ⟨h1, ?_⟩
  rcases h2 with h2 | ⟨b, cap, cur, e1, hg, hh, h3⟩
  · exact .inl h2
  · refine .inr ⟨b, cap, cur, e1, hg, (ht.block b (Blk.lt hh) ?_).trans hh, h3⟩
    rintro rfl
    exact hne (by rw [e1]; rfl)
end
def V.cells (v : V) : List Value := [.int .i64 v.k, .int .i64 v.t, .int .i64 v.r, .int .i64 v.x]
def V.val (v : V) : Value := .agg #[.int .i64 v.k, .int .i64 v.t, .int .i64 v.r, .int .i64 v.x]
def vC (v : V) (q : Nat) : Value := if q = 0 then .int .i64 v.k else if q = 1 then .int .i64 v.t else if q = 2 then .int .i64 v.r else .int .i64 v.x
def slC (s : Sl) (q : Nat) : Value := if q < 4 then vC s.p q else if q < 12 then .int .u8 (s.b (q - 4)) else .int .i64 s.m
/-- the machine's cells -/
def mC (S : St) (vc vk vg vn : Value) (k : Nat) : Value :=
  if k < 416 then slC (S.stk (k / 13)) (k % 13) else if k = 416 then vc else if k < 420 then .slice none 0 0 else if k = 420 then vk else if k = 421 then vg
  else if k < 466 then vC (S.regs ((k - 422) / 4)) ((k - 422) % 4) else if k = 466 then vn else if k = 467 then .int .i64 S.pc else if k = 468 then .int .i64 S.steps else .bool S.done
def OwnK (w : World) (base : Nat) (v : Value) (L : List Ins) : Prop := w.ownsRow base 57 8 v L.length (L.flatMap Ins.cells)
/-- a machine at g, with all that it owns -/
structure Mem (w : World) (base g : Nat) (P : Pg) (S : St) (vc vk vg vn : Value) : Prop where
  fb : FB w g 72 470 (mC S vc vk vg vn)
  lo : base ≤ g
  ctx : OwnB w base vc S.ctx
  code : OwnK w base vk P.code
  goals : OwnI w base vg P.goals
  sent : OwnI w base vn S.sent
  apart : ∀ b, vn.ownBlock = some b → vg.ownBlock ≠ some b
def MAt (w : World) (base g : Nat) (P : Pg) (S : St) : Prop := ∃ vc vk vg vn, Mem w base g P S vc vk vg vn
theorem owns_ne {w : World} {base : Nat} {e t : TypeId} {size m g : Nat} {v : Value} {xs : List Value} {cs : Array Value} (h : w.ownsRow base e size v m xs) (hg : Blk w g t cs) (hne : e ≠ t) : v.ownBlock ≠ some g := own_blk_ne h hg hne
section
variable {w w' : World} {base g : Nat} {P : Pg} {S : St} {vc vk vg vn : Value}
theorem Mem.up (h : Mem w base g P S vc vk vg vn) (hb : Below w.heap.size w w') : Mem w' base g P S vc vk vg vn :=
  ⟨h.fb.up hb, h.lo, owns_up h.ctx hb, owns_up h.code hb, owns_up h.goals hb, owns_up h.sent hb, h.apart⟩
theorem Mem.alloc (h : Mem w base g P S vc vk vg vn) (o : Obj) : Mem (w.alloc o) base g P S vc vk vg vn := h.up ((Below.refl _ _).alloc (Nat.le_refl _) _)
theorem Mem.drew (h : Mem w base g P S vc vk vg vn) (n : Nat) : Mem (w.drewN n) base g P S vc vk vg vn := ⟨h.fb, h.lo, h.ctx, h.code, h.goals, h.sent, h.apart⟩
/-- a cell of the machine's own block is written -/
theorem Mem.touch {S' : St} (h : Mem w base g P S vc vk vg vn) (ht : Touch g w w') (hf : FB w' g 72 470 (mC S' vc vk vg vn)) (hc : S'.ctx = S.ctx) (hs : S'.sent = S.sent) : Mem w' base g P S' vc vk vg vn :=
  ⟨hf, h.lo, by rw [hc]; exact owns_touch h.ctx ht (owns_ne h.ctx h.fb (by decide)), owns_touch h.code ht (owns_ne h.code h.fb (by decide)), owns_touch h.goals ht (owns_ne h.goals h.fb (by decide)),
    by rw [hs]; exact owns_touch h.sent ht (owns_ne h.sent h.fb (by decide)), h.apart⟩
/-- a block that is none of the machine's is written -/
theorem Mem.far {k : Nat} (h : Mem w base g P S vc vk vg vn) (ht : Touch k w w') (hk : g ≠ k) (h1 : vc.ownBlock ≠ some k) (h2 : vk.ownBlock ≠ some k) (h3 : vg.ownBlock ≠ some k) (h4 : vn.ownBlock ≠ some k) : Mem w' base g P S vc vk vg vn :=
  ⟨h.fb.touch ht hk, h.lo, owns_touch h.ctx ht h1, owns_touch h.code ht h2, owns_touch h.goals ht h3, owns_touch h.sent ht h4, h.apart⟩
theorem Mem.cell (h : Mem w base g P S vc vk vg vn) (k : Nat) (hk : k < 470) {v : Value} (e : mC S vc vk vg vn k = v) : w.cell? ⟨g, k, none⟩ = some v := e ▸ h.fb.cell k hk
theorem mC_reg (r q : Nat) (hr : r < 11) (hq : q < 4) : mC S vc vk vg vn (422 + r * 4 + q) = vC (S.regs r) q := by
  unfold mC
  rw [if_neg (by omega), if_neg (by omega), if_neg (by omega), if_neg (by omega), if_neg (by omega), if_pos (by omega), show (422 + r * 4 + q - 422) / 4 = r by omega, show (422 + r * 4 + q - 422) % 4 = q by omega]
/-- a register's cells -/
theorem Mem.reg (h : Mem w base g P S vc vk vg vn) (r : Nat) (hr : r < 11) :
    w.cell? ⟨g, 422 + r * 4, none⟩ = some (.int .i64 (S.regs r).k) ∧ w.cell? ⟨g, 422 + r * 4 + 1, none⟩ = some (.int .i64 (S.regs r).t) ∧ w.cell? ⟨g, 422 + r * 4 + 2, none⟩ = some (.int .i64 (S.regs r).r) ∧ w.cell? ⟨g, 422 + r * 4 + 3, none⟩ = some (.int .i64 (S.regs r).x) :=
  ⟨h.cell (422 + r * 4) (by omega) (mC_reg r 0 hr (by decide)), h.cell _ (by omega) (mC_reg r 1 hr (by decide)), h.cell _ (by omega) (mC_reg r 2 hr (by decide)), h.cell _ (by omega) (mC_reg r 3 hr (by decide))⟩
theorem Mem.done (h : Mem w base g P S vc vk vg vn) : w.cell? ⟨g, 469, none⟩ = some (.bool S.done) := h.cell 469 (by decide) rfl
theorem Mem.steps (h : Mem w base g P S vc vk vg vn) : w.cell? ⟨g, 468, none⟩ = some (.int .i64 S.steps) := h.cell 468 (by decide) rfl
theorem Mem.pc (h : Mem w base g P S vc vk vg vn) : w.cell? ⟨g, 467, none⟩ = some (.int .i64 S.pc) := h.cell 467 (by decide) rfl
theorem Mem.cN (h : Mem w base g P S vc vk vg vn) : w.cell? ⟨g, 466, none⟩ = some vn := h.cell 466 (by decide) rfl
theorem Mem.cG (h : Mem w base g P S vc vk vg vn) : w.cell? ⟨g, 421, none⟩ = some vg := h.cell 421 (by decide) rfl
theorem Mem.cK (h : Mem w base g P S vc vk vg vn) : w.cell? ⟨g, 420, none⟩ = some vk := h.cell 420 (by decide) rfl
theorem Mem.cC (h : Mem w base g P S vc vk vg vn) : w.cell? ⟨g, 416, none⟩ = some vc := h.cell 416 (by decide) rfl
/-- the number of the instruction, and the steps -/
theorem Mem.go (h : Mem w base g P S vc vk vg vn) (q : Nat) : Mem ((w.setCell ⟨g, 467, none⟩ (.int .i64 q)).setCell ⟨g, 468, none⟩ (.int .i64 (wrap64 (S.steps + 1)))) base g P (S.go q) vc vk vg vn := by
  refine h.touch ((Touch.set_ _ _ _).trans (Touch.set_ _ _ _)) (((h.fb.set_ _ _).set_ _ _).congr fun k hk => ?_) rfl rfl
  unfold updC mC St.go
  by_cases h1 : k = 468
  · subst h1; rfl
  · rw [if_neg h1]
    by_cases h2 : k = 467
    · subst h2; rfl
    · rw [if_neg h2]
      by_cases a : k < 416
      · rw [if_pos a, if_pos a]
      · rw [if_neg a, if_neg a, if_neg h2, if_neg h1, if_neg h2, if_neg h1]
theorem Mem.put (h : Mem w base g P S vc vk vg vn) (r : Nat) (hr : r < 11) (v : V) :
    Mem ((((w.setCell ⟨g, 422 + r * 4, none⟩ (.int .i64 v.k)).setCell ⟨g, 422 + r * 4 + 1, none⟩ (.int .i64 v.t)).setCell ⟨g, 422 + r * 4 + 2, none⟩ (.int .i64 v.r)).setCell ⟨g, 422 + r * 4 + 3, none⟩ (.int .i64 v.x)) base g P (S.put r v) vc vk vg vn := by
  refine h.touch ((((Touch.set_ _ _ _).trans (Touch.set_ _ _ _)).trans (Touch.set_ _ _ _)).trans (Touch.set_ _ _ _)) (((((h.fb.set_ _ _).set_ _ _).set_ _ _).set_ _ _).congr fun k hk => ?_) rfl rfl
  have hR : ∀ q, q < 4 → mC (S.put r v) vc vk vg vn (422 + r * 4 + q) = vC v q := fun q hq => by
    rw [mC_reg r q hr hq]
    show vC (updV S.regs r v r) q = vC v q
    rw [updV_same]
  unfold updC
  by_cases h3 : k = 422 + r * 4 + 3
  · subst h3; rw [if_pos rfl, hR 3 (by decide)]; rfl
  rw [if_neg h3]
  by_cases h2 : k = 422 + r * 4 + 2
  · subst h2; rw [if_pos rfl, hR 2 (by decide)]; rfl
  rw [if_neg h2]
  by_cases h1 : k = 422 + r * 4 + 1
  · subst h1; rw [if_pos rfl, hR 1 (by decide)]; rfl
  rw [if_neg h1]
  by_cases h0 : k = 422 + r * 4
  · subst h0; rw [if_pos rfl]; exact (hR 0 (by decide)).symm
  rw [if_neg h0]
  unfold mC
  by_cases a : k < 416
  · rw [if_pos a, if_pos a]; rfl
  rw [if_neg a, if_neg a]
  by_cases a1 : k = 416
  · rw [if_pos a1, if_pos a1]
  rw [if_neg a1, if_neg a1]
  by_cases a2 : k < 420
  · rw [if_pos a2, if_pos a2]
  rw [if_neg a2, if_neg a2]
  by_cases a3 : k = 420
  · rw [if_pos a3, if_pos a3]
  rw [if_neg a3, if_neg a3]
  by_cases a4 : k = 421
  · rw [if_pos a4, if_pos a4]
  rw [if_neg a4, if_neg a4]
  by_cases a5 : k < 466
  · rw [if_pos a5, if_pos a5]
    show vC (S.regs ((k - 422) / 4)) ((k - 422) % 4) = vC (updV S.regs r v ((k - 422) / 4)) ((k - 422) % 4)
    rw [updV_ne S.regs v (show (k - 422) / 4 ≠ r by omega)]
  · rw [if_neg a5, if_neg a5]; rfl
end
end Go.Proofs.YtpigkppnelnhiaaGreat
