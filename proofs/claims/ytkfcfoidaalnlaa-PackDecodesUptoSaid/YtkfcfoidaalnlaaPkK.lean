/- Package pack: lists made and copied. -/
import Derived.Test.YtkfcfoidaalnlaaPkJ
namespace Go.Proofs.Ytkfcfoidaalnlaa.Pak
open Go.ChangeShapes Go.WideShapes Go.ChangeAt Go.RowKit
set_option linter.unusedVariables false
set_option linter.unusedSimpArgs false
set_option maxRecDepth 100000
section
variable {P : Program}
theorem run_make_seg (w : World) (T e : TypeId) (s bytes : Nat) (z : Nat → Value) (k : Nat) (hu : P.underlying T = some (.slice e)) (hinf : (P.info? e).map (fun i => (i.zero.map Value.cells, i.size, i.bytes)) = some (some (arr s z), s, bytes)) (hs0 : 0 < s)
    (hk : bytes * k ≤ 281474976710656) (hm : k ≤ 9223372036854775807) :
    (Instr.makeSlice T (.int .i64 k) (.int .i64 k)).run P w = .ok (.slice (some ⟨w.heap.size, 0, none⟩) k k) (w.alloc (.cells (arr (k * s) fun q => z (q % s)) e)) := by
  cases hq : P.info? e with
  | none => simp [hq] at hinf
  | some i =>
    simp only [hq, Option.map_some, Option.some.injEq, Prod.mk.injEq] at hinf
    obtain ⟨h1, h2, h3⟩ := hinf
    cases hz : i.zero with
    | none => simp [hz] at h1
    | some zv =>
      have hzc : zv.cells = arr s z := by simpa [hz] using h1
      have h6 : ((bytes * k : Nat) : Int) ≤ 281474976710656 := by omega
      rw [Int.natCast_mul] at h6
      have h := run_make (P := P) w T e i zv hu hq hz .i64 .i64 k k (by omega) (by omega) (by rw [h3]; exact h6) (by omega)
      rw [h, h2]
      have e1 : madeCells zv.cells ((k : Int).toNat * s) = arr (k * s) fun q => z (q % s) := by
        rw [hzc, Int.toNat_natCast]
        refine arr_of _ _ _ (size_madeCells _ _) fun q hq => ?_
        unfold madeCells
        have h4 : q % s < s := Nat.mod_lt _ hs0
        have h5 := arr_get s z (q % s) h4
        simp only [arr_size, Array.getElem?_map, Array.getElem?_range, hq, if_true, Option.map_some]
        rw [Array.getElem!_eq_getD]
        simp [Array.getD, arr_size, h4] at h5 ⊢
        exact h5
      rw [e1, Int.toNat_natCast]
theorem run_copy_cells (w : World) (dT sT ty elem : TypeId) (size g off dLen dCap ga oa sLen sCap m : Nat) (t : TypeId) (N : Nat) (f h : Nat → Value)
    (hu : P.underlying dT = some (.slice elem)) (hsz : (P.info? elem).map (·.size) = some size) (hm : Nat.min sLen dLen = m)
    (hg : FB w g t N f) (hc : ∀ q, q < m * size → w.cell? ⟨ga, oa + q, none⟩ = some (h q)) (h1 : off + m * size ≤ N) (h3 : ∀ q, q < m * size → (h q).oneCell' = true) :
    (Builtin.copy_ #[dT, sT] ty #[.slice (some ⟨g, off, none⟩) dLen dCap, .slice (some ⟨ga, oa, none⟩) sLen sCap]).run P w = .ok (goInt m) (w.setRow g (arr N (updR f off (m * size) h))) := by
  have hl : (loadCells ⟨ga, oa, none⟩ ((List.range (m * size)).map h).length).run P w = .ok ((List.range (m * size)).map h).toArray w :=
    run_loadCells_list (P := P) w ⟨ga, oa, none⟩ _ (fun j v hv => by
      have hj : j < m * size := by
        rcases Nat.lt_or_ge j (m * size) with h | h
        · exact h
        · rw [List.getElem?_eq_none (by simpa using h)] at hv; cases hv
      rw [addr_add, hc j hj]
      rw [List.getElem?_map, List.getElem?_range hj] at hv
      exact hv)
  rw [List.length_map, List.length_range] at hl
  have hst := run_storeCells_at P g off t (arr (m * size) h).toList 0 (arr N f) w hg (by simp [arr]; omega) (fun v hv => by
    rw [arr_toList, List.mem_map] at hv
    obtain ⟨q, hq, rfl⟩ := hv
    exact h3 q (by simpa using hq))
  rw [Nat.add_zero, updR_list N off (m * size) f _ h1] at hst
  cases hq : P.info? elem with
  | none => simp [hq] at hsz
  | some i =>
    have hi : i.size = size := by simpa [hq] using hsz
    have hm' : min sLen dLen = m := hm
    simp [Builtin.copy_, run_underlying hu, Builtin.lenOf, Builtin.firstCells, sizeOf, typeInfo, hq, hi, hm, hm', hl, arr_toList] at hst ⊢
    simp [hst]
theorem wpList_copy_cells {ops : Array Oper} {rest : List Oper} {o : Oper} {a : Act} {w : World} {Q : Exit → Act → World → Prop} (hgd : o.guard = none) (d s : Operand) (dT sT : TypeId)
    (ho : o.op = .call { callee := .builtin .copy, args := #[d, s], argTypes := #[dT, sT] }) (elem : TypeId) (size g off dLen dCap ga oa sLen sCap m : Nat) (t : TypeId) (N : Nat) (f h : Nat → Value)
    (hd : a.eval d = .slice (some ⟨g, off, none⟩) dLen dCap) (hs : a.eval s = .slice (some ⟨ga, oa, none⟩) sLen sCap)
    (hu : P.underlying dT = some (.slice elem)) (hsz : (P.info? elem).map (·.size) = some size) (hm : Nat.min sLen dLen = m)
    (hg : FB w g t N f) (hc : ∀ q, q < m * size → w.cell? ⟨ga, oa + q, none⟩ = some (h q)) (h1 : off + m * size ≤ N) (h3 : ∀ q, q < m * size → (h q).oneCell' = true)
    (hK : ∀ w', FB w' g t N (updR f off (m * size) h) → Touch g w w' → w'.heap.size = w.heap.size → wpList P ops Q rest (a.put o.dst (goInt m)) w') : wpList P ops Q (o :: rest) a w :=
  wpList_plain hgd fun _ hKK => by
    have hrun := run_copy_cells (P := P) w dT sT o.type elem size g off dLen dCap ga oa sLen sCap m t N f h hu hsz hm hg hc h1 h3
    unfold Oper.wp execOp
    simp only [ho, resolve, invoke, builtin, Sem.run_bind, Sem.run_pure, Result.andThen_ok, List.map_toArray, List.map_cons, List.map_nil, hd, hs, hrun]
    exact hKK _ _ (hK _ (setRow_FB hg) (setRow_touch w g _) (by simp))
end
/-- a row of things in a block of its own is owned -/
theorem own_of_fb {α : Type} {w : World} {g base : Nat} {e : TypeId} {s : Nat} {f : α → Nat → Value} {l : List α} {h : Nat → Value} (n : Nat) (hn : l.length = n) (hg : FB w g e (n * s) h) (hb : base ≤ g) (hm : n ≤ maxLen)
    (hh : ∀ j a, l[j]? = some a → ∀ k, k < s → h (j * s + k) = f a k) : OwnR e s f w base (.slice (some ⟨g, 0, none⟩) n n) l := by
  subst hn
  refine ⟨by rw [flat_len], .inr ⟨g, l.length, _, rfl, hb, hg, Nat.le_refl _, hm, arr_size _ _, ?_⟩⟩
  rw [arr_toList, List.take_of_length_le (by simp)]
  refine List.ext_getElem? fun q => ?_
  rcases Nat.lt_or_ge q (l.length * s) with hq | hq
  · rcases Nat.eq_zero_or_pos s with h0 | h0
    · subst h0; simp at hq
    have hjl : q / s < l.length := Nat.div_lt_of_lt_mul (by rw [Nat.mul_comm]; exact hq)
    obtain ⟨a, ha⟩ : ∃ a, l[q / s]? = some a := ⟨_, List.getElem?_eq_getElem hjl⟩
    have h2 := flat_get s f l (q / s) a ha (q % s) (Nat.mod_lt _ h0)
    rw [show q / s * s + q % s = q from by rw [Nat.mul_comm]; exact Nat.div_add_mod q s] at h2
    rw [h2, List.getElem?_map, List.getElem?_range hq]
    have h3 := hh (q / s) a ha (q % s) (Nat.mod_lt _ h0)
    rw [show q / s * s + q % s = q from by rw [Nat.mul_comm]; exact Nat.div_add_mod q s] at h3
    exact congrArg some h3
  · rw [List.getElem?_eq_none (by simpa using hq), List.getElem?_eq_none (by rw [flat_len]; exact hq)]
theorem flat_bytes1 : ∀ L : List Int, flat 1 (fun x (_ : Nat) => Value.int .u8 x) L = L.map (Value.int .u8)
  | [] => rfl
  | x :: t => by
    have := flat_bytes1 t
    unfold flat at this ⊢
    rw [List.flatMap_cons, this, List.map_cons]
    rfl
theorem ownB_of {w : World} {base : Nat} {v : Value} {L : List Int} (h : OwnR 5 1 (fun x (_ : Nat) => Value.int .u8 x) w base v L) : OwnB w base v L := by
  unfold OwnR at h
  rw [flat_bytes1] at h
  exact h
theorem infoB : (Try.prog.info? 5).map (fun i => (i.zero.map Value.cells, i.size, i.bytes)) = some (some (arr 1 fun _ => .int .u8 0), 1, 1) := by kernel_rfl
theorem sizeB : (Try.prog.info? 5).map (·.size) = some 1 := by kernel_rfl
def CopEnd (w : World) (L : List Int) (e : Ending) (w' : World) : Prop := ∃ v, e = .returned v ∧ OwnB w' w.heap.size v L ∧ Below w.heap.size w w'
set_option maxHeartbeats 2000000 in
theorem copied_any (w : World) (A : Option Addr) (n c : Nat) (L : List Int) (h : Sl w A n c L) (hn : n ≤ 140737488355328) :
    Calls Try.prog 59 #[.slice A n c] w (CopEnd w L) := by
  have HS := Lib.hid h
  clear h
  go_enter Try.func59, Try.ntmps59
  by_cases h0 : n = 0
  · subst h0
    have HL := Lib.hid (show L = [] from List.eq_nil_of_length_eq_zero HS.out.len.out)
    go_wp2_with fail
    go_ret
    exact ⟨_, rfl, by rw [HL.out]; exact OwnB.nil _ _, Below.refl _ _⟩
  · have t0 : ((n : Int) == 0) = false := by rw [beq_eq_false_iff_ne]; omega
    have t0' : ((n : Int) = 0) = False := by simp; omega
    obtain ⟨b, off, rfl, hbl, hcell⟩ := HS.out.byt (by have := HS.out.len.out; omega)
    have hmk := run_make_seg (P := Try.prog) w 22 5 1 1 (fun _ => .int .u8 0) n Try.underlying22 infoB (by decide) (by omega) (by omega)
    have hb1 := below_box w (.cells (arr (n * 1) fun q => (fun _ => Value.int .u8 0) (q % 1)) 5)
    have hf1 := FB.new w 5 (n * 1) (fun q => (fun _ => Value.int .u8 0) (q % 1))
    obtain ⟨w1, hw1⟩ : ∃ w1, w1 = w.alloc (.cells (arr (n * 1) fun q => (fun _ => Value.int .u8 0) (q % 1)) 5) := ⟨_, rfl⟩
    rw [← hw1] at hmk hb1 hf1
    have HF := Lib.hid hf1
    have HB := Lib.hid hb1
    have HC := Lib.hid (show ∀ q, q < n * 1 → w1.cell? ⟨b, off + q, none⟩ = some (.int .u8 (L[q]?.getD 0)) from fun q hq => (cell_same (hb1.block b hbl) _).trans (hcell q (by have := HS.out.len.out; omega)))
    clear hw1 hf1 hb1 hcell h0
    go_wp2_with (refine wpList_copy_cells rfl (.tmp 10) (.tmp 11) 22 22 rfl 5 1 w.heap.size 0 n n b off n c n 5 (n * 1) _ (fun q => .int .u8 (L[q]?.getD 0)) rfl rfl Try.underlying22 sizeB (Nat.min_self _) HF.out HC.out (by omega) (fun _ _ => rfl) ?_; intro w2 h2 hT2 hs2)
    go_ret
    refine ⟨_, rfl, ownB_of (own_of_fb n HS.out.len.out h2 (Nat.le_refl _) (by unfold maxLen; omega) fun j x hj k hk => ?_), HB.out.trans (hT2.below (Nat.le_refl _) HB.out.size)⟩
    have hjn : j < n := by
      rcases Nat.lt_or_ge j L.length with h1 | h1
      · have := HS.out.len.out; omega
      · rw [List.getElem?_eq_none h1] at hj; cases hj
    unfold updR
    rw [if_pos (by omega), show j * 1 + k - 0 = j by omega]
    show Value.int .u8 (L[j]?.getD 0) = _
    rw [hj]
    rfl
end Go.Proofs.Ytkfcfoidaalnlaa.Pak
