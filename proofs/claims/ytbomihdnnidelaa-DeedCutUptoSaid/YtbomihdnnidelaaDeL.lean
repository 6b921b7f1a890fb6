/- Package deed: caught, and the deferred closure of Decode. -/
import Derived.Test.YtbomihdnnidelaaDeK
import Derived.Laws.Pointers
namespace Go.Proofs.Ytbomihdnnidelaa
open Go.ChangeShapes Go.WideShapes Go.ChangeAt Go.RowKit
open Dee
set_option linter.unusedVariables false
set_option linter.unusedSimpArgs false
set_option maxRecDepth 100000
def flF (a e : Int) : Nat → Value := fun q => if q = 0 then .int .i64 a else .int .i64 e
theorem zeroFault : (Try.prog.info? 81).bind (fun i => i.zero.map Value.cells) = some (arr 2 (flF 0 0)) := by kernel_rfl
theorem sizeFault : (Try.prog.info? 81).map (·.size) = some 2 := by kernel_rfl
theorem flF_one (a e : Int) : ∀ q, q < 2 → (flF a e q).oneCell' = true := fun q _ => by unfold flF; split <;> rfl
theorem caught_nil (w : World) : Calls Try.prog 37 #[.nilIface] w (RetB w (.agg #[.int .i64 0, .int .i64 0])) := by
  go_enter Try.func37, Try.ntmps37
  go_upto_region 1 with (refine wpList_alloc_seg rfl 81 rfl 2 (flF 0 0) zeroFault ?_; intro w1 h1 hB1 hs1)
  go_wp2_with (refine wpList_store_all rfl 81 _ _ rfl w.heap.size 81 2 _ (flF 0 0) rfl rfl h1 sizeFault (flF_one 0 0) ?_; intro w7 h7 hT7 hs7)
  refine bodyPost_ret (result_seg rfl _ _ w.heap.size _ 2 _ _ rfl h7 Try.underlying81 rfl sizeFault) rfl ⟨rfl, hB1.trans (hT7.below (Nat.le_refl _) (by omega))⟩
theorem caught_err (x y : Int) (w : World) : Calls Try.prog 37 #[.iface 81 (.agg #[.int .i64 x, .int .i64 y])] w (RetB w (.agg #[.int .i64 x, .int .i64 y])) := by
  have hta : ∀ w, (Instr.typeAssert (.iface 81 (.agg #[.int .i64 x, .int .i64 y])) 20 81 true).run Try.prog w = .ok (.tuple #[.agg #[.int .i64 x, .int .i64 y], .bool true]) w := fun _ => by kernel_rfl
  go_enter Try.func37, Try.ntmps37
  go_upto_region 1 with (refine wpList_alloc_seg rfl 81 rfl 2 (flF 0 0) zeroFault ?_; intro w1 h1 hB1 hs1)
  obtain ⟨gr, hgr⟩ : ∃ gr, gr = w.heap.size := ⟨_, rfl⟩
  rw [← hgr] at h1 ⊢
  have H1 := Lib.hid h1
  have HB1 := Lib.hid hB1
  have HGR := Lib.hid hgr
  clear h1 hB1 hs1 hgr
  go_wp2_with (first
    | (refine wpList_alloc_seg rfl 81 rfl 2 (flF 0 0) zeroFault ?_; intro w2 h2 hB2 hs2)
    | (refine wpList_store_all rfl 81 _ _ rfl w1.heap.size 81 2 _ (flF x y) rfl rfl h2 sizeFault (flF_one x y) ?_; intro w3 h3 hT3 hs3)
    | (refine wpList_load_all rfl 81 _ rfl w1.heap.size rfl 81 2 (flF x y) _ h3 Try.underlying81 rfl sizeFault ?_)
    | (refine wpList_store_all rfl 81 _ _ rfl gr 81 2 _ (flF x y) rfl rfl ((H1.out.up hB2).touch hT3 (by have := H1.out.lt; omega)) sizeFault (flF_one x y) ?_; intro w4 h4 hT4 hs4))
  refine bodyPost_ret (result_seg rfl _ _ gr _ 2 _ _ rfl h4 Try.underlying81 rfl sizeFault) rfl ⟨rfl, ?_⟩
  have hs := HB1.out.size
  exact ((HB1.out.trans (hB2.mono hs)).trans (hT3.below (by omega) (by omega))).trans (hT4.below (by rw [HGR.out]; exact Nat.le_refl _) (by omega))
end Go.Proofs.Ytbomihdnnidelaa
