/- Package pack: PackFaithful's walk: bytes that are read are written again; instructions too. Laid by wip/tools/mkpkpf.py. -/
import Derived.Test.YtlodoinmippebaaDoorPkPe
namespace Go.Proofs.YtlodoinmippebaaDoor.Pak
open Go.ChangeShapes Go.WideShapes Go.ChangeAt Go.RowKit
open Cod
set_option linter.unusedVariables false
set_option linter.unusedSimpArgs false
set_option maxRecDepth 100000
theorem smallG_prog {k : Pk} (hs : Small k) (h : (progG k).1.2 = 0) : SmallG (progG k).2 := by
  obtain ⟨-, -, -, -, -, -, hg, hl⟩ := faithful (fun x hx => hs.bc x hx) h
  obtain ⟨-, -, e3, e4⟩ := prog_same h
  exact ⟨by rw [e3]; exact hs.data, by omega, by rw [e4]; exact hs.tabs, by rw [e3]; exact hs.bd, fun i hi => (hg i hi).rng⟩
end Go.Proofs.YtlodoinmippebaaDoor.Pak
