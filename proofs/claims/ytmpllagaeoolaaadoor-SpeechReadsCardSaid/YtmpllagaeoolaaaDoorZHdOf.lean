/-
  header: Of.
-/
import Derived.Test.YtmpllagaeoolaaaDoorZHdRead
namespace Go.Proofs.YtmpllagaeoolaaaDoor
open Go.RowKit Mem Sc
theorem hd_newz (w : World) : HdAt (w.alloc (.cells Tryd.zeroCells48 48)) w.heap.size hdZ := hd_new w hdZ
theorem hd_results2 {w : World} {h : Hd} {fn : Func} {p q : Tmp} (hf : fn.results = #[.cell p 48, .tmp q]) (tmps : Array Value) (g : Nat) (b : Value) (hp : tmps.getD p undef = .pointer (some ⟨g, 0, none⟩)) (hb : tmps.getD q undef = b) (hg : HdAt w g h) (hs : (hdA h).size = 68) :
    (results fn tmps).run Tryd.prog w = .ok (.tuple #[.agg (hdA h), b]) w := by
  rw [results_cell_tmp hf, hp, hb]
  have hl : (loadVar 48 ⟨g, 0, none⟩).run Tryd.prog w = .ok (.agg (hdA h)) w := run_loadVar_row w g 48 48 (hdA h) (0, 0) _ (Has.out hg) Tryd.underlying48 rfl (hdinfo.trans (by rw [hs]))
  simp [asAddr, hl, Result.andThen]
end Go.Proofs.YtmpllagaeoolaaaDoor
