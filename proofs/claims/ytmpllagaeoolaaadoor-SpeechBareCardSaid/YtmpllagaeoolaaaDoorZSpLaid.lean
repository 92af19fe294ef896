/-
  The laid variables of the rows of layer 8: two tables of digest, the table of words: the program's tables out of the rows' condition; a world in which all are laid.
-/
import Derived.Test.YtmpllagaeoolaaaDoorZOwn
import Derived.Test.YtmpllagaeoolaaaDoorRows
import Derived.Test.YtmpllagaeoolaaaDoorBunF
import Derived.Test.YtmpllagaeoolaaaDoorZSpWord
import Derived.ProofKit
import Derived.LaidMore
import Derived.Lay
import Derived.Stop.Joined
import Derived.Lib.LaidTab
import Derived.Stop.LaidErr
namespace Go.Proofs.YtmpllagaeoolaaaDoor
open Go.ChangeShapes Go.WideShapes Go.ChangeAt Go.RowKit Mem Sc

def laids : List (String × DataW Unit) := [("trailhead/digest.start", Rows.laid_trailhead_digest_start), ("trailhead/digest.rounds", Rows.laid_trailhead_digest_rounds), ("trailhead/speech.words", Rows.laid_trailhead_speech_words)]
set_option maxRecDepth 100000 in
theorem laid_met (os : Os) (args : Array Value) : laidMetH Tryd.prog laids ((World.laidAll Tryd.prog os laids).forCall (fun _ _ => 0) ⟨#[], args, []⟩).memory := by
  rw [MakeChecks.laidMetH_plain _ _ _ (by kernel_rfl)]
  exact laidMet_laidAll _ (by kernel_rfl) (by kernel_rfl)
def startInts : List Int := (List.range 8).map fun i => Wd.n (Sha.start.at i)
def kInts : List Int := (List.range 64).map fun i => Wd.n (Sha.kAt i)
theorem start_data : (Rows.laid_trailhead_digest_start : DataW Unit) = Lib.tabData .u32 startInts := by kernel_rfl
theorem k_data : (Rows.laid_trailhead_digest_rounds : DataW Unit) = Lib.tabData .u32 kInts := by kernel_rfl
theorem words_data : (Rows.laid_trailhead_speech_words : DataW Unit) = .agg (wds.map fun l => .lit (.string l)) := by kernel_rfl
theorem gStart : Tryd.prog.globalNamed "trailhead/digest.start" = some 2 := by kernel_rfl
theorem gRounds : Tryd.prog.globalNamed "trailhead/digest.rounds" = some 3 := by kernel_rfl
theorem gWords : Tryd.prog.globalNamed "trailhead/speech.words" = some 0 := by kernel_rfl
/-- an array of strings that reads as a table holds the table's strings, cell for cell -/
theorem cells_of_strs {H : Type} {enc : TypeId × Value → H} {P : Program} {w : World} {base : Nat} {sp : Nat → Bool} {held : Bool} {fuel : Nat} {t e : TypeId} {n : Nat} {cs : List Value} {ls : List (List UInt8)} {p : List MemPlace}
    (ht : P.underlying t = some (.array n e)) (he : P.underlying e = some .string) (hce : P.cellsOf e = 1) (hct : P.cellsOf t = n)
    (h : DataW.trod enc P w base sp held fuel t cs = some (.agg (ls.map fun l => .lit (.string l)), p)) : cs = ls.map fun l => Value.string (txt l) := by
  cases fuel with
  | zero => simp [DataW.trod] at h
  | succ fuel =>
    simp only [DataW.trod, ht, hce, hct, Nat.mul_one] at h
    split at h
    · rename_i hl
      obtain ⟨xs, hm, hx⟩ := Option.map_eq_some_iff.1 h
      have hxs : xs.map (·.1) = ls.map fun l => (DataW.lit (.string l) : DataW H) := by
        have := congrArg Prod.fst hx
        simpa using this
      have hxl : xs.length = n := by simpa using Lib.mapM_length hm
      have hzl : ls.length = n := by
        have := congrArg List.length hxs
        simp at this
        omega
      apply List.ext_getElem?
      intro i
      by_cases hi : i < n
      · obtain ⟨b, hb, hf⟩ := Lib.mapM_at hm i i (by simp [hi])
        obtain ⟨s, hc, hbs, _⟩ := DataW.trod_string he hf
        have h1 : cs[i]? = some (.string s) := by
          have := congrArg (·[0]?) hc
          simpa [List.getElem?_take, List.getElem?_drop] using this
        have h2 : (xs.map (·.1))[i]? = some (DataW.lit (.string s.data.toList) : DataW H) := by simp [hb, hbs]
        rw [hxs] at h2
        simp only [List.getElem?_map, Option.map_eq_some_iff, DataW.lit.injEq, Lit.string.injEq] at h2
        obtain ⟨l', hl', h3⟩ := h2
        rw [h1, List.getElem?_map, hl', h3]
        simp only [Option.map_some, txt_of]
      · rw [List.getElem?_eq_none (by omega), List.getElem?_eq_none (by simp; omega)]
    · cases h
theorem strs_of_head {P : Program} {W : World} {name : String} {ls : List (List UInt8)} {rest : List (String × DataW Unit)} {g : Nat} {t e : TypeId} {n : Nat}
    (hg : P.globalNamed name = some g) (hty : (P.globals[g]?).map (·.type) = some t) (ht : P.underlying t = some (.array n e)) (he : P.underlying e = some .string) (hce : P.cellsOf e = 1) (hct : P.cellsOf t = n)
    (h : laidMet P ((name, .agg (ls.map fun l => .lit (.string l))) :: rest) W) : W.rangeAt g 0 (ls.map fun l => Value.string (txt l)) := by
  obtain ⟨ps, ⟨g', t', cs, fuel, p, q, hg', ht', hvar, hd, _, _⟩, _⟩ := h
  obtain rfl := Option.some.inj (hg.symm.trans hg')
  obtain rfl := Option.some.inj (hty.symm.trans ht')
  have hcs := cells_of_strs ht he hce hct hd
  intro j u hu
  have := World.var?_cell hg hvar j
  rw [Nat.zero_add, this, ← Array.getElem?_toList, hcs, hu]
theorem of_laid {W : World} (h : laidMetH Tryd.prog laids W) : Tab W ∧ TabS W := by
  rw [MakeChecks.laidMetH_plain _ _ _ (by kernel_rfl)] at h
  unfold laids at h
  rw [start_data, k_data, words_data] at h
  have h1 := Lib.tabIs_of_head gStart (t := 107) (e := 106) (n := 8) (by kernel_rfl) Tryd.underlying107 Tryd.underlying106 (by kernel_rfl) (by kernel_rfl) h
  have h2 := Lib.tabIs_of_head gRounds (t := 108) (e := 106) (n := 64) (by kernel_rfl) Tryd.underlying108 Tryd.underlying106 (by kernel_rfl) (by kernel_rfl) h.tail
  have h3 := strs_of_head gWords (t := 71) (e := 9) (n := 9) (by kernel_rfl) Tryd.underlying71 Tryd.underlying9 (by kernel_rfl) (by kernel_rfl) h.tail.tail
  refine ⟨⟨fun i hi => ?_, fun i hi => ?_⟩, h3⟩
  · rw [h2.cell gRounds i (by simp [kInts]; exact hi)]
    simp [kInts, hi]
  · rw [h1.cell gStart i (by simp [startInts]; exact hi)]
    simp [startInts, hi]
end Go.Proofs.YtmpllagaeoolaaaDoor
