/- What the listed variables hold, for the operations: the words' table, the powers of ten; what a row's condition gives of them; the heap in which they hold it. -/
import Derived.Test.YtfnobibjphnmdaaGreatDoorRows
import Derived.Test.YtfnobibjphnmdaaGreatDoorKSh
import Derived.Test.YtfnobibjphnmdaaGreatDoorOMath
import Derived.LaidMore
import Derived.LaidLaws
import Derived.Stop.LaidErr
import Derived.Stop.Joined
import Derived.Lib.LaidTab
import Derived.OpenShut
import Derived.ProofKit
import Derived.MakeChecks
namespace Go.Proofs.YtfnobibjphnmdaaGreatDoor
open Go.RowKit
set_option linter.unusedVariables false
/-- What the variables hold: the table of powers, the words. -/
structure Vo (w : World) : Prop where
  tab : Lib.TabIs Tryz.prog w "internal/strconv.uint64pow10" .u64 Lib.pow10Tab
  wds : ∀ k, k < 15 → w.cell? ⟨0, k, none⟩ = some (.string (ba (wordK k)))
theorem vo_lt {w : World} (h : Vo w) : 0 < w.heap.size := World.block_lt_of_cell? _ _ (h.wds 0 (by omega))
theorem Vo.below {w w' : World} (h : Vo w) (hb : Below w.heap.size w w') : Vo w' :=
  ⟨var_on h.tab hb, fun k hk => by have := h.wds k hk; unfold World.cell? at this ⊢; rw [hb.block _ (vo_lt h)]; exact this⟩
/-- An array of texts that reads as the listed one holds it. -/
theorem cells_of_strs {H : Type} {enc : TypeId × Value → H} {P : Program} {w : World} {base : Nat} {sp : Nat → Bool} {held : Bool} {fuel : Nat} {t e : TypeId} {n : Nat} {cs : List Value} {ls : List (List UInt8)} {p : List MemPlace}
    (ht : P.underlying t = some (.array n e)) (he : P.underlying e = some .string) (hce : P.cellsOf e = 1) (hct : P.cellsOf t = n)
    (h : DataW.trod enc P w base sp held fuel t cs = some (.agg (ls.map fun l => (DataW.lit (Lit.string l) : DataW H)), p)) : ∀ (i : Nat) (l : List UInt8), ls[i]? = some l → cs[i]? = some (Value.string ⟨l.toArray⟩) := by
  cases fuel with
  | zero => simp [DataW.trod] at h
  | succ fuel =>
    simp only [DataW.trod, ht, hce, hct, Nat.mul_one] at h
    split at h
    · rename_i hl
      obtain ⟨xs, hm, hx⟩ := Option.map_eq_some_iff.1 h
      have hxs : xs.map (·.1) = ls.map fun l => (DataW.lit (.string l) : DataW H) := by
        have := congrArg Prod.fst hx
        simpa using this
      have hxl : xs.length = n := by simpa using Lib.mapM_length hm
      have hzl : ls.length = n := by
        have := congrArg List.length hxs
        simp at this
        omega
      intro i l hil
      have hi : i < n := by
        rw [← hzl]
        rcases Nat.lt_or_ge i ls.length with h1 | h1
        · exact h1
        · rw [List.getElem?_eq_none h1] at hil; cases hil
      obtain ⟨b, hb, hf⟩ := Lib.mapM_at hm i i (by simp [hi])
      obtain ⟨s, hc, hy, _⟩ := DataW.trod_string he hf
      have h1 : cs[i]? = some (.string s) := by
        have := congrArg (·[0]?) hc
        simpa [List.getElem?_take, List.getElem?_drop] using this
      have h2 : (xs.map (·.1))[i]? = some (DataW.lit (.string s.data.toList) : DataW H) := by simp [hb, hy]
      rw [hxs] at h2
      simp only [List.getElem?_map, hil, Option.map_some, Option.some.injEq, DataW.lit.injEq, Lit.string.injEq] at h2
      rw [h1, h2]
    · cases h
theorem gWds : Tryz.prog.globalNamed "hourglass/op.words" = some 0 := by kernel_rfl
theorem tWds : (Tryz.prog.globals[0]?).map (·.type) = some 76 := by kernel_rfl
theorem gPow : Tryz.prog.globalNamed "internal/strconv.uint64pow10" = some 1 := by kernel_rfl
theorem tPow : (Tryz.prog.globals[1]?).map (·.type) = some 123 := by kernel_rfl
def wordU (k : Nat) : List UInt8 := (wordK k).map UInt8.ofNat
theorem wds_of_head {W : World} {rest : List (String × DataW Unit)} (h : laidMet Tryz.prog (("hourglass/op.words", Rows.laid_hourglass_op_words) :: rest) W) :
    ∀ k, k < 15 → W.cell? ⟨0, k, none⟩ = some (.string (ba (wordK k))) := by
  obtain ⟨ps, ⟨g, t, cs, fuel, p, q, hg, ht, hvar, hd, _, _⟩, _⟩ := h
  obtain rfl := Option.some.inj (gWds.symm.trans hg)
  obtain rfl := Option.some.inj (tWds.symm.trans ht)
  have hcs := cells_of_strs (ls := (List.range 15).map wordU) Tryz.underlying76 Tryz.underlying9 (by kernel_rfl) (by kernel_rfl) hd
  intro k hk
  have h1 : cs.toList[k]? = some (Value.string (ba (wordK k))) := hcs k (wordU k) (by rw [List.getElem?_map, List.getElem?_range hk]; rfl)
  unfold World.var? at hvar
  rw [gWds] at hvar
  simp only [Option.bind_some] at hvar
  split at hvar
  · rename_i cs' t' z' hb
    obtain rfl := Option.some.inj hvar
    simp only [World.cell?, hb]
    simpa using h1
  · cases hvar
end Go.Proofs.YtfnobibjphnmdaaGreatDoor
