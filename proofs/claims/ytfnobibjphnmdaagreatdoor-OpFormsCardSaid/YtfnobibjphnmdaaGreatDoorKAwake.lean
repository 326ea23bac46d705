/- Contracts: how a row of tokens lies; the document's example; the front of a text. -/
import Derived.Test.YtfnobibjphnmdaaGreatDoorKVal
import Derived.Test.YtfnobibjphnmdaaGreatDoorKAll
namespace Go.Proofs.YtfnobibjphnmdaaGreatDoor
open Go.RowKit
set_option linter.unusedSimpArgs false
set_option linter.unusedVariables false
theorem toksC_at {ts : List Tok} {j : Nat} {t : Tok} (h : ts[j]? = some t) : (toksC ts)[3 * j]? = some (.int .u8 (t.kind : Int)) ∧ (toksC ts)[3 * j + 1]? = some (.string (ba t.text)) ∧ (toksC ts)[3 * j + 2]? = some (.int .i64 (t.at_ : Int)) := by
  induction ts generalizing j with
  | nil => simp at h
  | cons a ts ih =>
    have e : toksC (a :: ts) = tokC a ++ toksC ts := rfl
    have e3 : (tokC a).length = 3 := rfl
    rcases j with _ | j
    · simp at h
      subst h
      rw [e]
      exact ⟨rfl, rfl, rfl⟩
    · obtain ⟨h1, h2, h3⟩ := ih (j := j) (by simpa using h)
      rw [e]
      refine ⟨?_, ?_, ?_⟩
      · rw [List.getElem?_append_right (by omega), e3, show 3 * (j + 1) - 3 = 3 * j by omega]; exact h1
      · rw [List.getElem?_append_right (by omega), e3, show 3 * (j + 1) + 1 - 3 = 3 * j + 1 by omega]; exact h2
      · rw [List.getElem?_append_right (by omega), e3, show 3 * (j + 1) + 2 - 3 = 3 * j + 2 by omega]; exact h3
/-- The cells of a row of tokens. -/
def TCells (w : World) (A : Option Addr) (ts : List Tok) : Prop :=
  ∀ j t, ts[j]? = some t → ∃ g, A = some ⟨g, 0, none⟩ ∧ g < w.heap.size ∧ w.cell? ⟨g, 3 * j, none⟩ = some (.int .u8 (t.kind : Int)) ∧ w.cell? ⟨g, 3 * j + 1, none⟩ = some (.string (ba t.text)) ∧ w.cell? ⟨g, 3 * j + 2, none⟩ = some (.int .i64 (t.at_ : Int))
theorem TCells.below {w w' : World} {A : Option Addr} {ts : List Tok} (h : TCells w A ts) (hb : Below w.heap.size w w') : TCells w' A ts := fun j t hj => by
  obtain ⟨g, h1, h2, h3, h4, h5⟩ := h j t hj
  exact ⟨g, h1, Nat.lt_of_lt_of_le h2 hb.size, (hb.cell (p := ⟨g, 3 * j, none⟩) h2).trans h3, (hb.cell (p := ⟨g, 3 * j + 1, none⟩) h2).trans h4, (hb.cell (p := ⟨g, 3 * j + 2, none⟩) h2).trans h5⟩
theorem TRow.form {w : World} {base : Nat} {ty : TypeId} {v : Value} {ts : List Tok} (h : TRow w base ty v ts) : ∃ A c, v = .slice A ts.length c ∧ ts.length ≤ c ∧ TCells w A ts := by
  obtain ⟨hl, ⟨rfl, h0⟩ | ⟨g, cap, cur, rfl, h1, h2, h3, h4, h5, h6⟩⟩ := id h
  · have e : ts = [] := List.length_eq_zero_iff.1 h0
    subst e
    exact ⟨none, 0, rfl, by simp, fun j t hj => by simp at hj⟩
  · refine ⟨_, _, rfl, h3, fun j t hj => ⟨g, rfl, lt_of_heap h2, ?_⟩⟩
    have hc : ∀ i u, (toksC ts)[i]? = some u → w.cell? ⟨g, i, none⟩ = some u := fun i u hi => by
      have := h.cells (g := g) rfl i u hi
      rw [Addr.add] at this
      split at this
      · rename_i h0; subst h0; exact this
      · simpa using this
    obtain ⟨q1, q2, q3⟩ := toksC_at hj
    exact ⟨hc _ _ q1, hc _ _ q2, hc _ _ q3⟩
theorem text_any (w : World) (s : ByteArray) (n : Nat) (hs : s.size ≤ 9223372036854775807) :
    Calls Tryz.prog 6 #[.string s, .int .i64 (n : Int)] w fun e w' => e = .returned (.string (s.extract 0 (min s.size n))) ∧ w = w' := by
  rcases Nat.le_total s.size n with h | h
  · have hself : s.extract 0 s.size = s := str_inj (by rw [str_rest, List.drop_zero])
    have hm : min (s.size : Int) (n : Int) = (s.size : Int) := by omega
    rw [Nat.min_eq_left h, hself]
    clear hself
    go_enter Tryz.func6, Tryz.ntmps6
    go_wp2
    go_ret
    exact ⟨rfl, rfl⟩
  · have hm : min (s.size : Int) (n : Int) = (n : Int) := by omega
    rw [Nat.min_eq_right h]
    go_enter Tryz.func6, Tryz.ntmps6
    go_wp2
    go_ret
    exact ⟨rfl, rfl⟩
theorem text_some (w : World) (s : ByteArray) (n : Nat) (hs : s.size ≤ 9223372036854775807) :
    Calls Tryz.prog 6 #[.string s, .int .i64 (n : Int)] w fun e w' => (∃ t, e = .returned (.string t) ∧ t.size ≤ n) ∧ w = w' :=
  (text_any w s n hs).mono fun e w' ⟨he, hw⟩ => ⟨⟨_, he, by
    rw [← str_length, str_extract, List.length_take, List.length_drop, str_length]
    omega⟩, hw⟩
theorem awake_scan : scan (str ⟨#[97, 60, 61, 49, 50]⟩) 0 = some [⟨1, [97], 0⟩, ⟨4, [60, 61], 1⟩, ⟨2, [49, 50], 3⟩] := by decide
end Go.Proofs.YtfnobibjphnmdaaGreatDoor
