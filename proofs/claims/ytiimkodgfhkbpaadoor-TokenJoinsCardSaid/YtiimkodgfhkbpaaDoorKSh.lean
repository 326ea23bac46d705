/- Contracts of the library's functions that are called here, as the shelf has them, in this seat's numbers. -/
import Derived.Test.YtiimkodgfhkbpaaDoorKStep
import Derived.Test.YtiimkodgfhkbpaaDoorKLaid
import Derived.Lib.SmallJoins
import Derived.Lib.AtoiErrMem
import Derived.Lib.AppendIntMem
import Derived.Lib.IndexLaws
import Derived.Lib.ParseIntB
import Derived.Lib.ItoaNum
import Derived.Lib.Strings
import Derived.Lib.LaidTab
import Derived.Lib.Join
import Derived.Lib.SlicesS
namespace Go.Proofs.YtiimkodgfhkbpaaDoor
open Go.RowKit
set_option linter.unusedVariables false

/-- What the library's variables hold. -/
structure Vr (w : World) : Prop where
  syn : ∃ tp p, w.var? Tryd.prog "strconv.ErrSyntax" = some #[.iface tp p]
  rng : ∃ tp p, w.var? Tryd.prog "strconv.ErrRange" = some #[.iface tp p]
  tab : Lib.TabIs Tryd.prog w "internal/strconv.uint64pow10" .u64 Lib.pow10Tab
theorem var_on {w w' : World} {n : String} {cs : Array Value} (h : w.var? Tryd.prog n = some cs) (hb : Below w.heap.size w w') : w'.var? Tryd.prog n = some cs := by
  cases hg : (Tryd.prog).globalNamed n with
  | none => unfold World.var? at h; rw [hg] at h; cases h
  | some g => exact Joins.var_stays hg h hb (Nat.le_refl _)
theorem Vr.below {w w' : World} (h : Vr w) (hb : Below w.heap.size w w') : Vr w' := by
  obtain ⟨⟨t1, p1, h1⟩, ⟨t2, p2, h2⟩, h3⟩ := h
  exact ⟨⟨t1, p1, var_on h1 hb⟩, ⟨t2, p2, var_on h2 hb⟩, var_on h3 hb⟩
theorem index_any (w : World) (s : ByteArray) :
    Calls Tryd.prog 37 #[.string s, .int .u8 10] w fun e w' => e = .returned (.int .i64 (Lib.indexByte s.data.toList 10)) ∧ w = w' :=
  (Tryd.strings_IndexByte s 10 w).mono fun e w' ⟨h, h2⟩ => ⟨h, h2.symm⟩
theorem prefix_any (w : World) (s p : ByteArray) :
    Calls Tryd.prog 48 #[.string s, .string p] w fun e w' => e = .returned (.bool (Lib.hasPrefix s.data.toList p.data.toList)) ∧ w = w' :=
  (Tryd.strings_HasPrefix s p w).mono fun e w' ⟨h, h2⟩ => ⟨h, h2.symm⟩
theorem contains_any (w : World) (b n c : Nat) (zs : List ByteArray) (x : ByteArray) (hz : zs.length = n) (hn : n ≤ 100) (hc : ∀ j y, zs[j]? = some y → w.cell? ⟨b, j, none⟩ = some (.string y)) :
    Calls Tryd.prog 15 #[.slice (some ⟨b, 0, none⟩) n c, .string x] w fun e w' => e = .returned (.bool (Lib.containsS zs x)) ∧ w = w' := by
  have H := Tryd.slices_Contains_string b 0 n c zs x w (by omega) (by omega) fun j hj => by
    rw [Nat.zero_add]
    exact hc j _ (by rw [List.getD_eq_getElem?_getD, List.getElem?_eq_getElem hj]; rfl)
  rw [List.take_of_length_le (by omega)] at H
  exact H.mono fun e w' ⟨h, h2⟩ => ⟨h, h2.symm⟩
theorem clone_any (w : World) (s : ByteArray) (hs : s.size ≤ 281474976710656) :
    Calls Tryd.prog 27 #[.string s] w fun e w' => e = .returned (.string s) ∧ Below w.heap.size w w' := by
  have H := fun (x : World) => hide (Tryd.stringslite_Clone s x hs)
  go_enter Tryd.func27, Tryd.ntmps27
  go_wp2_with (go_at_call 39; (with_reducible refine (unhide (H _)).mono ?_); rintro e w1 ⟨rfl, hb⟩; have HB := Lib.hid hb; clear hb)
  go_ret
  exact ⟨rfl, HB.out⟩
theorem parse_any (w : World) (s : ByteArray) (hs : s.size ≤ 281474976710656) (hv : Vr w) :
    Calls Tryd.prog 31 #[.string s, .int .i64 10, .int .i64 64] w fun e w' => ((∃ v, Lib.parseIntB 64 s.data.toList = .ok v ∧ e = .returned (.tuple #[.int .i64 v, .nilIface])) ∨ ((∀ v, Lib.parseIntB 64 s.data.toList ≠ .ok v) ∧ ∃ v t p, e = .returned (.tuple #[.int .i64 v, .iface t p]))) ∧ Below w.heap.size w w' := by
  obtain ⟨⟨t1, p1, h1⟩, ⟨t2, p2, h2⟩, _⟩ := hv
  rcases h : Lib.parseIntB 64 s.data.toList with v | _ | _
  · exact (Tryd.strconv_ParseInt_10_at64_ok s (by omega) v h w).mono fun e w' ⟨he, hw⟩ => ⟨.inl ⟨v, rfl, he⟩, by
      rcases hw with rfl | ⟨t, rfl⟩
      · exact Below.refl _ _
      · exact Joins.below_bytesWorld _ w _ t (Nat.le_refl _)⟩
  · exact (Any.strconv_ParseInt_10_at64_syntax_var Tryd.laysC174 s hs h t1 p1 w h1).mono fun e w' ⟨k, he, _, _, hb⟩ => ⟨.inr ⟨(by intro v; simp), _, _, _, he⟩, hb⟩
  · exact (Any.strconv_ParseInt_10_at64_range_var Tryd.laysC174 s hs h t2 p2 w h2).mono fun e w' ⟨k, he, _, _, hb⟩ => ⟨.inr ⟨(by intro v; simp), _, _, _, he⟩, hb⟩
theorem format_any (w : World) (n : Int) (h0 : -9223372036854775808 ≤ n) (h1 : n ≤ 9223372036854775807) (hv : Vr w) :
    Calls Tryd.prog 40 #[.int .i64 n, .int .i64 10] w fun e w' => e = .returned (.string ⟨(Lib.itoa n).toArray⟩) ∧ Below w.heap.size w w' :=
  (Tryd.strconv_FormatInt_10 n h0 h1 w hv.tab).mono fun e w' ⟨he, k, os, hw⟩ => ⟨he, by rw [hw]; exact Lib.below_grow _ w (Nat.le_refl _) k os⟩
theorem joins_any (w : World) (b n c : Nat) (xs : List ByteArray) (hn : xs.length = n) (hc : ∀ j x, xs[j]? = some x → w.cell? ⟨b, j, none⟩ = some (.string x)) (hb : b < w.heap.size) (hcap : n ≤ c) (hN : n ≤ 140737488355328) (hlen : (Lib.join (xs.map (·.data.toList)) [32]).length ≤ 140737488355328) :
    Calls Tryd.prog 32 #[.slice (some ⟨b, 0, none⟩) n c, .string ⟨#[32]⟩] w fun e w' => e = .returned (.string ⟨(Lib.join (xs.map (·.data.toList)) [32]).toArray⟩) ∧ Below w.heap.size w w' := by
  subst hn
  exact Tryd.strings_Join b 0 c xs ⟨#[32]⟩ w (fun j x h => by rw [Nat.zero_add]; exact hc j x h) hb hN hcap hlen
end Go.Proofs.YtiimkodgfhkbpaaDoor
