/- Contracts: what a nil arena tells. -/
import Derived.Test.YtogkeoainejfcaaAREq
namespace Go.Proofs.Ytogkeoainejfcaa
open Go.RowKit Go.Shelf
set_option linter.unusedSimpArgs false
set_option linter.unusedVariables false
set_option maxRecDepth 100000
attribute [local go_sem] Oper.semAt_some undef
theorem ids_nil (w : World) : Calls Try.prog 29 #[.pointer none] w (fun e w' => e = .returned (.slice none 0 0) ∧ Below w.heap.size w w') := by
  go_enter Try.func29, Try.ntmps29
  go_wp2_with fail
  go_ret
  exact ⟨rfl, Below.refl _ _⟩
theorem bytes_nil (w : World) : Calls Try.prog 19 #[.pointer none] w (fun e w' => e = .returned (.slice none 0 0) ∧ Below w.heap.size w w') := by
  go_enter Try.func19, Try.ntmps19
  go_wp2_with fail
  go_ret
  exact ⟨rfl, Below.refl _ _⟩
/-- What told keeps while it ranges over nothing. -/
def ToldI (w0 : World) (W : World) : Prop := Below w0.heap.size w0 W ∧ W.heap[w0.heap.size + 1]? = some (.cells #[.slice none 0 0] 30 (0, 0))
theorem toldI_own {w0 : World} {B : Nat} {α : Type} (hB : w0.heap.size ≤ B) : OwnFrom B (fun (_ : List α) W => ToldI w0 W) := fun pre W W' row hs hg hr =>
  ⟨hs.1.trans ⟨hg.os, hg.tape, hg.output, hg.size, fun j hj => hg.block j (Nat.lt_of_lt_of_le hj hs.1.size) fun e => by have := (hr j e.symm).1; omega⟩, grown_cells hg hr hs.2⟩
set_option maxHeartbeats 4000000 in
theorem told_nil (w : World) (id : Nat) (m : Int) : Calls Try.prog 30 #[.pointer none, .int .u64 (id : Int), .int .i64 m] w (fun e w' => e = .returned (.slice none 0 0) ∧ Below w.heap.size w w') := by
  obtain ⟨w1, hw1⟩ : ∃ w1, w1 = (w.alloc (.cells #[.int .i64 m] 3)).alloc (.cells #[.slice none 0 0] 30) := ⟨_, rfl⟩
  have hb1 : Below w.heap.size w w1 := by rw [hw1]; exact ((Below.refl _ _).alloc (Nat.le_refl _) _).alloc (by simp) _
  have hx1 : w1.heap[w.heap.size + 1]? = some (.cells #[.slice none 0 0] 30 (0, 0)) := by rw [hw1]; exact alloc2 _ _ _ _ _
  have HWK := Lib.hid (walk_nil w1 (.int .u64 (id : Int)) [])
  subst hw1
  have HB1 := Lib.hid hb1
  have HX1 := Lib.hid hx1
  clear hb1 hx1
  refine callsIn_wide.1 (callsIn_of_wp_marks (n := 5) Try.func30 rfl trivial ((wpIn_wide (n := 5)).2 ?_))
  simp only [Try.ntmps30, List.size_toArray, List.length_cons, List.length_nil, Nat.reduceAdd, Nat.reduceSub, Array.replicate_succ, Array.replicate_zero, List.push_toArray, List.append_toArray, List.nil_append, List.cons_append]
  go_wp2_with (go_at_call 41; (with_reducible refine (HWK.out).mono ?_); rintro e w5 ⟨B, A, c, rfl, hB1, hB2, hB3, hB4⟩; go_loud (
          have HC1 := Lib.hid hB1;
          have HC2 := Lib.hid hB2;
          have HC4 := Lib.hid hB4;
          clear hB1 hB2 hB3 hB4))
  have hrow : WRow w5 w5.heap.size B A c [] [] [] := ⟨HC2.out, lt_of_heap2 HC2.out, Nat.le_refl _, .inl rfl, fun x hx => (nomatch hx), by simp⟩
  have hb5 : Below w.heap.size w w5 := HB1.out.trans (HC4.out.mono HB1.out.size)
  have hI0 : ToldI w w5 := ⟨hb5, (HC4.out.block _ (lt_of_heap2 HX1.out)).trans HX1.out⟩
  have HRW := Lib.hid hrow
  have HB5 := Lib.hid hb5
  have HI0 := Lib.hid hI0
  clear hrow hb5 hI0
  refine (wpIn_wide (n := 5)).1 ?_
  refine range_tells (ps := #[12, 13]) (by omega) 63 _ rfl (enters_of Try.func63 (by kernel_rfl) rfl) (walk_tells (5 - 1) (by omega) B c A [] [] [] w5 HRW.out) (fun _ => rfl) KpW.trans (fun W l o' hl => KpW.putObj W l o' hl)
    (fun _ W => ToldI w W) (fun _ _ _ => False) (toldI_own HB5.out.size) (fun _ _ _ _ _ hs _ _ => hs) HI0.out
    (fun _ _ _ _ _ => True) (fun _ _ _ _ _ _ _ _ _ _ => trivial) ?assign ?body ?done (fun _ _ _ _ _ _ hs _ => hs.elim)
  case assign =>
    intro l pre x W K hI hOk hK
    rw [enc_tmps2]
    simp only [List.setIfInBounds_toArray, List.set_cons_zero, List.set_cons_succ]
    gi_wp2
    exact hK _ _ (KeepsFrom.refl _ _) (KpW.refl _ _) hI trivial
  case body =>
    intro l pre x a' W hl hI hx hlen
    exact absurd hlen (Nat.not_lt_zero _)
  case done =>
    intro D xs W hD hS hI hK
    have q1 := cell_box hI.2
    have hmk : Marked w.heap.size [D] W := (Marked.nil w.heap.size _).more (Nat.le_trans HB5.out.size hD) (fun E hE => by cases hE) hK
    have HI := Lib.hid hI
    have HMK := Lib.hid hmk
    clear hI hmk hS hK hD
    go_wp2_with fail
    refine leaves_marked (B := w.heap.size) [D] _ HMK.out fun w' hu => ⟨_, results_tmp rfl _ _ _, rfl, HI.out.1.trans hu.1⟩
end Go.Proofs.Ytogkeoainejfcaa
