/- Contracts: tokens joined with blanks. -/
import Derived.Test.YtfnobibjphnmdaaGreatDoorKAgain
namespace Go.Proofs.YtfnobibjphnmdaaGreatDoor
open Go.RowKit
set_option linter.unusedSimpArgs false
set_option linter.unusedVariables false
theorem lib_join (xs : List ByteArray) : (⟨(Lib.join (xs.map (·.data.toList)) [32]).toArray⟩ : ByteArray) = ba (joinT (xs.map str)) := by
  have key : ∀ xs : List ByteArray, (Lib.join (xs.map (·.data.toList)) [32]).map UInt8.toNat = joinT (xs.map str) := by
    intro xs
    induction xs with
    | nil => rfl
    | cons x r ih =>
      rcases r with _ | ⟨y, r⟩
      · rw [List.map_cons, List.map_nil, Lib.join_one]
        rfl
      · rw [List.map_cons, Lib.join_cons, List.map_append]
        show str x ++ _ = str x ++ 32 :: joinT ((y :: r).map str)
        rw [← ih, List.map_cons (f := fun (b : ByteArray) => b.data.toList), Lib.join_cons]
        simp [Lib.joinTail]
  have hb : ∀ b ∈ joinT (xs.map str), b < 256 := by
    rw [← key]
    intro b hb
    obtain ⟨c, _, rfl⟩ := List.mem_map.1 hb
    exact c.toNat_lt
  apply str_inj
  rw [str_ba hb, ← key]
  unfold str
  rw [List.toList_toArray]
theorem joinT_len : ∀ xs : List (List Nat), (joinT xs).length ≤ xs.flatten.length + xs.length
  | [] => by simp [joinT]
  | [x] => by simp [joinT]
  | x :: y :: r => by
    have := joinT_len (y :: r)
    show (x ++ 32 :: joinT (y :: r)).length ≤ _
    rw [List.length_append, List.length_cons, List.flatten_cons, List.length_append, List.length_cons]
    omega
/-- The row of texts, filled up to j. -/
def arrJ (ts : List Tok) (j : Nat) : List Value := (ts.take j).map (fun t => Value.string (ba t.text)) ++ List.replicate (ts.length - j) (.string ⟨#[]⟩)
theorem arrJ_at {ts : List Tok} {j : Nat} (h : j < ts.length) : (arrJ ts j)[j]? = some (.string ⟨#[]⟩) := by
  unfold arrJ
  rw [List.getElem?_append_right (by rw [List.length_map, List.length_take]; omega), List.length_map, List.length_take, Nat.min_eq_left (by omega), Nat.sub_self, List.getElem?_replicate, if_pos (by omega)]
theorem arrJ_set {ts : List Tok} {j : Nat} (h : j < ts.length) : (arrJ ts j).set j (.string (ba (ts[j]'h).text)) = arrJ ts (j + 1) := by
  have e : ts.take (j + 1) = ts.take j ++ [ts[j]'h] := by rw [List.take_add_one, List.getElem?_eq_getElem h]; rfl
  unfold arrJ
  rw [e, List.map_append, List.set_append_right _ _ (by rw [List.length_map, List.length_take]; omega), List.length_map, List.length_take, Nat.min_eq_left (by omega), Nat.sub_self, show ts.length - j = (ts.length - (j + 1)) + 1 by omega, List.replicate_succ, List.set_cons_zero, List.append_assoc]
  rfl
theorem row_alloc {w : World} {g : Nat} {L : List Value} {t : TypeId} (h : w.heap[g]? = some (.cells L.toArray t (0, 0))) (o : Obj) : (w.alloc o).heap[g]? = some (.cells L.toArray t (0, 0)) :=
  ((ride_alloc (Below.refl w.heap.size w) o).block g (lt_of_heap h)).trans h
def JoinI (w : World) (ts : List Tok) (i : Value) (x : World) : Prop := ∃ j : Nat, i = .int .i64 (j : Int) ∧ j ≤ ts.length ∧ x.heap[w.heap.size]? = some (.cells (arrJ ts j).toArray 9 (0, 0)) ∧ Below w.heap.size w x
theorem infoStr : (Tryz.prog.info? 9).map (fun i => (i.zero, i.size, i.bytes)) = some (some (.string ⟨#[]⟩), 1, 16) := by kernel_rfl
theorem mk_strs (w : World) (k : Nat) (hk : k < 10000) : (Instr.makeSlice 57 (.int .i64 (k : Int)) (.int .i64 (k : Int))).run Tryz.prog w = .ok (.slice (some ⟨w.heap.size, 0, none⟩) k k) (w.alloc (.cells (Array.replicate k (Value.string ⟨#[]⟩)) 9)) := by
  obtain ⟨i0, hi0, hz0, hz1, hz2⟩ := info_tok infoStr
  have h := run_make (P := Tryz.prog) w 57 9 i0 (.string ⟨#[]⟩) Tryz.underlying57 hi0 hz0 .i64 .i64 (k : Int) (k : Int) (by omega) (by omega) (by rw [hz2]; omega) (by omega)
  rw [hz1] at h
  have e : madeCells (Value.cells (.string ⟨#[]⟩)) ((k : Int).toNat * 1) = (List.replicate k (Value.string ⟨#[]⟩)).toArray := by
    have e2 := toList_madeCells_one (.string ⟨#[]⟩) k
    have e3 : (List.replicate k (Value.string ⟨#[]⟩)).toArray = (madeCells #[Value.string ⟨#[]⟩] k).toList.toArray := by rw [e2]
    rw [e3]
    simp [Value.cells]
  rw [e, List.toArray_replicate] at h
  simpa using h
end Go.Proofs.YtfnobibjphnmdaaGreatDoor
