/- Contracts: tokens joined with blanks. -/
import Derived.Test.YtiimkodgfhkbpaaDoorKAgain
namespace Go.Proofs.YtiimkodgfhkbpaaDoor
open Go.RowKit
set_option linter.unusedSimpArgs false
set_option linter.unusedVariables false
theorem lib_join (xs : List ByteArray) : (⟨(Lib.join (xs.map (·.data.toList)) [32]).toArray⟩ : ByteArray) = ba (joinT (xs.map str)) := by
  have key : ∀ xs : List ByteArray, (Lib.join (xs.map (·.data.toList)) [32]).map UInt8.toNat = joinT (xs.map str) := by
    intro xs
    induction xs with
    | nil => rfl
    | cons x r ih =>
      rcases r with _ | ⟨y, r⟩
      · rw [List.map_cons, List.map_nil, Lib.join_one]
        rfl
      · rw [List.map_cons, Lib.join_cons, List.map_append]
        show str x ++ _ = str x ++ 32 :: joinT ((y :: r).map str)
        rw [← ih, List.map_cons (f := fun (b : ByteArray) => b.data.toList), Lib.join_cons]
        simp [Lib.joinTail]
  have hb : ∀ b ∈ joinT (xs.map str), b < 256 := by
    rw [← key]
    intro b hb
    obtain ⟨c, _, rfl⟩ := List.mem_map.1 hb
    exact c.toNat_lt
  apply str_inj
  rw [str_ba hb, ← key]
  unfold str
  rw [List.toList_toArray]
theorem joinT_len : ∀ xs : List (List Nat), (joinT xs).length ≤ xs.flatten.length + xs.length
  | [] => by simp [joinT]
  | [x] => by simp [joinT]
  | x :: y :: r => by
    have := joinT_len (y :: r)
    show (x ++ 32 :: joinT (y :: r)).length ≤ _
    rw [List.length_append, List.length_cons, List.flatten_cons, List.length_append, List.length_cons]
    omega
/-- The row of texts, filled up to j. -/
def arrJ (ts : List Tok) (j : Nat) : List Value := (ts.take j).map (fun t => Value.string (ba t.text)) ++ List.replicate (ts.length - j) (.string ⟨#[]⟩)
theorem arrJ_at {ts : List Tok} {j : Nat} (h : j < ts.length) : (arrJ ts j)[j]? = some (.string ⟨#[]⟩) := by
  unfold arrJ
  rw [List.getElem?_append_right (by rw [List.length_map, List.length_take]; omega), List.length_map, List.length_take, Nat.min_eq_left (by omega), Nat.sub_self, List.getElem?_replicate, if_pos (by omega)]
theorem arrJ_set {ts : List Tok} {j : Nat} (h : j < ts.length) : (arrJ ts j).set j (.string (ba (ts[j]'h).text)) = arrJ ts (j + 1) := by
  have e : ts.take (j + 1) = ts.take j ++ [ts[j]'h] := by rw [List.take_add_one, List.getElem?_eq_getElem h]; rfl
  unfold arrJ
  rw [e, List.map_append, List.set_append_right _ _ (by rw [List.length_map, List.length_take]; omega), List.length_map, List.length_take, Nat.min_eq_left (by omega), Nat.sub_self, show ts.length - j = (ts.length - (j + 1)) + 1 by omega, List.replicate_succ, List.set_cons_zero, List.append_assoc]
  rfl
theorem row_alloc {w : World} {g : Nat} {L : List Value} {t : TypeId} (h : w.heap[g]? = some (.cells L.toArray t (0, 0))) (o : Obj) : (w.alloc o).heap[g]? = some (.cells L.toArray t (0, 0)) :=
  ((ride_alloc (Below.refl w.heap.size w) o).block g (lt_of_heap h)).trans h
def JoinI (w : World) (ts : List Tok) (i : Value) (x : World) : Prop := ∃ j : Nat, i = .int .i64 (j : Int) ∧ j ≤ ts.length ∧ x.heap[w.heap.size]? = some (.cells (arrJ ts j).toArray 9 (0, 0)) ∧ Below w.heap.size w x
theorem infoStr : (Tryd.prog.info? 9).map (fun i => (i.zero, i.size, i.bytes)) = some (some (.string ⟨#[]⟩), 1, 16) := by kernel_rfl
theorem mk_strs (w : World) (k : Nat) (hk : k < 10000) : (Instr.makeSlice 38 (.int .i64 (k : Int)) (.int .i64 (k : Int))).run Tryd.prog w = .ok (.slice (some ⟨w.heap.size, 0, none⟩) k k) (w.alloc (.cells (Array.replicate k (Value.string ⟨#[]⟩)) 9)) := by
  obtain ⟨i0, hi0, hz0, hz1, hz2⟩ := info_tok infoStr
  have h := run_make (P := Tryd.prog) w 38 9 i0 (.string ⟨#[]⟩) Tryd.underlying38 hi0 hz0 .i64 .i64 (k : Int) (k : Int) (by omega) (by omega) (by rw [hz2]; omega) (by omega)
  rw [hz1] at h
  have e : madeCells (Value.cells (.string ⟨#[]⟩)) ((k : Int).toNat * 1) = (List.replicate k (Value.string ⟨#[]⟩)).toArray := by
    have e2 := toList_madeCells_one (.string ⟨#[]⟩) k
    have e3 : (List.replicate k (Value.string ⟨#[]⟩)).toArray = (madeCells #[Value.string ⟨#[]⟩] k).toList.toArray := by rw [e2]
    rw [e3]
    simp [Value.cells]
  rw [e, List.toArray_replicate] at h
  simpa using h
set_option maxRecDepth 100000 in
set_option maxHeartbeats 4000000 in
theorem join_any (w : World) (A : Option Addr) (c : Nat) (ts : List Tok) (hC : TCells w A ts) (hn : ts.length ≤ 400) (hc : ts.length ≤ c) (hb : ∀ t ∈ ts, ∀ b ∈ t.text, b < 256) (hsz : (ts.map (·.text)).flatten.length ≤ 100000) :
    Calls Tryd.prog 14 #[.slice A ts.length c] w fun e w' => e = .returned (.string (ba (joinT (ts.map (·.text))))) ∧ Below w.heap.size w w' := by
  have hmk := fun (x : World) => mk_strs x ts.length (by omega)
  have HC := hide hC
  have HBY := hide hb
  have HSZ := hide hsz
  have HG := hide (Go.heap_alloc_new w (.cells (Array.replicate ts.length (Value.string ⟨#[]⟩)) 9))
  clear hC hb hsz
  go_enter Tryd.func14, Tryd.ntmps14
  go_wp2
  go_loopw [11] (fun i x => JoinI w ts i x) (fun i _ => ts.length - (intOf i).toNat)
  case atStart =>
    refine ⟨0, rfl, by omega, ?_, ride_alloc (Below.refl _ _) _⟩
    rw [unhide HG]
    unfold arrJ
    rw [List.take_zero, List.map_nil, List.nil_append, Nat.sub_zero, List.toArray_replicate]
  case round =>
    obtain ⟨j, rfl, hj, hX, hB⟩ := hrel
    have HX := hide hX
    have HB := hide hB
    by_cases hlt : j < ts.length
    · obtain ⟨g, hA, hg, a0, a1, a2⟩ := (unhide HC).below hB j _ (List.getElem?_eq_getElem hlt)
      rw [Nat.mul_comm 3 j] at a0 a1 a2
      subst hA
      have hg0 : g ≠ w.heap.size := fun e => by
        obtain ⟨g1, hA1, hg1, _⟩ := unhide HC j _ (List.getElem?_eq_getElem hlt)
        cases hA1
        omega
      have hcell : ∀ o : Obj, (wr.alloc o).cell? ⟨w.heap.size, j, none⟩ = some (.string ⟨#[]⟩) := fun o => (cell_of_row _ w.heap.size j _ _ _ (row_alloc hX o)).trans (by simpa using arrJ_at hlt)
      have hfz : ∀ o : Obj, (wr.alloc o).frozen? ⟨w.heap.size, j, none⟩ = false := fun o => frozen_of_row _ w.heap.size j _ _ (row_alloc hX o)
      have HT := hide (arrJ_set hlt)
      obtain ⟨t, ht⟩ : ∃ t, t = ts[j]'hlt := ⟨_, rfl⟩
      rw [← ht] at HT a0 a1 a2
      obtain ⟨kk, tx, ta⟩ := t
      simp only [] at HT a0 a1 a2
      clear hX hB ht
      go_wp2
      go_roundw
      case rel =>
        refine ⟨j + 1, by go_num, by omega, ?_, ?_⟩
        · have h := heap_setCell_same _ w.heap.size j _ _ (.string (ba tx)) (row_alloc (unhide HX) (.cells #[.int .u8 (kk : Int), .string (ba tx), .int .i64 (ta : Int)] 32))
          rw [List.setIfInBounds_toArray, unhide HT] at h
          exact h
        · exact ((unhide HB).alloc (unhide HB).size _).setCell (Nat.le_refl _) _
      case measure => simp [intOf]; omega
    · obtain rfl : j = ts.length := by omega
      have hfull : arrJ ts ts.length = ts.map fun t => Value.string (ba t.text) := by
        unfold arrJ
        rw [List.take_length, Nat.sub_self, List.replicate_zero, List.append_nil]
      rw [hfull] at hX
      have hstrs : (ts.map fun t => ba t.text).map str = ts.map (·.text) := by
        rw [List.map_map]
        exact List.map_congr_left fun t ht => str_ba (unhide HBY t ht)
      have hlj : (Lib.join ((ts.map fun t => ba t.text).map (·.data.toList)) [32]).length ≤ 140737488355328 := by
        have h1 : (str (⟨(Lib.join ((ts.map fun t => ba t.text).map (·.data.toList)) [32]).toArray⟩ : ByteArray)).length = (str (ba (joinT ((ts.map fun t => ba t.text).map str)))).length := by rw [lib_join]
        have h2 := joinT_len (ts.map (·.text))
        have h3 := unhide HSZ
        have h4 : (str (⟨(Lib.join ((ts.map fun t => ba t.text).map (·.data.toList)) [32]).toArray⟩ : ByteArray)).length = (Lib.join ((ts.map fun t => ba t.text).map (·.data.toList)) [32]).length := by
          rw [str_length]
          simp [ByteArray.size]
        have h5 : (str (ba (joinT (ts.map (·.text))))).length ≤ (joinT (ts.map (·.text))).length := by
          unfold str ba
          simp
        rw [hstrs] at h1
        rw [List.length_map] at h2
        omega
      have HJ := hide (joins_any wr w.heap.size ts.length ts.length (ts.map fun t => ba t.text) (by rw [List.length_map]) (fun i x hi => by
        rw [cell_of_row wr w.heap.size i _ _ _ hX, List.getElem?_toArray, List.getElem?_map]
        rw [List.getElem?_map] at hi
        obtain ⟨t, ht, rfl⟩ := Option.map_eq_some_iff.1 hi
        rw [ht]
        rfl) (lt_of_heap hX) (Nat.le_refl _) (by omega) hlj)
      rw [lib_join, hstrs] at HJ
      clear hX hB hfull hstrs hlj
      go_wp2_with (go_at_call 32; (with_reducible refine (unhide HJ).mono ?_); rintro e w5 ⟨rfl, hb5⟩; have HB5 := hide (below_on (unhide HB) hb5); clear hb5)
      go_ret
      exact ⟨rfl, unhide HB5⟩
end Go.Proofs.YtiimkodgfhkbpaaDoor
