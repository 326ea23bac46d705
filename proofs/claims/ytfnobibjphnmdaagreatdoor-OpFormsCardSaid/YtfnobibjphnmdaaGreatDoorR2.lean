/- OSplit, ONext, Own, ORead, OReadB, OReadC, OReadD: joined by program (tools/merge.py). -/
import Derived.Test.YtfnobibjphnmdaaGreatDoorR4
import Derived.Shelf.Strings.Split
import Derived.Lib.IndexBytes
import Derived.Lib.IndexLaws
import Derived.Laws.StructEq
namespace Go.Proofs.YtfnobibjphnmdaaGreatDoor
open Go.RowKit
set_option linter.unusedVariables false
set_option linter.unusedSimpArgs false
theorem splitS_succ (k : Nat) (l : List Nat) : splitS (k + 1) l = if 32 ∈ l then l.takeWhile (· != 32) :: splitS k (l.drop ((l.takeWhile (· != 32)).length + 1)) else [l] := rfl
theorem splitS_more : ∀ (k : Nat) (l : List Nat), l.length ≤ k → splitS (k + 1) l = splitS k l
  | 0, l, h => by
    obtain rfl : l = [] := List.length_eq_zero_iff.1 (by omega)
    simp [splitS]
  | k + 1, l, h => by
    by_cases h32 : 32 ∈ l
    · rw [splitS_succ (k + 1) l, if_pos h32, splitS_more k _ (by rw [List.length_drop]; omega), splitS_succ k l, if_pos h32]
    · rw [splitS_succ (k + 1) l, if_neg h32, splitS_succ k l, if_neg h32]
theorem splitS_min (l : List Nat) : ∀ m : Nat, splitS (l.length + m) l = splitS l.length l
  | 0 => rfl
  | m + 1 => by rw [← Nat.add_assoc, splitS_more _ _ (by omega), splitS_min l m]
theorem splitS_len (l : List Nat) (k : Nat) : splitS (min k l.length) l = splitS k l := by
  rcases Nat.lt_or_ge l.length k with h | h
  · obtain ⟨m, rfl⟩ : ∃ m, k = l.length + m := ⟨k - l.length, by omega⟩
    rw [splitS_min, Nat.min_eq_right (by omega)]
  · rw [Nat.min_eq_left h]
theorem takeW_take : ∀ (l : List Nat) (o : Nat), l[o]? = some 32 → (∀ k, k < o → l[k]? ≠ some 32) → l.takeWhile (· != 32) = l.take o
  | [], o, h, _ => by simp at h
  | a :: l, 0, h, _ => by simp at h; subst h; simp
  | a :: l, o + 1, h, h2 => by
    have ha : a ≠ 32 := fun e => h2 0 (by omega) (by simp [e])
    rw [List.takeWhile_cons, if_pos (by simpa using ha), List.take_succ_cons, takeW_take l o (by simpa using h) fun k hk => by have := h2 (k + 1) (by omega); simpa using this]
theorem str_back (s : ByteArray) : (str s).map UInt8.ofNat = s.data.toList := by
  unfold str
  rw [List.map_map, show UInt8.ofNat ∘ UInt8.toNat = id from by funext x; simp, List.map_id]
theorem str_at (s : ByteArray) (k : Nat) : (str s)[k]? = some 32 ↔ s.data.toList[k]? = some 32 := by
  unfold str
  rw [List.getElem?_map]
  cases h : s.data.toList[k]? with
  | none => simp
  | some x =>
    simp only [Option.map_some, Option.some.injEq]
    constructor
    · intro e
      exact UInt8.toNat_inj.1 e
    · rintro rfl; rfl
def sepB : ByteArray := ⟨#[32]⟩
theorem indexB_sep (s : ByteArray) : Lib.indexB s sepB = Lib.indexByte s.data.toList 32 := by
  unfold Lib.indexB sepB
  exact Lib.index_one _ _
theorem splitB_str : ∀ (k : Nat) (s : ByteArray), (Lib.splitB sepB 0 k s).map str = splitS k (str s)
  | 0, s => rfl
  | k + 1, s => by
    unfold Lib.splitB splitS
    rw [indexB_sep]
    by_cases h : Lib.indexByte s.data.toList 32 = -1
    · have hno : ¬ 32 ∈ str s := fun hm => by
        obtain ⟨j, hj⟩ := List.getElem?_of_mem hm
        exact Lib.indexByte_none h j ((str_at s j).1 hj)
      rw [if_pos (by rw [h]; rfl), if_neg hno]
      rfl
    · have hge := Lib.indexByte_ge s.data.toList 32
      obtain ⟨o, ho⟩ : ∃ o : Nat, Lib.indexByte s.data.toList 32 = o := ⟨(Lib.indexByte s.data.toList 32).toNat, by omega⟩
      obtain ⟨h1, h2⟩ := Lib.indexByte_some ho
      have hs1 := (str_at s o).2 h1
      have hs2 : ∀ j, j < o → (str s)[j]? ≠ some 32 := fun j hj e => h2 j hj ((str_at s j).1 e)
      have hlt : o < (str s).length := by
        rcases Nat.lt_or_ge o (str s).length with h3 | h3
        · exact h3
        · rw [List.getElem?_eq_none h3] at hs1; cases hs1
      rw [ho, if_neg (by simp), if_pos (List.mem_of_getElem? hs1), takeW_take _ o hs1 hs2, List.map_cons, splitB_str k, str_extract, str_extract, List.length_take, Nat.min_eq_left (by omega)]
      congr 1
      congr 1
      rw [show ((o : Int).toNat + sepB.size) = o + 1 from rfl, List.take_of_length_le (by simp [str_length])]
theorem splitB_size : ∀ (k : Nat) (s : ByteArray), ∀ x ∈ Lib.splitB sepB 0 k s, x.size ≤ s.size
  | 0, s, x, hx => by simp [Lib.splitB] at hx; rw [hx]; exact Nat.le_refl _
  | k + 1, s, x, hx => by
    unfold Lib.splitB at hx
    split at hx
    · simp at hx; rw [hx]; exact Nat.le_refl _
    · rcases List.mem_cons.1 hx with rfl | hx
      · rw [ByteArray.size_extract]; omega
      · have := splitB_size k _ x hx
        rw [ByteArray.size_extract] at this
        omega
theorem splitB_len1 (k : Nat) (s : ByteArray) : 1 ≤ (Lib.splitB sepB 0 k s).length := by
  cases k with
  | zero => simp [Lib.splitB]
  | succ k => unfold Lib.splitB; split <;> simp
theorem splitB_lek : ∀ (k : Nat) (s : ByteArray), (Lib.splitB sepB 0 k s).length ≤ k + 1
  | 0, s => by simp [Lib.splitB]
  | k + 1, s => by
    unfold Lib.splitB
    split
    · simp
    · have := splitB_lek k (s.extract ((Lib.indexB s sepB).toNat + sepB.size) s.size)
      simp only [List.length_cons]
      omega
/-- The parts of a line. -/
def lineB (s : ByteArray) : List ByteArray := Lib.splitB sepB 0 (min 4 (s.size + 1) - 1) s
theorem lineB_str (s : ByteArray) : (lineB s).map str = splitS 3 (str s) := by
  unfold lineB
  rw [splitB_str, show min 4 (s.size + 1) - 1 = min 3 (str s).length by rw [str_length]; omega, splitS_len]
theorem countB_one (s : ByteArray) : Lib.countB s sepB = Lib.countByte s.data.toList 32 := by
  unfold Lib.countB Lib.countByte sepB
  exact Lib.count_one _ _
set_option maxRecDepth 100000 in
theorem split_any (w : World) (s : ByteArray) (hs : s.size < 4294967281) :
    Calls Tryz.prog 37 #[.string s, .string ⟨#[32]⟩, .int .i64 4] w fun e w' => e = .returned (.slice (some ⟨w.heap.size, 0, none⟩) (lineB s).length (min 4 (s.size + 1))) ∧ w' = w.alloc (.cells (Lib.cellsOf (lineB s) (min 4 (s.size + 1))) 9) := by
  have H := hide (Any.strings_genSplit_core Tryz.lays221 (by kernel_rfl) s sepB 0 4 (min 4 (s.size + 1)) w hs (by decide) (by omega)
    (fun x c _ => (Tryz.strings_Index_one x 32 (w.alloc (.cells c 9))).mono fun e w' ⟨he, hw⟩ => ⟨by rw [he, indexB_sep], hw⟩)
    ((Tryz.strings_Count_one s 32 w).mono fun e w' ⟨he, hw⟩ => ⟨by rw [he, countB_one], hw⟩) (by decide) (by decide) (by rw [if_neg (by decide)]; omega))
  go_enter Tryz.func37, Tryz.ntmps37
  go_wp2_with (go_at_call 58; refine (unhide H).mono ?_; rintro e w' ⟨rfl, rfl⟩)
  go_ret
  exact ⟨rfl, rfl⟩
/-- What the library's errors are. -/
structure Ve (w : World) : Prop where
  syn : ∃ tp p, w.var? Tryz.prog "strconv.ErrSyntax" = some #[.iface tp p]
  rng : ∃ tp p, w.var? Tryz.prog "strconv.ErrRange" = some #[.iface tp p]
theorem Ve.below {w w' : World} (h : Ve w) (hb : Below w.heap.size w w') : Ve w' := by
  obtain ⟨⟨t1, p1, h1⟩, ⟨t2, p2, h2⟩⟩ := h
  exact ⟨⟨t1, p1, var_on h1 hb⟩, ⟨t2, p2, var_on h2 hb⟩⟩
theorem parseu_ok (w : World) (s : ByteArray) (hs : s.size ≤ 281474976710656) (u : Nat) (h : Lib.parseUintB 64 s.data.toList = .ok u) :
    Calls Tryz.prog 59 #[.string s, .int .i64 10, .int .i64 64] w fun e w' => e = .returned (.tuple #[.int .u64 (u : Int), .nilIface]) ∧ Below w.heap.size w w' :=
  (Tryz.strconv_ParseUint_10_at64_ok s (by omega) u h w).mono fun e w' ⟨he, hw⟩ => ⟨he, by
    rcases hw with rfl | rfl
    · exact Below.refl _ _
    · exact Joins.below_bytesWorld _ w _ _ (Nat.le_refl _)⟩
theorem parseu_bad (w : World) (s : ByteArray) (hs : s.size ≤ 281474976710656) (hv : Ve w) (h : ∀ u, Lib.parseUintB 64 s.data.toList ≠ .ok u) :
    Calls Tryz.prog 59 #[.string s, .int .i64 10, .int .i64 64] w fun e w' => (∃ v t p, e = .returned (.tuple #[.int .u64 v, .iface t p])) ∧ Below w.heap.size w w' := by
  obtain ⟨⟨t1, p1, h1⟩, ⟨t2, p2, h2⟩⟩ := hv
  rcases h0 : Lib.parseUintB 64 s.data.toList with u | _ | _
  · exact absurd h0 (h u)
  · exact (Any.strconv_ParseUint_10_at64_syntax_var Tryz.laysPu14 s hs h0 t1 p1 w h1).mono fun e w' ⟨k, he, _, _, hb⟩ => ⟨⟨_, _, _, he⟩, hb⟩
  · exact (Any.strconv_ParseUint_10_at64_range_var Tryz.laysPu14 s hs h0 t2 p2 w h2).mono fun e w' ⟨k, he, _, _, hb⟩ => ⟨⟨_, _, _, he⟩, hb⟩
theorem parseN_ok {s : ByteArray} {u : Nat} (h : Lib.parseUintB 64 s.data.toList = .ok u) : parseN (str s) = u := by
  unfold parseN
  rw [str_back, h]
theorem parseN_bad {s : ByteArray} (h : ∀ u, Lib.parseUintB 64 s.data.toList ≠ .ok u) : parseN (str s) = 0 := by
  unfold parseN
  rw [str_back]
  rcases h0 : Lib.parseUintB 64 s.data.toList with u | _ | _
  · exact absurd h0 (h u)
  · rfl
  · rfl
set_option maxRecDepth 100000 in
theorem idof_any (w : World) (s : ByteArray) (hs : s.size ≤ 281474976710656) (hv : Ve w) :
    Calls Tryz.prog 40 #[.string s] w fun e w' => e = .returned (.int .u64 (parseN (str s) : Int)) ∧ Below w.heap.size w w' := by
  by_cases h : ∃ u, Lib.parseUintB 64 s.data.toList = .ok u
  · obtain ⟨u, hu⟩ := h
    rw [parseN_ok hu]
    have HP := hide (parseu_ok w s hs u hu)
    clear hu
    go_enter Tryz.func40, Tryz.ntmps40
    go_wp2_with (go_at_call 59; (with_reducible refine (unhide HP).mono ?_); rintro e w' ⟨rfl, hb⟩; have HB := Lib.hid hb; clear hb)
    go_ret
    exact ⟨rfl, HB.out⟩
  · have h2 : ∀ u, Lib.parseUintB 64 s.data.toList ≠ .ok u := fun u e => h ⟨u, e⟩
    rw [parseN_bad h2]
    have HP := hide (parseu_bad w s hs hv h2)
    clear h h2
    go_enter Tryz.func40, Tryz.ntmps40
    go_wp2_with (go_at_call 59; (with_reducible refine (unhide HP).mono ?_); rintro e w' ⟨⟨v, t, p, rfl⟩, hb⟩; have HB := Lib.hid hb; clear hb)
    go_ret
    exact ⟨rfl, HB.out⟩
def KinI (s : ByteArray) (i : Value) : Prop := ∃ j : Nat, i = .int .i64 (j : Int) ∧ j ≤ 15 ∧ ∀ n, n < j → wordK n ≠ str s
theorem kindL_miss {l : List Nat} (h : ∀ n, n < 15 → wordK n ≠ l) : kindL l = 0 := by
  unfold kindL
  rw [show (List.range 15).find? (fun k => decide (wordK k = l)) = none from List.find?_eq_none.2 fun n hn => by simpa using h n (by simpa using hn)]
  rfl
theorem word_byte15 : ∀ k, k < 15 → ∀ b ∈ wordK k, b < 256 := by decide
set_option maxRecDepth 100000 in
set_option maxHeartbeats 2000000 in
theorem index_words (W : World) (j : Nat) (hj : j < 15) : (Instr.index 76 (.agg #[.string (ba (wordK 0)), .string (ba (wordK 1)), .string (ba (wordK 2)), .string (ba (wordK 3)), .string (ba (wordK 4)), .string (ba (wordK 5)), .string (ba (wordK 6)), .string (ba (wordK 7)), .string (ba (wordK 8)), .string (ba (wordK 9)), .string (ba (wordK 10)), .string (ba (wordK 11)), .string (ba (wordK 12)), .string (ba (wordK 13)), .string (ba (wordK 14))]) (.int .i64 (j : Int))).run Tryz.prog W = .ok (.string (ba (wordK j))) W := by
  have h := Tryz.underlying76
  have c1 : Tryz.prog.cellsOf 9 = 1 := by kernel_rfl
  rcases (show j = 0 ∨ j = 1 ∨ j = 2 ∨ j = 3 ∨ j = 4 ∨ j = 5 ∨ j = 6 ∨ j = 7 ∨ j = 8 ∨ j = 9 ∨ j = 10 ∨ j = 11 ∨ j = 12 ∨ j = 13 ∨ j = 14 by omega) with rfl | rfl | rfl | rfl | rfl | rfl | rfl | rfl | rfl | rfl | rfl | rfl | rfl | rfl | rfl
  all_goals simp [Instr.index, run_underlying h, asIntOf, go_sem]
set_option maxRecDepth 100000 in
set_option maxHeartbeats 2000000 in
theorem kindof_any (w : World) (s : ByteArray) (hv : Vo w) :
    Calls Tryz.prog 39 #[.string s] w fun e w' => e = .returned (.int .u8 (kindL (str s) : Int)) ∧ w' = w := by
  have q0 := hv.wds 0 (by omega)
  have q1 := hv.wds 1 (by omega)
  have q2 := hv.wds 2 (by omega)
  have q3 := hv.wds 3 (by omega)
  have q4 := hv.wds 4 (by omega)
  have q5 := hv.wds 5 (by omega)
  have q6 := hv.wds 6 (by omega)
  have q7 := hv.wds 7 (by omega)
  have q8 := hv.wds 8 (by omega)
  have q9 := hv.wds 9 (by omega)
  have q10 := hv.wds 10 (by omega)
  have q11 := hv.wds 11 (by omega)
  have q12 := hv.wds 12 (by omega)
  have q13 := hv.wds 13 (by omega)
  have q14 := hv.wds 14 (by omega)
  go_enter Tryz.func39, Tryz.ntmps39
  go_wp2
  clear q0 q1 q2 q3 q4 q5 q6 q7 q8 q9 q10 q11 q12 q13 q14 hv
  go_loop [6] (fun i => KinI s i) (fun i => 15 - (intOf i).toNat)
  case atStart => exact ⟨0, rfl, by omega, fun n h => by omega⟩
  case round =>
    obtain ⟨j, rfl, hj, hrel⟩ := hrel
    have HREL := Lib.hid hrel
    clear hrel
    by_cases hlt : j < 15
    · have hc : decide ((j : Int) < 15) = true := decide_eq_true (by omega)
      have hidx := fun W => index_words W j hlt
      by_cases he : ba (wordK j) = s
      · have hq : ((ba (wordK j)).toList == s.toList) = true := by rw [he]; exact beq_self_eq_true _
        have HE := Lib.hid he
        have hw8 : IntKind.u8.wrap (j : Int) = (j : Int) := by rw [IntKind.wrap_u8]; omega
        clear he
        go_wp2
        go_ret
        refine ⟨?_, rfl⟩
        rw [← HE.out, str_ba (word_byte15 j hlt), kindL_word j (by omega)]
        rfl
      · have hq := toL_ne he
        have HE := Lib.hid he
        clear he
        go_wp2
        go_round
        case rel =>
          refine ⟨j + 1, by go_num, by omega, fun n hn e => ?_⟩
          rcases Nat.lt_or_ge n j with h1 | h1
          · exact HREL.out n h1 e
          · obtain rfl : n = j := by omega
            exact HE.out (by rw [e, ba_str])
        case measure => simp [intOf]; omega
    · have hc : decide ((j : Int) < 15) = false := decide_eq_false (by omega)
      go_wp2
      go_ret
      refine ⟨?_, rfl⟩
      rw [kindL_miss fun n hn => HREL.out n (by omega)]
      rfl
end Go.Proofs.YtfnobibjphnmdaaGreatDoor
namespace Go.Proofs.YtfnobibjphnmdaaGreatDoor
open Go.RowKit
set_option linter.unusedVariables false
set_option linter.unusedSimpArgs false
/-- w' is w but for block g. -/
structure OnlyB (g : Nat) (w w' : World) : Prop where
  os : w'.os = w.os
  tape : w'.tape = w.tape
  output : w'.output = w.output
  size : w'.heap.size = w.heap.size
  block : ∀ k, k ≠ g → w'.heap[k]? = w.heap[k]?
theorem OnlyB.refl (g : Nat) (w : World) : OnlyB g w w := ⟨rfl, rfl, rfl, rfl, fun _ _ => rfl⟩
theorem OnlyB.set (w : World) (g i : Nat) (v : Value) : OnlyB g w (w.setCell ⟨g, i, none⟩ v) := by
  have hb : Below g w (w.setCell ⟨g, i, none⟩ v) := (Below.refl g w).setCell (p := ⟨g, i, none⟩) (Nat.le_refl _) v
  refine ⟨hb.os, hb.tape, hb.output, ?_, fun k hk => Below.heap_setCell _ _ _ _ hk⟩
  unfold World.setCell
  simp
theorem OnlyB.below {g B : Nat} {a w w' : World} (h : OnlyB g w w') (ha : Below B a w) (hg : B ≤ g) : Below B a w' :=
  ⟨h.os.trans ha.os, h.tape.trans ha.tape, h.output.trans ha.output, by rw [h.size]; exact ha.size, fun k hk => (h.block k (by omega)).trans (ha.block k hk)⟩
/-- The parts that are left, in a box of their own. -/
def Nx (w : World) (g : Nat) (ps : List ByteArray) : Prop :=
  ∃ p o c, w.heap[g]? = some (.cells #[.slice (some ⟨p, o, none⟩) ps.length c] 57 (0, 0)) ∧ ps.length ≤ c ∧ p < g ∧ ∀ j x, ps[j]? = some x → w.cell? ⟨p, o + j, none⟩ = some (.string x)
theorem Nx.keep {w w' : World} {g : Nat} {ps : List ByteArray} (h : Nx w g ps) (hk : ∀ k, k ≤ g → w'.heap[k]? = w.heap[k]?) : Nx w' g ps := by
  obtain ⟨p, o, c, h1, h2, h3, h4⟩ := h
  refine ⟨p, o, c, (hk g (Nat.le_refl _)).trans h1, h2, h3, fun j x hx => ?_⟩
  have h5 := h4 j x hx
  unfold World.cell? at h5 ⊢
  rw [hk p (by omega)]
  exact h5
theorem Nx.lt {w : World} {g : Nat} {ps : List ByteArray} (h : Nx w g ps) : g < w.heap.size := by
  obtain ⟨p, o, c, h1, _⟩ := h
  exact lt_of_heap h1
set_option maxRecDepth 100000 in
set_option maxHeartbeats 1000000 in
theorem next_any (w : World) (g : Nat) (ps : List ByteArray) (h4 : ps.length ≤ 8) (h : Nx w g ps) :
    Calls Tryz.prog 38 #[.pointer (some ⟨g, 0, none⟩)] w fun e w' => e = .returned (.string (ps.headD ⟨#[]⟩)) ∧ Nx w' g (ps.drop 1) ∧ OnlyB g w w' := by
  obtain ⟨p, o, c, hb, hc, hp, hx⟩ := id h
  have z0 : w.cell? ⟨g, 0, none⟩ = some (.slice (some ⟨p, o, none⟩) ps.length c) := by unfold World.cell?; simp only [hb]; rfl
  have zf : w.frozen? ⟨g, 0, none⟩ = false := by unfold World.frozen?; simp only [hb]; simp
  rcases ps with _ | ⟨x, r⟩
  · have H := Lib.hid h
    clear h hb hx
    go_enter Tryz.func38, Tryz.ntmps38
    go_wp2
    go_ret
    exact ⟨rfl, H.out, OnlyB.refl _ _⟩
  · have z1 := hx 0 x rfl
    rw [Nat.add_zero] at z1
    have hpg : p ≠ g := by omega
    have HX := Lib.hid hx
    have HB := Lib.hid hb
    have HC := Lib.hid hc
    obtain ⟨n, hn⟩ : ∃ n, n = (x :: r).length := ⟨_, rfl⟩
    rw [← hn] at z0 hc h4
    have hn1 : 1 ≤ n := by rw [hn]; simp
    have hq : ((n : Int) == 0) = false := by rw [beq_eq_false_iff_ne]; omega
    have HN := Lib.hid hn
    clear h hb hx hn
    by_cases hc1 : c = 1
    · subst hc1
      obtain rfl : n = 1 := by omega
      go_enter Tryz.func38, Tryz.ntmps38
      go_wp2
      go_ret
      obtain rfl : r = [] := List.length_eq_zero_iff.1 (by have := HN.out; simp only [List.length_cons] at this; omega)
      exact ⟨rfl, ⟨p, o, 0, one_setCell HB.out, Nat.le_refl _, hp, fun j y hy => by simp at hy⟩, OnlyB.set _ _ _ _⟩
    · go_enter Tryz.func38, Tryz.ntmps38
      go_wp2
      go_ret
      refine ⟨rfl, ⟨p, o + 1, c - 1, ?_, ?_, hp, fun j y hy => ?_⟩, OnlyB.set _ _ _ _⟩
      · rw [one_setCell HB.out, show (List.drop 1 (x :: r)).length = n - 1 by have := HN.out; simp only [List.length_cons, List.drop_succ_cons, List.drop_zero] at this ⊢; omega]
      · have := HN.out
        have := HC.out
        simp only [List.length_cons, List.drop_succ_cons, List.drop_zero] at *
        omega
      · have h5 := HX.out (j + 1) y (by simpa using hy)
        rw [show o + 1 + j = o + (j + 1) by omega]
        unfold World.cell? at h5 ⊢
        rw [Below.heap_setCell _ _ _ _ (by show p ≠ g; omega)]
        exact h5
end Go.Proofs.YtfnobibjphnmdaaGreatDoor
namespace Go.Proofs.YtfnobibjphnmdaaGreatDoor
open Go.RowKit
set_option linter.unusedVariables false
set_option linter.unusedSimpArgs false
theorem rOpSize : (Tryz.prog.info? 32).map (·.size) = some 4 := by kernel_rfl
theorem opSize : (Tryz.prog.info? 25).map (·.size) = some 4 := by kernel_rfl
theorem op_results_one {fn : Func} {p : Tmp} {ty : TypeId} (h : fn.results = #[.cell p ty]) (tmps : Array Value) (P : Program) (w : World) :
    (results fn tmps).run P w = ((asAddr (tmps.getD p undef)).run P w).andThen fun a w₁ => (loadVar ty a).run P w₁ := by
  simp only [results, h]
  simp [Sem.run_bind, Result.andThen]
theorem op_results_two {fn : Func} {p u : Tmp} {ty : TypeId} (h : fn.results = #[.cell p ty, .tmp u]) (tmps : Array Value) (P : Program) (w : World) :
    (results fn tmps).run P w = ((asAddr (tmps.getD p undef)).run P w).andThen fun a w₁ => ((loadVar ty a).run P w₁).andThen fun x w₂ => .ok (.tuple #[x, tmps.getD u undef]) w₂ := by
  simp only [results, h]
  simp [Sem.run_bind, Result.andThen]
theorem rop_ret {fn : Func} {p : Tmp} {a : Act} {w : World} {R : Ending → World → Prop} {g : Nat} {cs : Array Value} (hf : fn.results = #[.cell p 32]) (hd : a.defers = []) (h2 : a.tmps.getD p undef = .pointer (some ⟨g, 0, none⟩))
    (hg : w.heap[g]? = some (.cells cs 32 (0, 0))) (hs : cs.size = 4) (hR : R (.returned (.agg cs)) w) : bodyPost Tryz.prog fn R .ret a w := by
  refine bodyPost_ret_by (v := .agg cs) ?_ hd hR
  have hl := run_loadVar_row (P := Tryz.prog) w g 32 32 cs (0, 0) _ hg Tryz.underlying32 rfl (by rw [rOpSize, hs])
  rw [op_results_one hf, h2]
  simp [asAddr, Result.andThen, hl]
theorem op_ret2 {fn : Func} {p u : Tmp} {a : Act} {w : World} {R : Ending → World → Prop} {g : Nat} {cs : Array Value} {v : Value} (hf : fn.results = #[.cell p 25, .tmp u]) (hd : a.defers = []) (h2 : a.tmps.getD p undef = .pointer (some ⟨g, 0, none⟩)) (h3 : a.tmps.getD u undef = v)
    (hg : w.heap[g]? = some (.cells cs 25 (0, 0))) (hs : cs.size = 4) (hR : R (.returned (.tuple #[.agg cs, v])) w) : bodyPost Tryz.prog fn R .ret a w := by
  refine bodyPost_ret_by (v := .tuple #[.agg cs, v]) ?_ hd hR
  have hl := run_loadVar_row (P := Tryz.prog) w g 25 25 cs (0, 0) _ hg Tryz.underlying25 rfl (by rw [opSize, hs])
  rw [op_results_two hf, h2, h3]
  simp [asAddr, Result.andThen, hl]
set_option maxRecDepth 100000 in
set_option maxHeartbeats 4000000 in
theorem own_any (w : World) (k a b : Nat) (s : ByteArray) :
    Calls Tryz.prog 8 #[opV k a b s] w fun e w' => e = .returned (opV k a b s) ∧ Below w.heap.size w w' := by
  unfold opV
  go_enter Tryz.func8, Tryz.ntmps8
  go_wp2
  refine rop_ret (p := 2) (g := w.heap.size + 1) (cs := #[.int .u8 (k : Int), .int .u64 (a : Int), .int .u64 (b : Int), .string s]) rfl rfl rfl ?_ rfl ?_
  · show ((w.heap.push _).push _)[_]? = _
    rw [Array.getElem?_push, if_pos (by simp)]
  · exact ⟨rfl, ((Below.refl _ _).alloc (Nat.le_refl _) _).alloc (by simp) _⟩
/-- Are two operations equal? -/
def opEq (k a b : Nat) (s : ByteArray) (k2 a2 b2 : Nat) (s2 : ByteArray) : Bool := decide (k = k2) && decide (a = a2) && decide (b = b2) && (s.toList == s2.toList)
set_option maxRecDepth 100000 in
set_option maxHeartbeats 4000000 in
theorem eql_op (W : World) (k a b : Nat) (s : ByteArray) (k2 a2 b2 : Nat) (s2 : ByteArray) :
    (binOp .eql 25 (opV k a b s) (opV k2 a2 b2 s2)).run Tryz.prog W = .ok (.bool (opEq k a b s k2 a2 b2 s2)) W := by
  unfold opV opEq
  have i1 : ∀ x y : Nat, ((x : Int) == (y : Int)) = decide (x = y) := fun x y => by
    rw [Bool.beq_eq_decide_eq]
    exact decide_eq_decide.2 (by omega)
  rcases h1 : decide (k = k2) with _ | _
  · have e1 : ((k : Int) == (k2 : Int)) = false := by rw [i1, h1]
    go_simp
  · have e1 : ((k : Int) == (k2 : Int)) = true := by rw [i1, h1]
    rcases h2 : decide (a = a2) with _ | _
    · have e2 : ((a : Int) == (a2 : Int)) = false := by rw [i1, h2]
      go_simp
    · have e2 : ((a : Int) == (a2 : Int)) = true := by rw [i1, h2]
      rcases h3 : decide (b = b2) with _ | _
      · have e3 : ((b : Int) == (b2 : Int)) = false := by rw [i1, h3]
        go_simp
      · have e3 : ((b : Int) == (b2 : Int)) = true := by rw [i1, h3]
        rcases h4 : (s.toList == s2.toList) with _ | _
        · go_simp
        · go_simp
theorem opEq_iff {k a b : Nat} {s : ByteArray} {k2 a2 b2 : Nat} {s2 : ByteArray} : opEq k a b s k2 a2 b2 s2 = true ↔ k = k2 ∧ a = a2 ∧ b = b2 ∧ s = s2 := by
  unfold opEq
  simp only [Bool.and_eq_true, decide_eq_true_eq]
  constructor
  · rintro ⟨⟨⟨h1, h2⟩, h3⟩, h4⟩
    refine ⟨h1, h2, h3, ?_⟩
    by_cases h : s = s2
    · exact h
    · rw [toL_ne h] at h4; cases h4
  · rintro ⟨rfl, rfl, rfl, rfl⟩
    exact ⟨⟨⟨rfl, rfl⟩, rfl⟩, beq_self_eq_true _⟩
end Go.Proofs.YtfnobibjphnmdaaGreatDoor
namespace Go.Proofs.YtfnobibjphnmdaaGreatDoor
open Go.RowKit
set_option linter.unusedVariables false
set_option linter.unusedSimpArgs false
/-- An operation in a box. -/
def OB (w : World) (g k a b : Nat) (s : ByteArray) : Prop := w.heap[g]? = some (.cells #[.int .u8 (k : Int), .int .u64 (a : Int), .int .u64 (b : Int), .string s] 25 (0, 0))
theorem OB.cells {w : World} {g k a b : Nat} {s : ByteArray} (h : OB w g k a b s) :
    w.cell? ⟨g, 0, none⟩ = some (.int .u8 (k : Int)) ∧ w.cell? ⟨g, 1, none⟩ = some (.int .u64 (a : Int)) ∧ w.cell? ⟨g, 2, none⟩ = some (.int .u64 (b : Int)) ∧ w.cell? ⟨g, 3, none⟩ = some (.string s) ∧
    w.frozen? ⟨g, 0, none⟩ = false ∧ w.frozen? ⟨g, 1, none⟩ = false ∧ w.frozen? ⟨g, 2, none⟩ = false ∧ w.frozen? ⟨g, 3, none⟩ = false := by
  unfold OB at h
  refine ⟨?_, ?_, ?_, ?_, ?_, ?_, ?_, ?_⟩ <;> first | (unfold World.cell?; simp only [h]; rfl) | (unfold World.frozen?; simp only [h]; simp)
theorem op_set {w : World} {g i : Nat} {v : Value} {cs : Array Value} (h : w.heap[g]? = some (.cells cs 25 (0, 0))) : (w.setCell ⟨g, i, none⟩ v).heap[g]? = some (.cells (cs.setIfInBounds i v) 25 (0, 0)) := by
  have hl : g < w.heap.size := lt_of_heap h
  unfold World.setCell
  simp only [Array.getElem?_modify, h]
  simp
theorem joinR_byte : ∀ xs : List (List Nat), (∀ x ∈ xs, ∀ b ∈ x, b < 256) → ∀ b ∈ joinT xs, b < 256
  | [], _, b, hb => by simp [joinT] at hb
  | [x], h, b, hb => h x (by simp) b hb
  | x :: y :: r, h, b, hb => by
    have hb2 : b ∈ x ++ 32 :: joinT (y :: r) := hb
    rcases List.mem_append.1 hb2 with h1 | h1
    · exact h x (by simp) b h1
    · rcases List.mem_cons.1 h1 with rfl | h1
      · omega
      · exact joinR_byte (y :: r) (fun z hz => h z (List.mem_cons_of_mem _ hz)) b h1
theorem textO_byte {k a b : Nat} {s : ByteArray} (h : rightO k a b (str s) = true) : ∀ x ∈ textO k a b (str s), x < 256 := fun x hx => by
  have hk := rightO_kind h
  have hp : ∀ p ∈ partsO k a b (str s), ∀ y ∈ p, y < 256 := by
    intro p hp y hy
    unfold partsO optL at hp
    rcases List.mem_cons.1 hp with rfl | hp
    · exact word_byte k hk.2 y hy
    · rcases List.mem_append.1 hp with hp | hp
      · rcases List.mem_append.1 hp with hp | hp
        · split at hp
          · simp at hp; subst hp; exact decL_byte a y hy
          · simp at hp
        · split at hp
          · simp at hp; subst hp; exact decL_byte b y hy
          · simp at hp
      · split at hp
        · simp at hp; subst hp; exact str_small s y hy
        · simp at hp
  exact joinR_byte _ hp x hx
/-- All that Read carries along. -/
structure St (w0 W : World) (g g2 : Nat) (ps : List ByteArray) (k a b : Nat) (s : ByteArray) : Prop where
  nx : Nx W g ps
  ob : OB W g2 k a b s
  r0 : OB W w0.heap.size 0 0 0 ⟨#[]⟩
  bel : Below w0.heap.size w0 W
  lt : g < g2
  rl : w0.heap.size < g
structure St0 (w0 W : World) (g : Nat) (ps : List ByteArray) : Prop where
  nx : Nx W g ps
  r0 : OB W w0.heap.size 0 0 0 ⟨#[]⟩
  bel : Below w0.heap.size w0 W
  rl : w0.heap.size < g
theorem St0.next {w0 W W' : World} {g : Nat} {ps qs : List ByteArray} (h : St0 w0 W g ps) (hn : Nx W' g qs) (ho : OnlyB g W W') : St0 w0 W' g qs :=
  ⟨hn, (ho.block _ (by have := h.rl; omega)).trans h.r0, ho.below h.bel (by have := h.rl; omega), h.rl⟩
theorem St0.box {w0 W : World} {g : Nat} {ps : List ByteArray} (h : St0 w0 W g ps) (k : Nat) : St w0 (W.alloc (.cells #[.int .u8 (k : Int), .int .u64 0, .int .u64 0, .string ⟨#[]⟩] 25)) g W.heap.size ps k 0 0 ⟨#[]⟩ := by
  have hl := h.nx.lt
  have hk : ∀ j, j < W.heap.size → (W.alloc (.cells #[.int .u8 (k : Int), .int .u64 0, .int .u64 0, .string ⟨#[]⟩] 25)).heap[j]? = W.heap[j]? := fun j hj => Below.heap_alloc _ _ _ hj
  exact ⟨h.nx.keep fun j hj => hk j (by omega), by show (W.heap.push _)[_]? = _; simp, (hk _ (by have := h.rl; omega)).trans h.r0, h.bel.alloc h.bel.size _, hl, h.rl⟩
theorem St.next {w0 W W' : World} {g g2 : Nat} {ps qs : List ByteArray} {k a b : Nat} {s : ByteArray} (h : St w0 W g g2 ps k a b s) (hn : Nx W' g qs) (ho : OnlyB g W W') : St w0 W' g g2 qs k a b s :=
  ⟨hn, (ho.block _ (by have := h.lt; omega)).trans h.ob, (ho.block _ (by have := h.rl; omega)).trans h.r0, ho.below h.bel (by have := h.rl; omega), h.lt, h.rl⟩
theorem St.below {w0 W W' : World} {g g2 : Nat} {ps : List ByteArray} {k a b : Nat} {s : ByteArray} (h : St w0 W g g2 ps k a b s) (hb : Below W.heap.size W W') : St w0 W' g g2 ps k a b s := by
  have hl := lt_of_heap h.ob
  have h1 := h.lt
  have h2 := h.rl
  exact ⟨h.nx.keep fun j hj => hb.block j (by omega), (hb.block _ hl).trans h.ob, (hb.block _ (by omega)).trans h.r0, ridec hb h.bel, h.lt, h.rl⟩
theorem St.ne {w0 W : World} {g g2 : Nat} {ps : List ByteArray} {k a b : Nat} {s : ByteArray} (h : St w0 W g g2 ps k a b s) : w0.heap.size ≠ g2 ∧ g2 ≠ w0.heap.size := by
  have h1 := h.lt
  have h2 := h.rl
  omega
theorem St.drew {w0 W : World} {g g2 : Nat} {ps : List ByteArray} {k a b : Nat} {s : ByteArray} (h : St w0 W g g2 ps k a b s) : St w0 W.drew g g2 ps k a b s := h.below (Below.refl _ W).drew
theorem St.setA {w0 W : World} {g g2 : Nat} {ps : List ByteArray} {k a b : Nat} {s : ByteArray} (h : St w0 W g g2 ps k a b s) (a' : Nat) : St w0 (W.setCell ⟨g2, 1, none⟩ (.int .u64 (a' : Int))) g g2 ps k a' b s := by
  have h1 := h.lt
  have h2 := h.rl
  exact ⟨h.nx.keep fun j hj => Below.heap_setCell _ _ _ _ (by show j ≠ g2; omega), op_set h.ob, (Below.heap_setCell _ _ _ _ (by show w0.heap.size ≠ g2; omega)).trans h.r0, h.bel.setCell (p := ⟨g2, 1, none⟩) (by show w0.heap.size ≤ g2; omega) _, h.lt, h.rl⟩
theorem St.setB {w0 W : World} {g g2 : Nat} {ps : List ByteArray} {k a b : Nat} {s : ByteArray} (h : St w0 W g g2 ps k a b s) (b' : Nat) : St w0 (W.setCell ⟨g2, 2, none⟩ (.int .u64 (b' : Int))) g g2 ps k a b' s := by
  have h1 := h.lt
  have h2 := h.rl
  exact ⟨h.nx.keep fun j hj => Below.heap_setCell _ _ _ _ (by show j ≠ g2; omega), op_set h.ob, (Below.heap_setCell _ _ _ _ (by show w0.heap.size ≠ g2; omega)).trans h.r0, h.bel.setCell (p := ⟨g2, 2, none⟩) (by show w0.heap.size ≤ g2; omega) _, h.lt, h.rl⟩
theorem St.setN {w0 W : World} {g g2 : Nat} {ps : List ByteArray} {k a b : Nat} {s : ByteArray} (h : St w0 W g g2 ps k a b s) (s' : ByteArray) : St w0 (W.setCell ⟨g2, 3, none⟩ (.string s')) g g2 ps k a b s' := by
  have h1 := h.lt
  have h2 := h.rl
  exact ⟨h.nx.keep fun j hj => Below.heap_setCell _ _ _ _ (by show j ≠ g2; omega), op_set h.ob, (Below.heap_setCell _ _ _ _ (by show w0.heap.size ≠ g2; omega)).trans h.r0, h.bel.setCell (p := ⟨g2, 3, none⟩) (by show w0.heap.size ≤ g2; omega) _, h.lt, h.rl⟩
/-- An operation stored whole. -/
theorem op_put {w : World} {g : Nat} {u0 u1 u2 u3 v0 v1 v2 v3 : Value} (h : w.heap[g]? = some (.cells #[u0, u1, u2, u3] 25 (0, 0))) :
    ((((w.setCell ⟨g, 0, none⟩ v0).setCell ⟨g, 1, none⟩ v1).setCell ⟨g, 2, none⟩ v2).setCell ⟨g, 3, none⟩ v3).heap[g]? = some (.cells #[v0, v1, v2, v3] 25 (0, 0)) := by
  rw [op_set (op_set (op_set (op_set h)))]
  rfl
theorem below_put {a w : World} {B g : Nat} {v0 v1 v2 v3 : Value} (h : Below B a w) (hg : B ≤ g) : Below B a ((((w.setCell ⟨g, 0, none⟩ v0).setCell ⟨g, 1, none⟩ v1).setCell ⟨g, 2, none⟩ v2).setCell ⟨g, 3, none⟩ v3) :=
  (((h.setCell (p := ⟨g, 0, none⟩) hg _).setCell (p := ⟨g, 1, none⟩) hg _).setCell (p := ⟨g, 2, none⟩) hg _).setCell (p := ⟨g, 3, none⟩) hg _
/-- What Read answers where its parts say this operation. -/
def ReadR (w : World) (line : ByteArray) (k a b : Nat) (s : ByteArray) (e : Ending) (w' : World) : Prop :=
  Below w.heap.size w w' ∧ (rightO k a b (str s) = true ∧ textO k a b (str s) = str line ∧ e = .returned (.tuple #[opV k a b s, .int .i64 0]) ∨ ¬ (rightO k a b (str s) = true ∧ textO k a b (str s) = str line) ∧ e = .returned (.tuple #[opV 0 0 0 ⟨#[]⟩, .int .i64 20]))
theorem parts_new (w : World) (ps : List ByteArray) (N : Nat) (hN : ps.length ≤ N) :
    St0 w (((w.alloc (.cells #[.int .u8 0, .int .u64 0, .int .u64 0, .string ⟨#[]⟩] 25)).alloc (.cells (Lib.cellsOf ps N) 9)).alloc (.cells #[.slice (some ⟨w.heap.size + 1, 0, none⟩) ps.length N] 57)) (w.heap.size + 1 + 1) ps := by
  have h0 : (((w.alloc (.cells #[.int .u8 0, .int .u64 0, .int .u64 0, .string ⟨#[]⟩] 25)).alloc (.cells (Lib.cellsOf ps N) 9)).alloc (.cells #[.slice (some ⟨w.heap.size + 1, 0, none⟩) ps.length N] 57)).heap = ((w.heap.push (.cells #[.int .u8 0, .int .u64 0, .int .u64 0, .string ⟨#[]⟩] 25)).push (.cells (Lib.cellsOf ps N) 9)).push (.cells #[.slice (some ⟨w.heap.size + 1, 0, none⟩) ps.length N] 57) := rfl
  refine ⟨⟨w.heap.size + 1, 0, N, ?_, hN, by omega, fun j x hx => ?_⟩, ?_, ?_, by omega⟩
  · rw [h0, Array.getElem?_push, if_pos (by simp)]
  · have hj : j < ps.length := by
      rcases Nat.lt_or_ge j ps.length with h1 | h1
      · exact h1
      · rw [List.getElem?_eq_none h1] at hx; cases hx
    unfold World.cell?
    rw [h0, Array.getElem?_push, if_neg (by simp), Array.getElem?_push, if_pos (by simp)]
    simp only [Nat.zero_add, Lib.cellsOf, List.getElem?_toArray, Option.isSome_none, Bool.false_eq_true, if_false]
    rw [List.getElem?_append_left (by simpa using hj), List.getElem?_map, hx]
    rfl
  · unfold OB
    rw [h0, Array.getElem?_push, if_neg (by simp; omega), Array.getElem?_push, if_neg (by simp), Array.getElem?_push, if_pos rfl]
    rfl
  · exact (((Below.refl _ _).alloc (Nat.le_refl _) _).alloc (by simp) _).alloc (by simp; omega) _
set_option maxRecDepth 100000 in
set_option maxHeartbeats 4000000 in
theorem read_0x (w : World) (line : ByteArray) (ps : List ByteArray) (NN K PA PB : Nat) (S : ByteArray) (hps : ps = lineB line) (hNN : NN = min 4 (line.size + 1)) (hline : line.size ≤ 1000000) (hv : Vo w) (he : Ve w) (hK14 : K ≤ 14)
    (hK : kindL (str (ps.headD ⟨#[]⟩)) = K) (hA : aK K = true) (hB : bK K = false) (hN : nK K = true)
    (hPA : parseN (str ((ps.drop 1).headD ⟨#[]⟩)) = PA) (hPB : PB = 0)
    (hS : ((ps.drop 1).drop 1).headD ⟨#[]⟩ = S) (hPAl : PA < 18446744073709551616) (hPBl : PB < 18446744073709551616) (hSz : S.size ≤ 1000000)
    (hr : rightO K PA PB (str S) = false) :
    Calls Tryz.prog 13 #[.string line] w (ReadR w line K PA PB S) := by
  have HS := fun (x : World) => hide (split_any x line (by omega))
  have hl4 : ps.length ≤ 4 := by rw [hps]; exact Nat.le_trans (splitB_lek _ _) (by omega)
  have hlN : ps.length ≤ NN := by rw [hps, hNN]; exact Nat.le_trans (splitB_lek _ _) (by omega)
  have hall : ∀ x ∈ ps, x.size ≤ 1000000 := fun x hx => Nat.le_trans (splitB_size _ _ x (by rw [hps] at hx; exact hx)) hline
  have hhd : ∀ l : List ByteArray, (∀ x ∈ l, x ∈ ps) → (l.headD ⟨#[]⟩).size ≤ 1000000 := fun l h => by
    rcases l with _ | ⟨x, r⟩
    · show (0 : Nat) ≤ _; omega
    · exact hall x (h x (by simp))
  rw [← hps, ← hNN] at HS
  have HNEW := Lib.hid (parts_new w ps NN hlN)
  obtain ⟨m, hm⟩ : ∃ m, ps.length = m := ⟨_, rfl⟩
  rw [hm] at HS HNEW
  have hK256 : K < 256 := by omega
  have HKO := fun (x : World) (h : Below w.heap.size w x) => hide (kindof_any x (ps.headD ⟨#[]⟩) (hv.below h))
  rw [hK] at HKO
  have HA := fun (x : World) => hide (hasA_any x K hK256)
  have HB := fun (x : World) => hide (hasB_any x K hK256)
  have HN := fun (x : World) => hide (hasN_any x K hK256)
  rw [hA] at HA
  rw [hB] at HB
  rw [hN] at HN
  have HN0 := fun (x : World) (g : Nat) (h : Nx x g ps) => hide (next_any x g ps (by omega) h)
  have HN1 := fun (x : World) (g : Nat) (h : Nx x g (ps.drop 1)) => hide (next_any x g (ps.drop 1) (by rw [List.length_drop]; omega) h)
  have HN2 := fun (x : World) (g : Nat) (h : Nx x g ((ps.drop 1).drop 1)) => hide (next_any x g ((ps.drop 1).drop 1) (by rw [List.length_drop, List.length_drop]; omega) h)
  have HN3 := fun (x : World) (g : Nat) (h : Nx x g (((ps.drop 1).drop 1).drop 1)) => hide (next_any x g (((ps.drop 1).drop 1).drop 1) (by rw [List.length_drop, List.length_drop, List.length_drop]; omega) h)
  have HI1 := fun (x : World) (h : Below w.heap.size w x) => hide (idof_any x ((ps.drop 1).headD ⟨#[]⟩) (Nat.le_trans (hhd _ fun y hy => List.mem_of_mem_drop hy) (by omega)) (he.below h))
  have HI2 := fun (x : World) (h : Below w.heap.size w x) => hide (idof_any x (((ps.drop 1).drop 1).headD ⟨#[]⟩) (Nat.le_trans (hhd _ fun y hy => List.mem_of_mem_drop (List.mem_of_mem_drop hy)) (by omega)) (he.below h))
  obtain ⟨q0, hq0⟩ : ∃ q, ps.headD ⟨#[]⟩ = q := ⟨_, rfl⟩
  rw [hq0] at HN0 HKO
  obtain ⟨q1, hq1⟩ : ∃ q, (ps.drop 1).headD ⟨#[]⟩ = q := ⟨_, rfl⟩
  rw [hq1] at HN1 HI1
  rw [show parseN (str q1) = PA by rw [← hq1]; exact hPA] at HI1
  subst hPB
  rw [show ((ps.drop 1).drop 1).headD ⟨#[]⟩ = S from hS] at HN2
  have HRT := fun (x : World) (h : Below w.heap.size w x) => hide (right_any x K PA 0 S hK256 (Nat.le_trans hSz (by omega)) (hv.below h))
  rw [hr] at HRT
  have HFIN := Lib.hid (show ¬ (rightO K PA 0 (str S) = true ∧ textO K PA 0 (str S) = str line) from fun h => by rw [hr] at h; exact absurd h.1 (by decide))
  unfold opV at HRT
  rw [show ((0 : Nat) : Int) = 0 from rfl] at HRT
  clear hq0 hq1 hps hNN hK hA hB hN hhd hall hl4 hlN hm hPA hS hr hv he hK14 hPAl hPBl hSz hline hK256
  go_enter Tryz.func13, Tryz.ntmps13
  go_wp2_with (go_at_call 37; (with_reducible refine (unhide (HS _)).mono ?_); rintro e w1 ⟨rfl, rfl⟩)
  have hst0 := HNEW.out
  obtain ⟨g, hg⟩ : ∃ g, g = w.heap.size + 1 + 1 := ⟨_, rfl⟩
  rw [← hg] at hst0 ⊢
  obtain ⟨W0, hW0⟩ : ∃ W0, W0 = ((w.alloc (.cells #[.int .u8 0, .int .u64 0, .int .u64 0, .string ⟨#[]⟩] 25)).alloc (.cells (Lib.cellsOf ps NN) 9)).alloc (.cells #[.slice (some ⟨w.heap.size + 1, 0, none⟩) m NN] 57) := ⟨_, rfl⟩
  rw [← hW0] at hst0 ⊢
  clear hg hW0
  refine (unhide (HN0 _ _ hst0.nx)).mono ?_
  rintro e W1 ⟨rfl, hn1, ho1⟩
  have HST := Lib.hid (hst0.next hn1 ho1)
  clear hst0 hn1 ho1
  go_wp2_with (first
    | (go_at_call 39; (with_reducible refine (unhide (HKO _ (HST.out.bel))).mono ?_); rintro e w9 ⟨rfl, hw⟩; rw [hw]; clear hw w9)
    | (go_at_call 24; (with_reducible refine (unhide (HA _)).mono ?_); rintro e w9 ⟨rfl, hw⟩; rw [hw]; clear hw w9)
    | (go_at_call 25; (with_reducible refine (unhide (HB _)).mono ?_); rintro e w9 ⟨rfl, hw⟩; rw [hw]; clear hw w9)
    | (go_at_call 22; (with_reducible refine (unhide (HN _)).mono ?_); rintro e w9 ⟨rfl, hw⟩; rw [hw]; clear hw w9))
  have hst := HST.out.box K
  obtain ⟨g2, hg2⟩ : ∃ g2, g2 = W1.heap.size := ⟨_, rfl⟩
  rw [← hg2] at hst ⊢
  obtain ⟨W, hW⟩ : ∃ W, W = W1.alloc (.cells #[.int .u8 (K : Int), .int .u64 0, .int .u64 0, .string ⟨#[]⟩] 25) := ⟨_, rfl⟩
  rw [← hW] at hst ⊢
  clear hg2 hW HST
  refine (unhide (HN1 _ _ hst.nx)).mono ?_
  rintro e V1 ⟨rfl, hn, ho⟩
  have hst := hst.next hn ho
  clear hn ho
  go_wp2_with (first
    | (go_at_call 40; (with_reducible refine (unhide (HI1 _ hst.bel)).mono ?_); rintro e U1 ⟨rfl, hb⟩; go_loud (
       have hst := hst.below hb;
       obtain ⟨hne1, hne2⟩ := hst.ne;
       obtain ⟨z0, z1, z2, z3, f0, f1, f2, f3⟩ := hst.ob.cells;
       obtain ⟨y0, y1, y2, y3, x0, x1, x2, x3⟩ := hst.r0.cells;
       clear hb))
    | (go_at_call 24; (with_reducible refine (unhide (HA _)).mono ?_); rintro e w9 ⟨rfl, hw⟩; rw [hw]; clear hw w9)
    | (go_at_call 25; (with_reducible refine (unhide (HB _)).mono ?_); rintro e w9 ⟨rfl, hw⟩; rw [hw]; clear hw w9)
    | (go_at_call 22; (with_reducible refine (unhide (HN _)).mono ?_); rintro e w9 ⟨rfl, hw⟩; rw [hw]; clear hw w9))
  have hst := hst.setA PA
  obtain ⟨X1, hX⟩ : ∃ X, X = U1.setCell ⟨g2, 1, none⟩ (.int .u64 (PA : Int)) := ⟨_, rfl⟩
  rw [← hX] at hst ⊢
  clear hX z0 z1 z2 z3 f0 f1 f2 f3 y0 y1 y2 y3 x0 x1 x2 x3
  refine (unhide (HN2 _ _ hst.nx)).mono ?_
  rintro e V2 ⟨rfl, hn, ho⟩
  have hst := hst.next hn ho
  clear hn ho
  obtain ⟨z0, z1, z2, z3, f0, f1, f2, f3⟩ := hst.ob.cells
  obtain ⟨y0, y1, y2, y3, x0, x1, x2, x3⟩ := hst.r0.cells
  go_wp2_with (first
    | (go_at_call 24; (with_reducible refine (unhide (HA _)).mono ?_); rintro e w9 ⟨rfl, hw⟩; rw [hw]; clear hw w9)
    | (go_at_call 25; (with_reducible refine (unhide (HB _)).mono ?_); rintro e w9 ⟨rfl, hw⟩; rw [hw]; clear hw w9)
    | (go_at_call 22; (with_reducible refine (unhide (HN _)).mono ?_); rintro e w9 ⟨rfl, hw⟩; rw [hw]; clear hw w9)
    | (go_at_call 9; (with_reducible refine (unhide (HRT _ (hst.setN S).bel)).mono ?_); rintro e R1 ⟨rfl, hb⟩; go_loud (
       have hst := (hst.setN S).below hb;
       obtain ⟨hne1, hne2⟩ := hst.ne;
       obtain ⟨z0, z1, z2, z3, f0, f1, f2, f3⟩ := hst.ob.cells;
       obtain ⟨y0, y1, y2, y3, x0, x1, x2, x3⟩ := hst.r0.cells;
       clear hb)))
  refine op_ret2 (p := 2) (u := 3) (g := w.heap.size) (cs := #[.int .u8 0, .int .u64 0, .int .u64 0, .string ⟨#[]⟩]) rfl rfl rfl rfl (op_put hst.r0) rfl ?_
  exact ⟨below_put hst.bel (Nat.le_refl _), .inr ⟨HFIN.out, rfl⟩⟩
set_option maxRecDepth 100000 in
set_option maxHeartbeats 4000000 in
theorem read_0y (w : World) (line : ByteArray) (ps : List ByteArray) (NN K PA PB : Nat) (S : ByteArray) (hps : ps = lineB line) (hNN : NN = min 4 (line.size + 1)) (hline : line.size ≤ 1000000) (hv : Vo w) (he : Ve w) (hK14 : K ≤ 14)
    (hK : kindL (str (ps.headD ⟨#[]⟩)) = K) (hA : aK K = true) (hB : bK K = false) (hN : nK K = true)
    (hPA : parseN (str ((ps.drop 1).headD ⟨#[]⟩)) = PA) (hPB : PB = 0)
    (hS : ((ps.drop 1).drop 1).headD ⟨#[]⟩ = S) (hPAl : PA < 18446744073709551616) (hPBl : PB < 18446744073709551616) (hSz : S.size ≤ 1000000)
    (hr : rightO K PA PB (str S) = true) (ht : textO K PA PB (str S) = str line) :
    Calls Tryz.prog 13 #[.string line] w (ReadR w line K PA PB S) := by
  have HS := fun (x : World) => hide (split_any x line (by omega))
  have hl4 : ps.length ≤ 4 := by rw [hps]; exact Nat.le_trans (splitB_lek _ _) (by omega)
  have hlN : ps.length ≤ NN := by rw [hps, hNN]; exact Nat.le_trans (splitB_lek _ _) (by omega)
  have hall : ∀ x ∈ ps, x.size ≤ 1000000 := fun x hx => Nat.le_trans (splitB_size _ _ x (by rw [hps] at hx; exact hx)) hline
  have hhd : ∀ l : List ByteArray, (∀ x ∈ l, x ∈ ps) → (l.headD ⟨#[]⟩).size ≤ 1000000 := fun l h => by
    rcases l with _ | ⟨x, r⟩
    · show (0 : Nat) ≤ _; omega
    · exact hall x (h x (by simp))
  rw [← hps, ← hNN] at HS
  have HNEW := Lib.hid (parts_new w ps NN hlN)
  obtain ⟨m, hm⟩ : ∃ m, ps.length = m := ⟨_, rfl⟩
  rw [hm] at HS HNEW
  have hK256 : K < 256 := by omega
  have HKO := fun (x : World) (h : Below w.heap.size w x) => hide (kindof_any x (ps.headD ⟨#[]⟩) (hv.below h))
  rw [hK] at HKO
  have HA := fun (x : World) => hide (hasA_any x K hK256)
  have HB := fun (x : World) => hide (hasB_any x K hK256)
  have HN := fun (x : World) => hide (hasN_any x K hK256)
  rw [hA] at HA
  rw [hB] at HB
  rw [hN] at HN
  have HN0 := fun (x : World) (g : Nat) (h : Nx x g ps) => hide (next_any x g ps (by omega) h)
  have HN1 := fun (x : World) (g : Nat) (h : Nx x g (ps.drop 1)) => hide (next_any x g (ps.drop 1) (by rw [List.length_drop]; omega) h)
  have HN2 := fun (x : World) (g : Nat) (h : Nx x g ((ps.drop 1).drop 1)) => hide (next_any x g ((ps.drop 1).drop 1) (by rw [List.length_drop, List.length_drop]; omega) h)
  have HN3 := fun (x : World) (g : Nat) (h : Nx x g (((ps.drop 1).drop 1).drop 1)) => hide (next_any x g (((ps.drop 1).drop 1).drop 1) (by rw [List.length_drop, List.length_drop, List.length_drop]; omega) h)
  have HI1 := fun (x : World) (h : Below w.heap.size w x) => hide (idof_any x ((ps.drop 1).headD ⟨#[]⟩) (Nat.le_trans (hhd _ fun y hy => List.mem_of_mem_drop hy) (by omega)) (he.below h))
  have HI2 := fun (x : World) (h : Below w.heap.size w x) => hide (idof_any x (((ps.drop 1).drop 1).headD ⟨#[]⟩) (Nat.le_trans (hhd _ fun y hy => List.mem_of_mem_drop (List.mem_of_mem_drop hy)) (by omega)) (he.below h))
  obtain ⟨q0, hq0⟩ : ∃ q, ps.headD ⟨#[]⟩ = q := ⟨_, rfl⟩
  rw [hq0] at HN0 HKO
  obtain ⟨q1, hq1⟩ : ∃ q, (ps.drop 1).headD ⟨#[]⟩ = q := ⟨_, rfl⟩
  rw [hq1] at HN1 HI1
  rw [show parseN (str q1) = PA by rw [← hq1]; exact hPA] at HI1
  subst hPB
  rw [show ((ps.drop 1).drop 1).headD ⟨#[]⟩ = S from hS] at HN2
  have HRT := fun (x : World) (h : Below w.heap.size w x) => hide (right_any x K PA 0 S hK256 (Nat.le_trans hSz (by omega)) (hv.below h))
  have HTX := fun (x : World) (h : Below w.heap.size w x) => hide (text_good x K PA 0 S hK256 (Nat.le_trans hSz (by omega)) hPAl hPBl (hv.below h) hr)
  rw [hr] at HRT
  have hq : ba (textO K PA 0 (str S)) = line := by rw [ht, ba_str]
  rw [hq] at HTX
  have hqq : (line.toList == line.toList) = true := beq_self_eq_true _
  have HFIN := Lib.hid (And.intro hr ht)
  have HCL := fun (x : World) => hide (clone_any x S (Nat.le_trans hSz (by omega)))
  unfold opV at HRT
  unfold opV at HTX
  rw [show ((0 : Nat) : Int) = 0 from rfl] at HRT HTX
  clear hq0 hq1 hps hNN hK hA hB hN hhd hall hl4 hlN hm hPA hS hr ht hv he hK14 hPAl hPBl hSz hline hK256 hq
  go_enter Tryz.func13, Tryz.ntmps13
  go_wp2_with (go_at_call 37; (with_reducible refine (unhide (HS _)).mono ?_); rintro e w1 ⟨rfl, rfl⟩)
  have hst0 := HNEW.out
  obtain ⟨g, hg⟩ : ∃ g, g = w.heap.size + 1 + 1 := ⟨_, rfl⟩
  rw [← hg] at hst0 ⊢
  obtain ⟨W0, hW0⟩ : ∃ W0, W0 = ((w.alloc (.cells #[.int .u8 0, .int .u64 0, .int .u64 0, .string ⟨#[]⟩] 25)).alloc (.cells (Lib.cellsOf ps NN) 9)).alloc (.cells #[.slice (some ⟨w.heap.size + 1, 0, none⟩) m NN] 57) := ⟨_, rfl⟩
  rw [← hW0] at hst0 ⊢
  clear hg hW0
  refine (unhide (HN0 _ _ hst0.nx)).mono ?_
  rintro e W1 ⟨rfl, hn1, ho1⟩
  have HST := Lib.hid (hst0.next hn1 ho1)
  clear hst0 hn1 ho1
  go_wp2_with (first
    | (go_at_call 39; (with_reducible refine (unhide (HKO _ (HST.out.bel))).mono ?_); rintro e w9 ⟨rfl, hw⟩; rw [hw]; clear hw w9)
    | (go_at_call 24; (with_reducible refine (unhide (HA _)).mono ?_); rintro e w9 ⟨rfl, hw⟩; rw [hw]; clear hw w9)
    | (go_at_call 25; (with_reducible refine (unhide (HB _)).mono ?_); rintro e w9 ⟨rfl, hw⟩; rw [hw]; clear hw w9)
    | (go_at_call 22; (with_reducible refine (unhide (HN _)).mono ?_); rintro e w9 ⟨rfl, hw⟩; rw [hw]; clear hw w9))
  have hst := HST.out.box K
  obtain ⟨g2, hg2⟩ : ∃ g2, g2 = W1.heap.size := ⟨_, rfl⟩
  rw [← hg2] at hst ⊢
  obtain ⟨W, hW⟩ : ∃ W, W = W1.alloc (.cells #[.int .u8 (K : Int), .int .u64 0, .int .u64 0, .string ⟨#[]⟩] 25) := ⟨_, rfl⟩
  rw [← hW] at hst ⊢
  clear hg2 hW HST
  refine (unhide (HN1 _ _ hst.nx)).mono ?_
  rintro e V1 ⟨rfl, hn, ho⟩
  have hst := hst.next hn ho
  clear hn ho
  go_wp2_with (first
    | (go_at_call 40; (with_reducible refine (unhide (HI1 _ hst.bel)).mono ?_); rintro e U1 ⟨rfl, hb⟩; go_loud (
       have hst := hst.below hb;
       obtain ⟨hne1, hne2⟩ := hst.ne;
       obtain ⟨z0, z1, z2, z3, f0, f1, f2, f3⟩ := hst.ob.cells;
       obtain ⟨y0, y1, y2, y3, x0, x1, x2, x3⟩ := hst.r0.cells;
       clear hb))
    | (go_at_call 24; (with_reducible refine (unhide (HA _)).mono ?_); rintro e w9 ⟨rfl, hw⟩; rw [hw]; clear hw w9)
    | (go_at_call 25; (with_reducible refine (unhide (HB _)).mono ?_); rintro e w9 ⟨rfl, hw⟩; rw [hw]; clear hw w9)
    | (go_at_call 22; (with_reducible refine (unhide (HN _)).mono ?_); rintro e w9 ⟨rfl, hw⟩; rw [hw]; clear hw w9))
  have hst := hst.setA PA
  obtain ⟨X1, hX⟩ : ∃ X, X = U1.setCell ⟨g2, 1, none⟩ (.int .u64 (PA : Int)) := ⟨_, rfl⟩
  rw [← hX] at hst ⊢
  clear hX z0 z1 z2 z3 f0 f1 f2 f3 y0 y1 y2 y3 x0 x1 x2 x3
  refine (unhide (HN2 _ _ hst.nx)).mono ?_
  rintro e V2 ⟨rfl, hn, ho⟩
  have hst := hst.next hn ho
  clear hn ho
  obtain ⟨z0, z1, z2, z3, f0, f1, f2, f3⟩ := hst.ob.cells
  obtain ⟨y0, y1, y2, y3, x0, x1, x2, x3⟩ := hst.r0.cells
  go_wp2_with (first
    | (go_at_call 24; (with_reducible refine (unhide (HA _)).mono ?_); rintro e w9 ⟨rfl, hw⟩; rw [hw]; clear hw w9)
    | (go_at_call 25; (with_reducible refine (unhide (HB _)).mono ?_); rintro e w9 ⟨rfl, hw⟩; rw [hw]; clear hw w9)
    | (go_at_call 22; (with_reducible refine (unhide (HN _)).mono ?_); rintro e w9 ⟨rfl, hw⟩; rw [hw]; clear hw w9)
    | (go_at_call 9; (with_reducible refine (unhide (HRT _ (hst.setN S).bel)).mono ?_); rintro e R1 ⟨rfl, hb⟩; go_loud (
       have hst := (hst.setN S).below hb;
       obtain ⟨hne1, hne2⟩ := hst.ne;
       obtain ⟨z0, z1, z2, z3, f0, f1, f2, f3⟩ := hst.ob.cells;
       obtain ⟨y0, y1, y2, y3, x0, x1, x2, x3⟩ := hst.r0.cells;
       clear hb))
    | (go_at_call 11; (with_reducible refine (unhide (HTX _ hst.bel)).mono ?_); rintro e R2 ⟨rfl, hb⟩; go_loud (
       have hst := hst.below hb;
       obtain ⟨hne1, hne2⟩ := hst.ne;
       obtain ⟨z0, z1, z2, z3, f0, f1, f2, f3⟩ := hst.ob.cells;
       obtain ⟨y0, y1, y2, y3, x0, x1, x2, x3⟩ := hst.r0.cells;
       clear hb))
    | (go_at_call 41; (with_reducible refine (unhide (HCL _)).mono ?_); rintro e R3 ⟨rfl, hb⟩; go_loud (
       have hst := hst.below hb;
       obtain ⟨hne1, hne2⟩ := hst.ne;
       obtain ⟨z0, z1, z2, z3, f0, f1, f2, f3⟩ := hst.ob.cells;
       obtain ⟨y0, y1, y2, y3, x0, x1, x2, x3⟩ := hst.r0.cells;
       clear hb)))
  have hst := hst.setN S
  refine op_ret2 (p := 2) (u := 3) (g := w.heap.size) (cs := #[.int .u8 (K : Int), .int .u64 (PA : Int), .int .u64 0, .string S]) rfl rfl rfl rfl (op_put hst.r0) rfl ?_
  exact ⟨below_put hst.bel (Nat.le_refl _), .inl ⟨HFIN.out.1, HFIN.out.2, rfl⟩⟩
set_option maxRecDepth 100000 in
set_option maxHeartbeats 4000000 in
theorem read_0z (w : World) (line : ByteArray) (ps : List ByteArray) (NN K PA PB : Nat) (S : ByteArray) (hps : ps = lineB line) (hNN : NN = min 4 (line.size + 1)) (hline : line.size ≤ 1000000) (hv : Vo w) (he : Ve w) (hK14 : K ≤ 14)
    (hK : kindL (str (ps.headD ⟨#[]⟩)) = K) (hA : aK K = true) (hB : bK K = false) (hN : nK K = true)
    (hPA : parseN (str ((ps.drop 1).headD ⟨#[]⟩)) = PA) (hPB : PB = 0)
    (hS : ((ps.drop 1).drop 1).headD ⟨#[]⟩ = S) (hPAl : PA < 18446744073709551616) (hPBl : PB < 18446744073709551616) (hSz : S.size ≤ 1000000)
    (hr : rightO K PA PB (str S) = true) (ht : textO K PA PB (str S) ≠ str line) :
    Calls Tryz.prog 13 #[.string line] w (ReadR w line K PA PB S) := by
  have HS := fun (x : World) => hide (split_any x line (by omega))
  have hl4 : ps.length ≤ 4 := by rw [hps]; exact Nat.le_trans (splitB_lek _ _) (by omega)
  have hlN : ps.length ≤ NN := by rw [hps, hNN]; exact Nat.le_trans (splitB_lek _ _) (by omega)
  have hall : ∀ x ∈ ps, x.size ≤ 1000000 := fun x hx => Nat.le_trans (splitB_size _ _ x (by rw [hps] at hx; exact hx)) hline
  have hhd : ∀ l : List ByteArray, (∀ x ∈ l, x ∈ ps) → (l.headD ⟨#[]⟩).size ≤ 1000000 := fun l h => by
    rcases l with _ | ⟨x, r⟩
    · show (0 : Nat) ≤ _; omega
    · exact hall x (h x (by simp))
  rw [← hps, ← hNN] at HS
  have HNEW := Lib.hid (parts_new w ps NN hlN)
  obtain ⟨m, hm⟩ : ∃ m, ps.length = m := ⟨_, rfl⟩
  rw [hm] at HS HNEW
  have hK256 : K < 256 := by omega
  have HKO := fun (x : World) (h : Below w.heap.size w x) => hide (kindof_any x (ps.headD ⟨#[]⟩) (hv.below h))
  rw [hK] at HKO
  have HA := fun (x : World) => hide (hasA_any x K hK256)
  have HB := fun (x : World) => hide (hasB_any x K hK256)
  have HN := fun (x : World) => hide (hasN_any x K hK256)
  rw [hA] at HA
  rw [hB] at HB
  rw [hN] at HN
  have HN0 := fun (x : World) (g : Nat) (h : Nx x g ps) => hide (next_any x g ps (by omega) h)
  have HN1 := fun (x : World) (g : Nat) (h : Nx x g (ps.drop 1)) => hide (next_any x g (ps.drop 1) (by rw [List.length_drop]; omega) h)
  have HN2 := fun (x : World) (g : Nat) (h : Nx x g ((ps.drop 1).drop 1)) => hide (next_any x g ((ps.drop 1).drop 1) (by rw [List.length_drop, List.length_drop]; omega) h)
  have HN3 := fun (x : World) (g : Nat) (h : Nx x g (((ps.drop 1).drop 1).drop 1)) => hide (next_any x g (((ps.drop 1).drop 1).drop 1) (by rw [List.length_drop, List.length_drop, List.length_drop]; omega) h)
  have HI1 := fun (x : World) (h : Below w.heap.size w x) => hide (idof_any x ((ps.drop 1).headD ⟨#[]⟩) (Nat.le_trans (hhd _ fun y hy => List.mem_of_mem_drop hy) (by omega)) (he.below h))
  have HI2 := fun (x : World) (h : Below w.heap.size w x) => hide (idof_any x (((ps.drop 1).drop 1).headD ⟨#[]⟩) (Nat.le_trans (hhd _ fun y hy => List.mem_of_mem_drop (List.mem_of_mem_drop hy)) (by omega)) (he.below h))
  obtain ⟨q0, hq0⟩ : ∃ q, ps.headD ⟨#[]⟩ = q := ⟨_, rfl⟩
  rw [hq0] at HN0 HKO
  obtain ⟨q1, hq1⟩ : ∃ q, (ps.drop 1).headD ⟨#[]⟩ = q := ⟨_, rfl⟩
  rw [hq1] at HN1 HI1
  rw [show parseN (str q1) = PA by rw [← hq1]; exact hPA] at HI1
  subst hPB
  rw [show ((ps.drop 1).drop 1).headD ⟨#[]⟩ = S from hS] at HN2
  have HRT := fun (x : World) (h : Below w.heap.size w x) => hide (right_any x K PA 0 S hK256 (Nat.le_trans hSz (by omega)) (hv.below h))
  have HTX := fun (x : World) (h : Below w.heap.size w x) => hide (text_good x K PA 0 S hK256 (Nat.le_trans hSz (by omega)) hPAl hPBl (hv.below h) hr)
  rw [hr] at HRT
  obtain ⟨tx, htx⟩ : ∃ tx, ba (textO K PA 0 (str S)) = tx := ⟨_, rfl⟩
  rw [htx] at HTX
  have hqq : (tx.toList == line.toList) = false := toL_ne fun e => ht (by
    rw [← e, ← htx]
    exact (str_ba (textO_byte hr)).symm)
  have HFIN := Lib.hid (show ¬ (rightO K PA 0 (str S) = true ∧ textO K PA 0 (str S) = str line) from fun h => ht h.2)
  unfold opV at HRT
  unfold opV at HTX
  rw [show ((0 : Nat) : Int) = 0 from rfl] at HRT HTX
  clear hq0 hq1 hps hNN hK hA hB hN hhd hall hl4 hlN hm hPA hS hr ht hv he hK14 hPAl hPBl hSz hline hK256 htx
  go_enter Tryz.func13, Tryz.ntmps13
  go_wp2_with (go_at_call 37; (with_reducible refine (unhide (HS _)).mono ?_); rintro e w1 ⟨rfl, rfl⟩)
  have hst0 := HNEW.out
  obtain ⟨g, hg⟩ : ∃ g, g = w.heap.size + 1 + 1 := ⟨_, rfl⟩
  rw [← hg] at hst0 ⊢
  obtain ⟨W0, hW0⟩ : ∃ W0, W0 = ((w.alloc (.cells #[.int .u8 0, .int .u64 0, .int .u64 0, .string ⟨#[]⟩] 25)).alloc (.cells (Lib.cellsOf ps NN) 9)).alloc (.cells #[.slice (some ⟨w.heap.size + 1, 0, none⟩) m NN] 57) := ⟨_, rfl⟩
  rw [← hW0] at hst0 ⊢
  clear hg hW0
  refine (unhide (HN0 _ _ hst0.nx)).mono ?_
  rintro e W1 ⟨rfl, hn1, ho1⟩
  have HST := Lib.hid (hst0.next hn1 ho1)
  clear hst0 hn1 ho1
  go_wp2_with (first
    | (go_at_call 39; (with_reducible refine (unhide (HKO _ (HST.out.bel))).mono ?_); rintro e w9 ⟨rfl, hw⟩; rw [hw]; clear hw w9)
    | (go_at_call 24; (with_reducible refine (unhide (HA _)).mono ?_); rintro e w9 ⟨rfl, hw⟩; rw [hw]; clear hw w9)
    | (go_at_call 25; (with_reducible refine (unhide (HB _)).mono ?_); rintro e w9 ⟨rfl, hw⟩; rw [hw]; clear hw w9)
    | (go_at_call 22; (with_reducible refine (unhide (HN _)).mono ?_); rintro e w9 ⟨rfl, hw⟩; rw [hw]; clear hw w9))
  have hst := HST.out.box K
  obtain ⟨g2, hg2⟩ : ∃ g2, g2 = W1.heap.size := ⟨_, rfl⟩
  rw [← hg2] at hst ⊢
  obtain ⟨W, hW⟩ : ∃ W, W = W1.alloc (.cells #[.int .u8 (K : Int), .int .u64 0, .int .u64 0, .string ⟨#[]⟩] 25) := ⟨_, rfl⟩
  rw [← hW] at hst ⊢
  clear hg2 hW HST
  refine (unhide (HN1 _ _ hst.nx)).mono ?_
  rintro e V1 ⟨rfl, hn, ho⟩
  have hst := hst.next hn ho
  clear hn ho
  go_wp2_with (first
    | (go_at_call 40; (with_reducible refine (unhide (HI1 _ hst.bel)).mono ?_); rintro e U1 ⟨rfl, hb⟩; go_loud (
       have hst := hst.below hb;
       obtain ⟨hne1, hne2⟩ := hst.ne;
       obtain ⟨z0, z1, z2, z3, f0, f1, f2, f3⟩ := hst.ob.cells;
       obtain ⟨y0, y1, y2, y3, x0, x1, x2, x3⟩ := hst.r0.cells;
       clear hb))
    | (go_at_call 24; (with_reducible refine (unhide (HA _)).mono ?_); rintro e w9 ⟨rfl, hw⟩; rw [hw]; clear hw w9)
    | (go_at_call 25; (with_reducible refine (unhide (HB _)).mono ?_); rintro e w9 ⟨rfl, hw⟩; rw [hw]; clear hw w9)
    | (go_at_call 22; (with_reducible refine (unhide (HN _)).mono ?_); rintro e w9 ⟨rfl, hw⟩; rw [hw]; clear hw w9))
  have hst := hst.setA PA
  obtain ⟨X1, hX⟩ : ∃ X, X = U1.setCell ⟨g2, 1, none⟩ (.int .u64 (PA : Int)) := ⟨_, rfl⟩
  rw [← hX] at hst ⊢
  clear hX z0 z1 z2 z3 f0 f1 f2 f3 y0 y1 y2 y3 x0 x1 x2 x3
  refine (unhide (HN2 _ _ hst.nx)).mono ?_
  rintro e V2 ⟨rfl, hn, ho⟩
  have hst := hst.next hn ho
  clear hn ho
  obtain ⟨z0, z1, z2, z3, f0, f1, f2, f3⟩ := hst.ob.cells
  obtain ⟨y0, y1, y2, y3, x0, x1, x2, x3⟩ := hst.r0.cells
  go_wp2_with (first
    | (go_at_call 24; (with_reducible refine (unhide (HA _)).mono ?_); rintro e w9 ⟨rfl, hw⟩; rw [hw]; clear hw w9)
    | (go_at_call 25; (with_reducible refine (unhide (HB _)).mono ?_); rintro e w9 ⟨rfl, hw⟩; rw [hw]; clear hw w9)
    | (go_at_call 22; (with_reducible refine (unhide (HN _)).mono ?_); rintro e w9 ⟨rfl, hw⟩; rw [hw]; clear hw w9)
    | (go_at_call 9; (with_reducible refine (unhide (HRT _ (hst.setN S).bel)).mono ?_); rintro e R1 ⟨rfl, hb⟩; go_loud (
       have hst := (hst.setN S).below hb;
       obtain ⟨hne1, hne2⟩ := hst.ne;
       obtain ⟨z0, z1, z2, z3, f0, f1, f2, f3⟩ := hst.ob.cells;
       obtain ⟨y0, y1, y2, y3, x0, x1, x2, x3⟩ := hst.r0.cells;
       clear hb))
    | (go_at_call 11; (with_reducible refine (unhide (HTX _ hst.bel)).mono ?_); rintro e R2 ⟨rfl, hb⟩; go_loud (
       have hst := hst.below hb;
       obtain ⟨hne1, hne2⟩ := hst.ne;
       obtain ⟨z0, z1, z2, z3, f0, f1, f2, f3⟩ := hst.ob.cells;
       obtain ⟨y0, y1, y2, y3, x0, x1, x2, x3⟩ := hst.r0.cells;
       clear hb)))
  refine op_ret2 (p := 2) (u := 3) (g := w.heap.size) (cs := #[.int .u8 0, .int .u64 0, .int .u64 0, .string ⟨#[]⟩]) rfl rfl rfl rfl (op_put hst.r0) rfl ?_
  exact ⟨below_put hst.bel (Nat.le_refl _), .inr ⟨HFIN.out, rfl⟩⟩
end Go.Proofs.YtfnobibjphnmdaaGreatDoor
namespace Go.Proofs.YtfnobibjphnmdaaGreatDoor
open Go.RowKit
set_option linter.unusedVariables false
set_option linter.unusedSimpArgs false
set_option maxRecDepth 100000 in
set_option maxHeartbeats 4000000 in
theorem read_1x (w : World) (line : ByteArray) (ps : List ByteArray) (NN K PA PB : Nat) (S : ByteArray) (hps : ps = lineB line) (hNN : NN = min 4 (line.size + 1)) (hline : line.size ≤ 1000000) (hv : Vo w) (he : Ve w) (hK14 : K ≤ 14)
    (hK : kindL (str (ps.headD ⟨#[]⟩)) = K) (hA : aK K = true) (hB : bK K = false) (hN : nK K = false)
    (hPA : parseN (str ((ps.drop 1).headD ⟨#[]⟩)) = PA) (hPB : PB = 0)
    (hS : S = ⟨#[]⟩) (hPAl : PA < 18446744073709551616) (hPBl : PB < 18446744073709551616) (hSz : S.size ≤ 1000000)
    (hr : rightO K PA PB (str S) = false) :
    Calls Tryz.prog 13 #[.string line] w (ReadR w line K PA PB S) := by
  have HS := fun (x : World) => hide (split_any x line (by omega))
  have hl4 : ps.length ≤ 4 := by rw [hps]; exact Nat.le_trans (splitB_lek _ _) (by omega)
  have hlN : ps.length ≤ NN := by rw [hps, hNN]; exact Nat.le_trans (splitB_lek _ _) (by omega)
  have hall : ∀ x ∈ ps, x.size ≤ 1000000 := fun x hx => Nat.le_trans (splitB_size _ _ x (by rw [hps] at hx; exact hx)) hline
  have hhd : ∀ l : List ByteArray, (∀ x ∈ l, x ∈ ps) → (l.headD ⟨#[]⟩).size ≤ 1000000 := fun l h => by
    rcases l with _ | ⟨x, r⟩
    · show (0 : Nat) ≤ _; omega
    · exact hall x (h x (by simp))
  rw [← hps, ← hNN] at HS
  have HNEW := Lib.hid (parts_new w ps NN hlN)
  obtain ⟨m, hm⟩ : ∃ m, ps.length = m := ⟨_, rfl⟩
  rw [hm] at HS HNEW
  have hK256 : K < 256 := by omega
  have HKO := fun (x : World) (h : Below w.heap.size w x) => hide (kindof_any x (ps.headD ⟨#[]⟩) (hv.below h))
  rw [hK] at HKO
  have HA := fun (x : World) => hide (hasA_any x K hK256)
  have HB := fun (x : World) => hide (hasB_any x K hK256)
  have HN := fun (x : World) => hide (hasN_any x K hK256)
  rw [hA] at HA
  rw [hB] at HB
  rw [hN] at HN
  have HN0 := fun (x : World) (g : Nat) (h : Nx x g ps) => hide (next_any x g ps (by omega) h)
  have HN1 := fun (x : World) (g : Nat) (h : Nx x g (ps.drop 1)) => hide (next_any x g (ps.drop 1) (by rw [List.length_drop]; omega) h)
  have HN2 := fun (x : World) (g : Nat) (h : Nx x g ((ps.drop 1).drop 1)) => hide (next_any x g ((ps.drop 1).drop 1) (by rw [List.length_drop, List.length_drop]; omega) h)
  have HN3 := fun (x : World) (g : Nat) (h : Nx x g (((ps.drop 1).drop 1).drop 1)) => hide (next_any x g (((ps.drop 1).drop 1).drop 1) (by rw [List.length_drop, List.length_drop, List.length_drop]; omega) h)
  have HI1 := fun (x : World) (h : Below w.heap.size w x) => hide (idof_any x ((ps.drop 1).headD ⟨#[]⟩) (Nat.le_trans (hhd _ fun y hy => List.mem_of_mem_drop hy) (by omega)) (he.below h))
  have HI2 := fun (x : World) (h : Below w.heap.size w x) => hide (idof_any x (((ps.drop 1).drop 1).headD ⟨#[]⟩) (Nat.le_trans (hhd _ fun y hy => List.mem_of_mem_drop (List.mem_of_mem_drop hy)) (by omega)) (he.below h))
  obtain ⟨q0, hq0⟩ : ∃ q, ps.headD ⟨#[]⟩ = q := ⟨_, rfl⟩
  rw [hq0] at HN0 HKO
  obtain ⟨q1, hq1⟩ : ∃ q, (ps.drop 1).headD ⟨#[]⟩ = q := ⟨_, rfl⟩
  rw [hq1] at HN1 HI1
  rw [show parseN (str q1) = PA by rw [← hq1]; exact hPA] at HI1
  subst hPB
  subst hS
  have HRT := fun (x : World) (h : Below w.heap.size w x) => hide (right_any x K PA 0 ⟨#[]⟩ hK256 (Nat.le_trans hSz (by omega)) (hv.below h))
  rw [hr] at HRT
  have HFIN := Lib.hid (show ¬ (rightO K PA 0 (str ⟨#[]⟩) = true ∧ textO K PA 0 (str ⟨#[]⟩) = str line) from fun h => by rw [hr] at h; exact absurd h.1 (by decide))
  unfold opV at HRT
  rw [show ((0 : Nat) : Int) = 0 from rfl] at HRT
  clear hq0 hq1 hps hNN hK hA hB hN hhd hall hl4 hlN hm hPA hr hv he hK14 hPAl hPBl hSz hline hK256
  go_enter Tryz.func13, Tryz.ntmps13
  go_wp2_with (go_at_call 37; (with_reducible refine (unhide (HS _)).mono ?_); rintro e w1 ⟨rfl, rfl⟩)
  have hst0 := HNEW.out
  obtain ⟨g, hg⟩ : ∃ g, g = w.heap.size + 1 + 1 := ⟨_, rfl⟩
  rw [← hg] at hst0 ⊢
  obtain ⟨W0, hW0⟩ : ∃ W0, W0 = ((w.alloc (.cells #[.int .u8 0, .int .u64 0, .int .u64 0, .string ⟨#[]⟩] 25)).alloc (.cells (Lib.cellsOf ps NN) 9)).alloc (.cells #[.slice (some ⟨w.heap.size + 1, 0, none⟩) m NN] 57) := ⟨_, rfl⟩
  rw [← hW0] at hst0 ⊢
  clear hg hW0
  refine (unhide (HN0 _ _ hst0.nx)).mono ?_
  rintro e W1 ⟨rfl, hn1, ho1⟩
  have HST := Lib.hid (hst0.next hn1 ho1)
  clear hst0 hn1 ho1
  go_wp2_with (first
    | (go_at_call 39; (with_reducible refine (unhide (HKO _ (HST.out.bel))).mono ?_); rintro e w9 ⟨rfl, hw⟩; rw [hw]; clear hw w9)
    | (go_at_call 24; (with_reducible refine (unhide (HA _)).mono ?_); rintro e w9 ⟨rfl, hw⟩; rw [hw]; clear hw w9)
    | (go_at_call 25; (with_reducible refine (unhide (HB _)).mono ?_); rintro e w9 ⟨rfl, hw⟩; rw [hw]; clear hw w9)
    | (go_at_call 22; (with_reducible refine (unhide (HN _)).mono ?_); rintro e w9 ⟨rfl, hw⟩; rw [hw]; clear hw w9))
  have hst := HST.out.box K
  obtain ⟨g2, hg2⟩ : ∃ g2, g2 = W1.heap.size := ⟨_, rfl⟩
  rw [← hg2] at hst ⊢
  obtain ⟨W, hW⟩ : ∃ W, W = W1.alloc (.cells #[.int .u8 (K : Int), .int .u64 0, .int .u64 0, .string ⟨#[]⟩] 25) := ⟨_, rfl⟩
  rw [← hW] at hst ⊢
  clear hg2 hW HST
  refine (unhide (HN1 _ _ hst.nx)).mono ?_
  rintro e V1 ⟨rfl, hn, ho⟩
  have hst := hst.next hn ho
  clear hn ho
  go_wp2_with (first
    | (go_at_call 40; (with_reducible refine (unhide (HI1 _ hst.bel)).mono ?_); rintro e U1 ⟨rfl, hb⟩; go_loud (
       have hst := hst.below hb;
       obtain ⟨hne1, hne2⟩ := hst.ne;
       obtain ⟨z0, z1, z2, z3, f0, f1, f2, f3⟩ := hst.ob.cells;
       obtain ⟨y0, y1, y2, y3, x0, x1, x2, x3⟩ := hst.r0.cells;
       clear hb))
    | (go_at_call 24; (with_reducible refine (unhide (HA _)).mono ?_); rintro e w9 ⟨rfl, hw⟩; rw [hw]; clear hw w9)
    | (go_at_call 25; (with_reducible refine (unhide (HB _)).mono ?_); rintro e w9 ⟨rfl, hw⟩; rw [hw]; clear hw w9)
    | (go_at_call 22; (with_reducible refine (unhide (HN _)).mono ?_); rintro e w9 ⟨rfl, hw⟩; rw [hw]; clear hw w9)
    | (go_at_call 9; (with_reducible refine (unhide (HRT _ (hst.setA PA).bel)).mono ?_); rintro e R1 ⟨rfl, hb⟩; go_loud (
       have hst := (hst.setA PA).below hb;
       obtain ⟨hne1, hne2⟩ := hst.ne;
       obtain ⟨z0, z1, z2, z3, f0, f1, f2, f3⟩ := hst.ob.cells;
       obtain ⟨y0, y1, y2, y3, x0, x1, x2, x3⟩ := hst.r0.cells;
       clear hb)))
  refine op_ret2 (p := 2) (u := 3) (g := w.heap.size) (cs := #[.int .u8 0, .int .u64 0, .int .u64 0, .string ⟨#[]⟩]) rfl rfl rfl rfl (op_put hst.r0) rfl ?_
  exact ⟨below_put hst.bel (Nat.le_refl _), .inr ⟨HFIN.out, rfl⟩⟩
set_option maxRecDepth 100000 in
set_option maxHeartbeats 4000000 in
theorem read_1y (w : World) (line : ByteArray) (ps : List ByteArray) (NN K PA PB : Nat) (S : ByteArray) (hps : ps = lineB line) (hNN : NN = min 4 (line.size + 1)) (hline : line.size ≤ 1000000) (hv : Vo w) (he : Ve w) (hK14 : K ≤ 14)
    (hK : kindL (str (ps.headD ⟨#[]⟩)) = K) (hA : aK K = true) (hB : bK K = false) (hN : nK K = false)
    (hPA : parseN (str ((ps.drop 1).headD ⟨#[]⟩)) = PA) (hPB : PB = 0)
    (hS : S = ⟨#[]⟩) (hPAl : PA < 18446744073709551616) (hPBl : PB < 18446744073709551616) (hSz : S.size ≤ 1000000)
    (hr : rightO K PA PB (str S) = true) (ht : textO K PA PB (str S) = str line) :
    Calls Tryz.prog 13 #[.string line] w (ReadR w line K PA PB S) := by
  have HS := fun (x : World) => hide (split_any x line (by omega))
  have hl4 : ps.length ≤ 4 := by rw [hps]; exact Nat.le_trans (splitB_lek _ _) (by omega)
  have hlN : ps.length ≤ NN := by rw [hps, hNN]; exact Nat.le_trans (splitB_lek _ _) (by omega)
  have hall : ∀ x ∈ ps, x.size ≤ 1000000 := fun x hx => Nat.le_trans (splitB_size _ _ x (by rw [hps] at hx; exact hx)) hline
  have hhd : ∀ l : List ByteArray, (∀ x ∈ l, x ∈ ps) → (l.headD ⟨#[]⟩).size ≤ 1000000 := fun l h => by
    rcases l with _ | ⟨x, r⟩
    · show (0 : Nat) ≤ _; omega
    · exact hall x (h x (by simp))
  rw [← hps, ← hNN] at HS
  have HNEW := Lib.hid (parts_new w ps NN hlN)
  obtain ⟨m, hm⟩ : ∃ m, ps.length = m := ⟨_, rfl⟩
  rw [hm] at HS HNEW
  have hK256 : K < 256 := by omega
  have HKO := fun (x : World) (h : Below w.heap.size w x) => hide (kindof_any x (ps.headD ⟨#[]⟩) (hv.below h))
  rw [hK] at HKO
  have HA := fun (x : World) => hide (hasA_any x K hK256)
  have HB := fun (x : World) => hide (hasB_any x K hK256)
  have HN := fun (x : World) => hide (hasN_any x K hK256)
  rw [hA] at HA
  rw [hB] at HB
  rw [hN] at HN
  have HN0 := fun (x : World) (g : Nat) (h : Nx x g ps) => hide (next_any x g ps (by omega) h)
  have HN1 := fun (x : World) (g : Nat) (h : Nx x g (ps.drop 1)) => hide (next_any x g (ps.drop 1) (by rw [List.length_drop]; omega) h)
  have HN2 := fun (x : World) (g : Nat) (h : Nx x g ((ps.drop 1).drop 1)) => hide (next_any x g ((ps.drop 1).drop 1) (by rw [List.length_drop, List.length_drop]; omega) h)
  have HN3 := fun (x : World) (g : Nat) (h : Nx x g (((ps.drop 1).drop 1).drop 1)) => hide (next_any x g (((ps.drop 1).drop 1).drop 1) (by rw [List.length_drop, List.length_drop, List.length_drop]; omega) h)
  have HI1 := fun (x : World) (h : Below w.heap.size w x) => hide (idof_any x ((ps.drop 1).headD ⟨#[]⟩) (Nat.le_trans (hhd _ fun y hy => List.mem_of_mem_drop hy) (by omega)) (he.below h))
  have HI2 := fun (x : World) (h : Below w.heap.size w x) => hide (idof_any x (((ps.drop 1).drop 1).headD ⟨#[]⟩) (Nat.le_trans (hhd _ fun y hy => List.mem_of_mem_drop (List.mem_of_mem_drop hy)) (by omega)) (he.below h))
  obtain ⟨q0, hq0⟩ : ∃ q, ps.headD ⟨#[]⟩ = q := ⟨_, rfl⟩
  rw [hq0] at HN0 HKO
  obtain ⟨q1, hq1⟩ : ∃ q, (ps.drop 1).headD ⟨#[]⟩ = q := ⟨_, rfl⟩
  rw [hq1] at HN1 HI1
  rw [show parseN (str q1) = PA by rw [← hq1]; exact hPA] at HI1
  subst hPB
  subst hS
  have HRT := fun (x : World) (h : Below w.heap.size w x) => hide (right_any x K PA 0 ⟨#[]⟩ hK256 (Nat.le_trans hSz (by omega)) (hv.below h))
  have HTX := fun (x : World) (h : Below w.heap.size w x) => hide (text_good x K PA 0 ⟨#[]⟩ hK256 (Nat.le_trans hSz (by omega)) hPAl hPBl (hv.below h) hr)
  rw [hr] at HRT
  have hq : ba (textO K PA 0 (str ⟨#[]⟩)) = line := by rw [ht, ba_str]
  rw [hq] at HTX
  have hqq : (line.toList == line.toList) = true := beq_self_eq_true _
  have HFIN := Lib.hid (And.intro hr ht)
  have HCL := fun (x : World) => hide (clone_any x ⟨#[]⟩ (Nat.le_trans hSz (by omega)))
  unfold opV at HRT
  unfold opV at HTX
  rw [show ((0 : Nat) : Int) = 0 from rfl] at HRT HTX
  clear hq0 hq1 hps hNN hK hA hB hN hhd hall hl4 hlN hm hPA hr ht hv he hK14 hPAl hPBl hSz hline hK256 hq
  go_enter Tryz.func13, Tryz.ntmps13
  go_wp2_with (go_at_call 37; (with_reducible refine (unhide (HS _)).mono ?_); rintro e w1 ⟨rfl, rfl⟩)
  have hst0 := HNEW.out
  obtain ⟨g, hg⟩ : ∃ g, g = w.heap.size + 1 + 1 := ⟨_, rfl⟩
  rw [← hg] at hst0 ⊢
  obtain ⟨W0, hW0⟩ : ∃ W0, W0 = ((w.alloc (.cells #[.int .u8 0, .int .u64 0, .int .u64 0, .string ⟨#[]⟩] 25)).alloc (.cells (Lib.cellsOf ps NN) 9)).alloc (.cells #[.slice (some ⟨w.heap.size + 1, 0, none⟩) m NN] 57) := ⟨_, rfl⟩
  rw [← hW0] at hst0 ⊢
  clear hg hW0
  refine (unhide (HN0 _ _ hst0.nx)).mono ?_
  rintro e W1 ⟨rfl, hn1, ho1⟩
  have HST := Lib.hid (hst0.next hn1 ho1)
  clear hst0 hn1 ho1
  go_wp2_with (first
    | (go_at_call 39; (with_reducible refine (unhide (HKO _ (HST.out.bel))).mono ?_); rintro e w9 ⟨rfl, hw⟩; rw [hw]; clear hw w9)
    | (go_at_call 24; (with_reducible refine (unhide (HA _)).mono ?_); rintro e w9 ⟨rfl, hw⟩; rw [hw]; clear hw w9)
    | (go_at_call 25; (with_reducible refine (unhide (HB _)).mono ?_); rintro e w9 ⟨rfl, hw⟩; rw [hw]; clear hw w9)
    | (go_at_call 22; (with_reducible refine (unhide (HN _)).mono ?_); rintro e w9 ⟨rfl, hw⟩; rw [hw]; clear hw w9))
  have hst := HST.out.box K
  obtain ⟨g2, hg2⟩ : ∃ g2, g2 = W1.heap.size := ⟨_, rfl⟩
  rw [← hg2] at hst ⊢
  obtain ⟨W, hW⟩ : ∃ W, W = W1.alloc (.cells #[.int .u8 (K : Int), .int .u64 0, .int .u64 0, .string ⟨#[]⟩] 25) := ⟨_, rfl⟩
  rw [← hW] at hst ⊢
  clear hg2 hW HST
  refine (unhide (HN1 _ _ hst.nx)).mono ?_
  rintro e V1 ⟨rfl, hn, ho⟩
  have hst := hst.next hn ho
  clear hn ho
  go_wp2_with (first
    | (go_at_call 40; (with_reducible refine (unhide (HI1 _ hst.bel)).mono ?_); rintro e U1 ⟨rfl, hb⟩; go_loud (
       have hst := hst.below hb;
       obtain ⟨hne1, hne2⟩ := hst.ne;
       obtain ⟨z0, z1, z2, z3, f0, f1, f2, f3⟩ := hst.ob.cells;
       obtain ⟨y0, y1, y2, y3, x0, x1, x2, x3⟩ := hst.r0.cells;
       clear hb))
    | (go_at_call 24; (with_reducible refine (unhide (HA _)).mono ?_); rintro e w9 ⟨rfl, hw⟩; rw [hw]; clear hw w9)
    | (go_at_call 25; (with_reducible refine (unhide (HB _)).mono ?_); rintro e w9 ⟨rfl, hw⟩; rw [hw]; clear hw w9)
    | (go_at_call 22; (with_reducible refine (unhide (HN _)).mono ?_); rintro e w9 ⟨rfl, hw⟩; rw [hw]; clear hw w9)
    | (go_at_call 9; (with_reducible refine (unhide (HRT _ (hst.setA PA).bel)).mono ?_); rintro e R1 ⟨rfl, hb⟩; go_loud (
       have hst := (hst.setA PA).below hb;
       obtain ⟨hne1, hne2⟩ := hst.ne;
       obtain ⟨z0, z1, z2, z3, f0, f1, f2, f3⟩ := hst.ob.cells;
       obtain ⟨y0, y1, y2, y3, x0, x1, x2, x3⟩ := hst.r0.cells;
       clear hb))
    | (go_at_call 11; (with_reducible refine (unhide (HTX _ hst.bel)).mono ?_); rintro e R2 ⟨rfl, hb⟩; go_loud (
       have hst := hst.below hb;
       obtain ⟨hne1, hne2⟩ := hst.ne;
       obtain ⟨z0, z1, z2, z3, f0, f1, f2, f3⟩ := hst.ob.cells;
       obtain ⟨y0, y1, y2, y3, x0, x1, x2, x3⟩ := hst.r0.cells;
       clear hb))
    | (go_at_call 41; (with_reducible refine (unhide (HCL _)).mono ?_); rintro e R3 ⟨rfl, hb⟩; go_loud (
       have hst := hst.below hb;
       obtain ⟨hne1, hne2⟩ := hst.ne;
       obtain ⟨z0, z1, z2, z3, f0, f1, f2, f3⟩ := hst.ob.cells;
       obtain ⟨y0, y1, y2, y3, x0, x1, x2, x3⟩ := hst.r0.cells;
       clear hb)))
  have hst := hst.setN ⟨#[]⟩
  refine op_ret2 (p := 2) (u := 3) (g := w.heap.size) (cs := #[.int .u8 (K : Int), .int .u64 (PA : Int), .int .u64 0, .string ⟨#[]⟩]) rfl rfl rfl rfl (op_put hst.r0) rfl ?_
  exact ⟨below_put hst.bel (Nat.le_refl _), .inl ⟨HFIN.out.1, HFIN.out.2, rfl⟩⟩
set_option maxRecDepth 100000 in
set_option maxHeartbeats 4000000 in
theorem read_1z (w : World) (line : ByteArray) (ps : List ByteArray) (NN K PA PB : Nat) (S : ByteArray) (hps : ps = lineB line) (hNN : NN = min 4 (line.size + 1)) (hline : line.size ≤ 1000000) (hv : Vo w) (he : Ve w) (hK14 : K ≤ 14)
    (hK : kindL (str (ps.headD ⟨#[]⟩)) = K) (hA : aK K = true) (hB : bK K = false) (hN : nK K = false)
    (hPA : parseN (str ((ps.drop 1).headD ⟨#[]⟩)) = PA) (hPB : PB = 0)
    (hS : S = ⟨#[]⟩) (hPAl : PA < 18446744073709551616) (hPBl : PB < 18446744073709551616) (hSz : S.size ≤ 1000000)
    (hr : rightO K PA PB (str S) = true) (ht : textO K PA PB (str S) ≠ str line) :
    Calls Tryz.prog 13 #[.string line] w (ReadR w line K PA PB S) := by
  have HS := fun (x : World) => hide (split_any x line (by omega))
  have hl4 : ps.length ≤ 4 := by rw [hps]; exact Nat.le_trans (splitB_lek _ _) (by omega)
  have hlN : ps.length ≤ NN := by rw [hps, hNN]; exact Nat.le_trans (splitB_lek _ _) (by omega)
  have hall : ∀ x ∈ ps, x.size ≤ 1000000 := fun x hx => Nat.le_trans (splitB_size _ _ x (by rw [hps] at hx; exact hx)) hline
  have hhd : ∀ l : List ByteArray, (∀ x ∈ l, x ∈ ps) → (l.headD ⟨#[]⟩).size ≤ 1000000 := fun l h => by
    rcases l with _ | ⟨x, r⟩
    · show (0 : Nat) ≤ _; omega
    · exact hall x (h x (by simp))
  rw [← hps, ← hNN] at HS
  have HNEW := Lib.hid (parts_new w ps NN hlN)
  obtain ⟨m, hm⟩ : ∃ m, ps.length = m := ⟨_, rfl⟩
  rw [hm] at HS HNEW
  have hK256 : K < 256 := by omega
  have HKO := fun (x : World) (h : Below w.heap.size w x) => hide (kindof_any x (ps.headD ⟨#[]⟩) (hv.below h))
  rw [hK] at HKO
  have HA := fun (x : World) => hide (hasA_any x K hK256)
  have HB := fun (x : World) => hide (hasB_any x K hK256)
  have HN := fun (x : World) => hide (hasN_any x K hK256)
  rw [hA] at HA
  rw [hB] at HB
  rw [hN] at HN
  have HN0 := fun (x : World) (g : Nat) (h : Nx x g ps) => hide (next_any x g ps (by omega) h)
  have HN1 := fun (x : World) (g : Nat) (h : Nx x g (ps.drop 1)) => hide (next_any x g (ps.drop 1) (by rw [List.length_drop]; omega) h)
  have HN2 := fun (x : World) (g : Nat) (h : Nx x g ((ps.drop 1).drop 1)) => hide (next_any x g ((ps.drop 1).drop 1) (by rw [List.length_drop, List.length_drop]; omega) h)
  have HN3 := fun (x : World) (g : Nat) (h : Nx x g (((ps.drop 1).drop 1).drop 1)) => hide (next_any x g (((ps.drop 1).drop 1).drop 1) (by rw [List.length_drop, List.length_drop, List.length_drop]; omega) h)
  have HI1 := fun (x : World) (h : Below w.heap.size w x) => hide (idof_any x ((ps.drop 1).headD ⟨#[]⟩) (Nat.le_trans (hhd _ fun y hy => List.mem_of_mem_drop hy) (by omega)) (he.below h))
  have HI2 := fun (x : World) (h : Below w.heap.size w x) => hide (idof_any x (((ps.drop 1).drop 1).headD ⟨#[]⟩) (Nat.le_trans (hhd _ fun y hy => List.mem_of_mem_drop (List.mem_of_mem_drop hy)) (by omega)) (he.below h))
  obtain ⟨q0, hq0⟩ : ∃ q, ps.headD ⟨#[]⟩ = q := ⟨_, rfl⟩
  rw [hq0] at HN0 HKO
  obtain ⟨q1, hq1⟩ : ∃ q, (ps.drop 1).headD ⟨#[]⟩ = q := ⟨_, rfl⟩
  rw [hq1] at HN1 HI1
  rw [show parseN (str q1) = PA by rw [← hq1]; exact hPA] at HI1
  subst hPB
  subst hS
  have HRT := fun (x : World) (h : Below w.heap.size w x) => hide (right_any x K PA 0 ⟨#[]⟩ hK256 (Nat.le_trans hSz (by omega)) (hv.below h))
  have HTX := fun (x : World) (h : Below w.heap.size w x) => hide (text_good x K PA 0 ⟨#[]⟩ hK256 (Nat.le_trans hSz (by omega)) hPAl hPBl (hv.below h) hr)
  rw [hr] at HRT
  obtain ⟨tx, htx⟩ : ∃ tx, ba (textO K PA 0 (str ⟨#[]⟩)) = tx := ⟨_, rfl⟩
  rw [htx] at HTX
  have hqq : (tx.toList == line.toList) = false := toL_ne fun e => ht (by
    rw [← e, ← htx]
    exact (str_ba (textO_byte hr)).symm)
  have HFIN := Lib.hid (show ¬ (rightO K PA 0 (str ⟨#[]⟩) = true ∧ textO K PA 0 (str ⟨#[]⟩) = str line) from fun h => ht h.2)
  unfold opV at HRT
  unfold opV at HTX
  rw [show ((0 : Nat) : Int) = 0 from rfl] at HRT HTX
  clear hq0 hq1 hps hNN hK hA hB hN hhd hall hl4 hlN hm hPA hr ht hv he hK14 hPAl hPBl hSz hline hK256 htx
  go_enter Tryz.func13, Tryz.ntmps13
  go_wp2_with (go_at_call 37; (with_reducible refine (unhide (HS _)).mono ?_); rintro e w1 ⟨rfl, rfl⟩)
  have hst0 := HNEW.out
  obtain ⟨g, hg⟩ : ∃ g, g = w.heap.size + 1 + 1 := ⟨_, rfl⟩
  rw [← hg] at hst0 ⊢
  obtain ⟨W0, hW0⟩ : ∃ W0, W0 = ((w.alloc (.cells #[.int .u8 0, .int .u64 0, .int .u64 0, .string ⟨#[]⟩] 25)).alloc (.cells (Lib.cellsOf ps NN) 9)).alloc (.cells #[.slice (some ⟨w.heap.size + 1, 0, none⟩) m NN] 57) := ⟨_, rfl⟩
  rw [← hW0] at hst0 ⊢
  clear hg hW0
  refine (unhide (HN0 _ _ hst0.nx)).mono ?_
  rintro e W1 ⟨rfl, hn1, ho1⟩
  have HST := Lib.hid (hst0.next hn1 ho1)
  clear hst0 hn1 ho1
  go_wp2_with (first
    | (go_at_call 39; (with_reducible refine (unhide (HKO _ (HST.out.bel))).mono ?_); rintro e w9 ⟨rfl, hw⟩; rw [hw]; clear hw w9)
    | (go_at_call 24; (with_reducible refine (unhide (HA _)).mono ?_); rintro e w9 ⟨rfl, hw⟩; rw [hw]; clear hw w9)
    | (go_at_call 25; (with_reducible refine (unhide (HB _)).mono ?_); rintro e w9 ⟨rfl, hw⟩; rw [hw]; clear hw w9)
    | (go_at_call 22; (with_reducible refine (unhide (HN _)).mono ?_); rintro e w9 ⟨rfl, hw⟩; rw [hw]; clear hw w9))
  have hst := HST.out.box K
  obtain ⟨g2, hg2⟩ : ∃ g2, g2 = W1.heap.size := ⟨_, rfl⟩
  rw [← hg2] at hst ⊢
  obtain ⟨W, hW⟩ : ∃ W, W = W1.alloc (.cells #[.int .u8 (K : Int), .int .u64 0, .int .u64 0, .string ⟨#[]⟩] 25) := ⟨_, rfl⟩
  rw [← hW] at hst ⊢
  clear hg2 hW HST
  refine (unhide (HN1 _ _ hst.nx)).mono ?_
  rintro e V1 ⟨rfl, hn, ho⟩
  have hst := hst.next hn ho
  clear hn ho
  go_wp2_with (first
    | (go_at_call 40; (with_reducible refine (unhide (HI1 _ hst.bel)).mono ?_); rintro e U1 ⟨rfl, hb⟩; go_loud (
       have hst := hst.below hb;
       obtain ⟨hne1, hne2⟩ := hst.ne;
       obtain ⟨z0, z1, z2, z3, f0, f1, f2, f3⟩ := hst.ob.cells;
       obtain ⟨y0, y1, y2, y3, x0, x1, x2, x3⟩ := hst.r0.cells;
       clear hb))
    | (go_at_call 24; (with_reducible refine (unhide (HA _)).mono ?_); rintro e w9 ⟨rfl, hw⟩; rw [hw]; clear hw w9)
    | (go_at_call 25; (with_reducible refine (unhide (HB _)).mono ?_); rintro e w9 ⟨rfl, hw⟩; rw [hw]; clear hw w9)
    | (go_at_call 22; (with_reducible refine (unhide (HN _)).mono ?_); rintro e w9 ⟨rfl, hw⟩; rw [hw]; clear hw w9)
    | (go_at_call 9; (with_reducible refine (unhide (HRT _ (hst.setA PA).bel)).mono ?_); rintro e R1 ⟨rfl, hb⟩; go_loud (
       have hst := (hst.setA PA).below hb;
       obtain ⟨hne1, hne2⟩ := hst.ne;
       obtain ⟨z0, z1, z2, z3, f0, f1, f2, f3⟩ := hst.ob.cells;
       obtain ⟨y0, y1, y2, y3, x0, x1, x2, x3⟩ := hst.r0.cells;
       clear hb))
    | (go_at_call 11; (with_reducible refine (unhide (HTX _ hst.bel)).mono ?_); rintro e R2 ⟨rfl, hb⟩; go_loud (
       have hst := hst.below hb;
       obtain ⟨hne1, hne2⟩ := hst.ne;
       obtain ⟨z0, z1, z2, z3, f0, f1, f2, f3⟩ := hst.ob.cells;
       obtain ⟨y0, y1, y2, y3, x0, x1, x2, x3⟩ := hst.r0.cells;
       clear hb)))
  refine op_ret2 (p := 2) (u := 3) (g := w.heap.size) (cs := #[.int .u8 0, .int .u64 0, .int .u64 0, .string ⟨#[]⟩]) rfl rfl rfl rfl (op_put hst.r0) rfl ?_
  exact ⟨below_put hst.bel (Nat.le_refl _), .inr ⟨HFIN.out, rfl⟩⟩
set_option maxRecDepth 100000 in
set_option maxHeartbeats 4000000 in
theorem read_2x (w : World) (line : ByteArray) (ps : List ByteArray) (NN K PA PB : Nat) (S : ByteArray) (hps : ps = lineB line) (hNN : NN = min 4 (line.size + 1)) (hline : line.size ≤ 1000000) (hv : Vo w) (he : Ve w) (hK14 : K ≤ 14)
    (hK : kindL (str (ps.headD ⟨#[]⟩)) = K) (hA : aK K = true) (hB : bK K = true) (hN : nK K = false)
    (hPA : parseN (str ((ps.drop 1).headD ⟨#[]⟩)) = PA) (hPB : parseN (str ((ps.drop 1).drop 1 |>.headD ⟨#[]⟩)) = PB)
    (hS : S = ⟨#[]⟩) (hPAl : PA < 18446744073709551616) (hPBl : PB < 18446744073709551616) (hSz : S.size ≤ 1000000)
    (hr : rightO K PA PB (str S) = false) :
    Calls Tryz.prog 13 #[.string line] w (ReadR w line K PA PB S) := by
  have HS := fun (x : World) => hide (split_any x line (by omega))
  have hl4 : ps.length ≤ 4 := by rw [hps]; exact Nat.le_trans (splitB_lek _ _) (by omega)
  have hlN : ps.length ≤ NN := by rw [hps, hNN]; exact Nat.le_trans (splitB_lek _ _) (by omega)
  have hall : ∀ x ∈ ps, x.size ≤ 1000000 := fun x hx => Nat.le_trans (splitB_size _ _ x (by rw [hps] at hx; exact hx)) hline
  have hhd : ∀ l : List ByteArray, (∀ x ∈ l, x ∈ ps) → (l.headD ⟨#[]⟩).size ≤ 1000000 := fun l h => by
    rcases l with _ | ⟨x, r⟩
    · show (0 : Nat) ≤ _; omega
    · exact hall x (h x (by simp))
  rw [← hps, ← hNN] at HS
  have HNEW := Lib.hid (parts_new w ps NN hlN)
  obtain ⟨m, hm⟩ : ∃ m, ps.length = m := ⟨_, rfl⟩
  rw [hm] at HS HNEW
  have hK256 : K < 256 := by omega
  have HKO := fun (x : World) (h : Below w.heap.size w x) => hide (kindof_any x (ps.headD ⟨#[]⟩) (hv.below h))
  rw [hK] at HKO
  have HA := fun (x : World) => hide (hasA_any x K hK256)
  have HB := fun (x : World) => hide (hasB_any x K hK256)
  have HN := fun (x : World) => hide (hasN_any x K hK256)
  rw [hA] at HA
  rw [hB] at HB
  rw [hN] at HN
  have HN0 := fun (x : World) (g : Nat) (h : Nx x g ps) => hide (next_any x g ps (by omega) h)
  have HN1 := fun (x : World) (g : Nat) (h : Nx x g (ps.drop 1)) => hide (next_any x g (ps.drop 1) (by rw [List.length_drop]; omega) h)
  have HN2 := fun (x : World) (g : Nat) (h : Nx x g ((ps.drop 1).drop 1)) => hide (next_any x g ((ps.drop 1).drop 1) (by rw [List.length_drop, List.length_drop]; omega) h)
  have HN3 := fun (x : World) (g : Nat) (h : Nx x g (((ps.drop 1).drop 1).drop 1)) => hide (next_any x g (((ps.drop 1).drop 1).drop 1) (by rw [List.length_drop, List.length_drop, List.length_drop]; omega) h)
  have HI1 := fun (x : World) (h : Below w.heap.size w x) => hide (idof_any x ((ps.drop 1).headD ⟨#[]⟩) (Nat.le_trans (hhd _ fun y hy => List.mem_of_mem_drop hy) (by omega)) (he.below h))
  have HI2 := fun (x : World) (h : Below w.heap.size w x) => hide (idof_any x (((ps.drop 1).drop 1).headD ⟨#[]⟩) (Nat.le_trans (hhd _ fun y hy => List.mem_of_mem_drop (List.mem_of_mem_drop hy)) (by omega)) (he.below h))
  obtain ⟨q0, hq0⟩ : ∃ q, ps.headD ⟨#[]⟩ = q := ⟨_, rfl⟩
  rw [hq0] at HN0 HKO
  obtain ⟨q1, hq1⟩ : ∃ q, (ps.drop 1).headD ⟨#[]⟩ = q := ⟨_, rfl⟩
  rw [hq1] at HN1 HI1
  obtain ⟨q2, hq2⟩ : ∃ q, ((ps.drop 1).drop 1).headD ⟨#[]⟩ = q := ⟨_, rfl⟩
  rw [hq2] at HN2 HI2
  rw [show parseN (str q1) = PA by rw [← hq1]; exact hPA] at HI1
  rw [show parseN (str q2) = PB by rw [← hq2]; exact hPB] at HI2
  subst hS
  have HRT := fun (x : World) (h : Below w.heap.size w x) => hide (right_any x K PA PB ⟨#[]⟩ hK256 (Nat.le_trans hSz (by omega)) (hv.below h))
  rw [hr] at HRT
  have HFIN := Lib.hid (show ¬ (rightO K PA PB (str ⟨#[]⟩) = true ∧ textO K PA PB (str ⟨#[]⟩) = str line) from fun h => by rw [hr] at h; exact absurd h.1 (by decide))
  unfold opV at HRT
  clear hq0 hq1 hq2 hps hNN hK hA hB hN hhd hall hl4 hlN hm hPA hPB hr hv he hK14 hPAl hPBl hSz hline hK256
  go_enter Tryz.func13, Tryz.ntmps13
  go_wp2_with (go_at_call 37; (with_reducible refine (unhide (HS _)).mono ?_); rintro e w1 ⟨rfl, rfl⟩)
  have hst0 := HNEW.out
  obtain ⟨g, hg⟩ : ∃ g, g = w.heap.size + 1 + 1 := ⟨_, rfl⟩
  rw [← hg] at hst0 ⊢
  obtain ⟨W0, hW0⟩ : ∃ W0, W0 = ((w.alloc (.cells #[.int .u8 0, .int .u64 0, .int .u64 0, .string ⟨#[]⟩] 25)).alloc (.cells (Lib.cellsOf ps NN) 9)).alloc (.cells #[.slice (some ⟨w.heap.size + 1, 0, none⟩) m NN] 57) := ⟨_, rfl⟩
  rw [← hW0] at hst0 ⊢
  clear hg hW0
  refine (unhide (HN0 _ _ hst0.nx)).mono ?_
  rintro e W1 ⟨rfl, hn1, ho1⟩
  have HST := Lib.hid (hst0.next hn1 ho1)
  clear hst0 hn1 ho1
  go_wp2_with (first
    | (go_at_call 39; (with_reducible refine (unhide (HKO _ (HST.out.bel))).mono ?_); rintro e w9 ⟨rfl, hw⟩; rw [hw]; clear hw w9)
    | (go_at_call 24; (with_reducible refine (unhide (HA _)).mono ?_); rintro e w9 ⟨rfl, hw⟩; rw [hw]; clear hw w9)
    | (go_at_call 25; (with_reducible refine (unhide (HB _)).mono ?_); rintro e w9 ⟨rfl, hw⟩; rw [hw]; clear hw w9)
    | (go_at_call 22; (with_reducible refine (unhide (HN _)).mono ?_); rintro e w9 ⟨rfl, hw⟩; rw [hw]; clear hw w9))
  have hst := HST.out.box K
  obtain ⟨g2, hg2⟩ : ∃ g2, g2 = W1.heap.size := ⟨_, rfl⟩
  rw [← hg2] at hst ⊢
  obtain ⟨W, hW⟩ : ∃ W, W = W1.alloc (.cells #[.int .u8 (K : Int), .int .u64 0, .int .u64 0, .string ⟨#[]⟩] 25) := ⟨_, rfl⟩
  rw [← hW] at hst ⊢
  clear hg2 hW HST
  refine (unhide (HN1 _ _ hst.nx)).mono ?_
  rintro e V1 ⟨rfl, hn, ho⟩
  have hst := hst.next hn ho
  clear hn ho
  go_wp2_with (first
    | (go_at_call 40; (with_reducible refine (unhide (HI1 _ hst.bel)).mono ?_); rintro e U1 ⟨rfl, hb⟩; go_loud (
       have hst := hst.below hb;
       obtain ⟨hne1, hne2⟩ := hst.ne;
       obtain ⟨z0, z1, z2, z3, f0, f1, f2, f3⟩ := hst.ob.cells;
       obtain ⟨y0, y1, y2, y3, x0, x1, x2, x3⟩ := hst.r0.cells;
       clear hb))
    | (go_at_call 24; (with_reducible refine (unhide (HA _)).mono ?_); rintro e w9 ⟨rfl, hw⟩; rw [hw]; clear hw w9)
    | (go_at_call 25; (with_reducible refine (unhide (HB _)).mono ?_); rintro e w9 ⟨rfl, hw⟩; rw [hw]; clear hw w9)
    | (go_at_call 22; (with_reducible refine (unhide (HN _)).mono ?_); rintro e w9 ⟨rfl, hw⟩; rw [hw]; clear hw w9))
  have hst := hst.setA PA
  obtain ⟨X1, hX⟩ : ∃ X, X = U1.setCell ⟨g2, 1, none⟩ (.int .u64 (PA : Int)) := ⟨_, rfl⟩
  rw [← hX] at hst ⊢
  clear hX z0 z1 z2 z3 f0 f1 f2 f3 y0 y1 y2 y3 x0 x1 x2 x3
  refine (unhide (HN2 _ _ hst.nx)).mono ?_
  rintro e V2 ⟨rfl, hn, ho⟩
  have hst := hst.next hn ho
  clear hn ho
  go_wp2_with (first
    | (go_at_call 40; (with_reducible refine (unhide (HI2 _ hst.bel)).mono ?_); rintro e U2 ⟨rfl, hb⟩; go_loud (
       have hst := hst.below hb;
       obtain ⟨hne1, hne2⟩ := hst.ne;
       obtain ⟨z0, z1, z2, z3, f0, f1, f2, f3⟩ := hst.ob.cells;
       obtain ⟨y0, y1, y2, y3, x0, x1, x2, x3⟩ := hst.r0.cells;
       clear hb))
    | (go_at_call 24; (with_reducible refine (unhide (HA _)).mono ?_); rintro e w9 ⟨rfl, hw⟩; rw [hw]; clear hw w9)
    | (go_at_call 25; (with_reducible refine (unhide (HB _)).mono ?_); rintro e w9 ⟨rfl, hw⟩; rw [hw]; clear hw w9)
    | (go_at_call 22; (with_reducible refine (unhide (HN _)).mono ?_); rintro e w9 ⟨rfl, hw⟩; rw [hw]; clear hw w9)
    | (go_at_call 9; (with_reducible refine (unhide (HRT _ (hst.setB PB).bel)).mono ?_); rintro e R1 ⟨rfl, hb⟩; go_loud (
       have hst := (hst.setB PB).below hb;
       obtain ⟨hne1, hne2⟩ := hst.ne;
       obtain ⟨z0, z1, z2, z3, f0, f1, f2, f3⟩ := hst.ob.cells;
       obtain ⟨y0, y1, y2, y3, x0, x1, x2, x3⟩ := hst.r0.cells;
       clear hb)))
  refine op_ret2 (p := 2) (u := 3) (g := w.heap.size) (cs := #[.int .u8 0, .int .u64 0, .int .u64 0, .string ⟨#[]⟩]) rfl rfl rfl rfl (op_put hst.r0) rfl ?_
  exact ⟨below_put hst.bel (Nat.le_refl _), .inr ⟨HFIN.out, rfl⟩⟩
set_option maxRecDepth 100000 in
set_option maxHeartbeats 4000000 in
theorem read_2y (w : World) (line : ByteArray) (ps : List ByteArray) (NN K PA PB : Nat) (S : ByteArray) (hps : ps = lineB line) (hNN : NN = min 4 (line.size + 1)) (hline : line.size ≤ 1000000) (hv : Vo w) (he : Ve w) (hK14 : K ≤ 14)
    (hK : kindL (str (ps.headD ⟨#[]⟩)) = K) (hA : aK K = true) (hB : bK K = true) (hN : nK K = false)
    (hPA : parseN (str ((ps.drop 1).headD ⟨#[]⟩)) = PA) (hPB : parseN (str ((ps.drop 1).drop 1 |>.headD ⟨#[]⟩)) = PB)
    (hS : S = ⟨#[]⟩) (hPAl : PA < 18446744073709551616) (hPBl : PB < 18446744073709551616) (hSz : S.size ≤ 1000000)
    (hr : rightO K PA PB (str S) = true) (ht : textO K PA PB (str S) = str line) :
    Calls Tryz.prog 13 #[.string line] w (ReadR w line K PA PB S) := by
  have HS := fun (x : World) => hide (split_any x line (by omega))
  have hl4 : ps.length ≤ 4 := by rw [hps]; exact Nat.le_trans (splitB_lek _ _) (by omega)
  have hlN : ps.length ≤ NN := by rw [hps, hNN]; exact Nat.le_trans (splitB_lek _ _) (by omega)
  have hall : ∀ x ∈ ps, x.size ≤ 1000000 := fun x hx => Nat.le_trans (splitB_size _ _ x (by rw [hps] at hx; exact hx)) hline
  have hhd : ∀ l : List ByteArray, (∀ x ∈ l, x ∈ ps) → (l.headD ⟨#[]⟩).size ≤ 1000000 := fun l h => by
    rcases l with _ | ⟨x, r⟩
    · show (0 : Nat) ≤ _; omega
    · exact hall x (h x (by simp))
  rw [← hps, ← hNN] at HS
  have HNEW := Lib.hid (parts_new w ps NN hlN)
  obtain ⟨m, hm⟩ : ∃ m, ps.length = m := ⟨_, rfl⟩
  rw [hm] at HS HNEW
  have hK256 : K < 256 := by omega
  have HKO := fun (x : World) (h : Below w.heap.size w x) => hide (kindof_any x (ps.headD ⟨#[]⟩) (hv.below h))
  rw [hK] at HKO
  have HA := fun (x : World) => hide (hasA_any x K hK256)
  have HB := fun (x : World) => hide (hasB_any x K hK256)
  have HN := fun (x : World) => hide (hasN_any x K hK256)
  rw [hA] at HA
  rw [hB] at HB
  rw [hN] at HN
  have HN0 := fun (x : World) (g : Nat) (h : Nx x g ps) => hide (next_any x g ps (by omega) h)
  have HN1 := fun (x : World) (g : Nat) (h : Nx x g (ps.drop 1)) => hide (next_any x g (ps.drop 1) (by rw [List.length_drop]; omega) h)
  have HN2 := fun (x : World) (g : Nat) (h : Nx x g ((ps.drop 1).drop 1)) => hide (next_any x g ((ps.drop 1).drop 1) (by rw [List.length_drop, List.length_drop]; omega) h)
  have HN3 := fun (x : World) (g : Nat) (h : Nx x g (((ps.drop 1).drop 1).drop 1)) => hide (next_any x g (((ps.drop 1).drop 1).drop 1) (by rw [List.length_drop, List.length_drop, List.length_drop]; omega) h)
  have HI1 := fun (x : World) (h : Below w.heap.size w x) => hide (idof_any x ((ps.drop 1).headD ⟨#[]⟩) (Nat.le_trans (hhd _ fun y hy => List.mem_of_mem_drop hy) (by omega)) (he.below h))
  have HI2 := fun (x : World) (h : Below w.heap.size w x) => hide (idof_any x (((ps.drop 1).drop 1).headD ⟨#[]⟩) (Nat.le_trans (hhd _ fun y hy => List.mem_of_mem_drop (List.mem_of_mem_drop hy)) (by omega)) (he.below h))
  obtain ⟨q0, hq0⟩ : ∃ q, ps.headD ⟨#[]⟩ = q := ⟨_, rfl⟩
  rw [hq0] at HN0 HKO
  obtain ⟨q1, hq1⟩ : ∃ q, (ps.drop 1).headD ⟨#[]⟩ = q := ⟨_, rfl⟩
  rw [hq1] at HN1 HI1
  obtain ⟨q2, hq2⟩ : ∃ q, ((ps.drop 1).drop 1).headD ⟨#[]⟩ = q := ⟨_, rfl⟩
  rw [hq2] at HN2 HI2
  rw [show parseN (str q1) = PA by rw [← hq1]; exact hPA] at HI1
  rw [show parseN (str q2) = PB by rw [← hq2]; exact hPB] at HI2
  subst hS
  have HRT := fun (x : World) (h : Below w.heap.size w x) => hide (right_any x K PA PB ⟨#[]⟩ hK256 (Nat.le_trans hSz (by omega)) (hv.below h))
  have HTX := fun (x : World) (h : Below w.heap.size w x) => hide (text_good x K PA PB ⟨#[]⟩ hK256 (Nat.le_trans hSz (by omega)) hPAl hPBl (hv.below h) hr)
  rw [hr] at HRT
  have hq : ba (textO K PA PB (str ⟨#[]⟩)) = line := by rw [ht, ba_str]
  rw [hq] at HTX
  have hqq : (line.toList == line.toList) = true := beq_self_eq_true _
  have HFIN := Lib.hid (And.intro hr ht)
  have HCL := fun (x : World) => hide (clone_any x ⟨#[]⟩ (Nat.le_trans hSz (by omega)))
  unfold opV at HRT
  unfold opV at HTX
  clear hq0 hq1 hq2 hps hNN hK hA hB hN hhd hall hl4 hlN hm hPA hPB hr ht hv he hK14 hPAl hPBl hSz hline hK256 hq
  go_enter Tryz.func13, Tryz.ntmps13
  go_wp2_with (go_at_call 37; (with_reducible refine (unhide (HS _)).mono ?_); rintro e w1 ⟨rfl, rfl⟩)
  have hst0 := HNEW.out
  obtain ⟨g, hg⟩ : ∃ g, g = w.heap.size + 1 + 1 := ⟨_, rfl⟩
  rw [← hg] at hst0 ⊢
  obtain ⟨W0, hW0⟩ : ∃ W0, W0 = ((w.alloc (.cells #[.int .u8 0, .int .u64 0, .int .u64 0, .string ⟨#[]⟩] 25)).alloc (.cells (Lib.cellsOf ps NN) 9)).alloc (.cells #[.slice (some ⟨w.heap.size + 1, 0, none⟩) m NN] 57) := ⟨_, rfl⟩
  rw [← hW0] at hst0 ⊢
  clear hg hW0
  refine (unhide (HN0 _ _ hst0.nx)).mono ?_
  rintro e W1 ⟨rfl, hn1, ho1⟩
  have HST := Lib.hid (hst0.next hn1 ho1)
  clear hst0 hn1 ho1
  go_wp2_with (first
    | (go_at_call 39; (with_reducible refine (unhide (HKO _ (HST.out.bel))).mono ?_); rintro e w9 ⟨rfl, hw⟩; rw [hw]; clear hw w9)
    | (go_at_call 24; (with_reducible refine (unhide (HA _)).mono ?_); rintro e w9 ⟨rfl, hw⟩; rw [hw]; clear hw w9)
    | (go_at_call 25; (with_reducible refine (unhide (HB _)).mono ?_); rintro e w9 ⟨rfl, hw⟩; rw [hw]; clear hw w9)
    | (go_at_call 22; (with_reducible refine (unhide (HN _)).mono ?_); rintro e w9 ⟨rfl, hw⟩; rw [hw]; clear hw w9))
  have hst := HST.out.box K
  obtain ⟨g2, hg2⟩ : ∃ g2, g2 = W1.heap.size := ⟨_, rfl⟩
  rw [← hg2] at hst ⊢
  obtain ⟨W, hW⟩ : ∃ W, W = W1.alloc (.cells #[.int .u8 (K : Int), .int .u64 0, .int .u64 0, .string ⟨#[]⟩] 25) := ⟨_, rfl⟩
  rw [← hW] at hst ⊢
  clear hg2 hW HST
  refine (unhide (HN1 _ _ hst.nx)).mono ?_
  rintro e V1 ⟨rfl, hn, ho⟩
  have hst := hst.next hn ho
  clear hn ho
  go_wp2_with (first
    | (go_at_call 40; (with_reducible refine (unhide (HI1 _ hst.bel)).mono ?_); rintro e U1 ⟨rfl, hb⟩; go_loud (
       have hst := hst.below hb;
       obtain ⟨hne1, hne2⟩ := hst.ne;
       obtain ⟨z0, z1, z2, z3, f0, f1, f2, f3⟩ := hst.ob.cells;
       obtain ⟨y0, y1, y2, y3, x0, x1, x2, x3⟩ := hst.r0.cells;
       clear hb))
    | (go_at_call 24; (with_reducible refine (unhide (HA _)).mono ?_); rintro e w9 ⟨rfl, hw⟩; rw [hw]; clear hw w9)
    | (go_at_call 25; (with_reducible refine (unhide (HB _)).mono ?_); rintro e w9 ⟨rfl, hw⟩; rw [hw]; clear hw w9)
    | (go_at_call 22; (with_reducible refine (unhide (HN _)).mono ?_); rintro e w9 ⟨rfl, hw⟩; rw [hw]; clear hw w9))
  have hst := hst.setA PA
  obtain ⟨X1, hX⟩ : ∃ X, X = U1.setCell ⟨g2, 1, none⟩ (.int .u64 (PA : Int)) := ⟨_, rfl⟩
  rw [← hX] at hst ⊢
  clear hX z0 z1 z2 z3 f0 f1 f2 f3 y0 y1 y2 y3 x0 x1 x2 x3
  refine (unhide (HN2 _ _ hst.nx)).mono ?_
  rintro e V2 ⟨rfl, hn, ho⟩
  have hst := hst.next hn ho
  clear hn ho
  go_wp2_with (first
    | (go_at_call 40; (with_reducible refine (unhide (HI2 _ hst.bel)).mono ?_); rintro e U2 ⟨rfl, hb⟩; go_loud (
       have hst := hst.below hb;
       obtain ⟨hne1, hne2⟩ := hst.ne;
       obtain ⟨z0, z1, z2, z3, f0, f1, f2, f3⟩ := hst.ob.cells;
       obtain ⟨y0, y1, y2, y3, x0, x1, x2, x3⟩ := hst.r0.cells;
       clear hb))
    | (go_at_call 24; (with_reducible refine (unhide (HA _)).mono ?_); rintro e w9 ⟨rfl, hw⟩; rw [hw]; clear hw w9)
    | (go_at_call 25; (with_reducible refine (unhide (HB _)).mono ?_); rintro e w9 ⟨rfl, hw⟩; rw [hw]; clear hw w9)
    | (go_at_call 22; (with_reducible refine (unhide (HN _)).mono ?_); rintro e w9 ⟨rfl, hw⟩; rw [hw]; clear hw w9)
    | (go_at_call 9; (with_reducible refine (unhide (HRT _ (hst.setB PB).bel)).mono ?_); rintro e R1 ⟨rfl, hb⟩; go_loud (
       have hst := (hst.setB PB).below hb;
       obtain ⟨hne1, hne2⟩ := hst.ne;
       obtain ⟨z0, z1, z2, z3, f0, f1, f2, f3⟩ := hst.ob.cells;
       obtain ⟨y0, y1, y2, y3, x0, x1, x2, x3⟩ := hst.r0.cells;
       clear hb))
    | (go_at_call 11; (with_reducible refine (unhide (HTX _ hst.bel)).mono ?_); rintro e R2 ⟨rfl, hb⟩; go_loud (
       have hst := hst.below hb;
       obtain ⟨hne1, hne2⟩ := hst.ne;
       obtain ⟨z0, z1, z2, z3, f0, f1, f2, f3⟩ := hst.ob.cells;
       obtain ⟨y0, y1, y2, y3, x0, x1, x2, x3⟩ := hst.r0.cells;
       clear hb))
    | (go_at_call 41; (with_reducible refine (unhide (HCL _)).mono ?_); rintro e R3 ⟨rfl, hb⟩; go_loud (
       have hst := hst.below hb;
       obtain ⟨hne1, hne2⟩ := hst.ne;
       obtain ⟨z0, z1, z2, z3, f0, f1, f2, f3⟩ := hst.ob.cells;
       obtain ⟨y0, y1, y2, y3, x0, x1, x2, x3⟩ := hst.r0.cells;
       clear hb)))
  have hst := hst.setN ⟨#[]⟩
  refine op_ret2 (p := 2) (u := 3) (g := w.heap.size) (cs := #[.int .u8 (K : Int), .int .u64 (PA : Int), .int .u64 (PB : Int), .string ⟨#[]⟩]) rfl rfl rfl rfl (op_put hst.r0) rfl ?_
  exact ⟨below_put hst.bel (Nat.le_refl _), .inl ⟨HFIN.out.1, HFIN.out.2, rfl⟩⟩
set_option maxRecDepth 100000 in
set_option maxHeartbeats 4000000 in
theorem read_2z (w : World) (line : ByteArray) (ps : List ByteArray) (NN K PA PB : Nat) (S : ByteArray) (hps : ps = lineB line) (hNN : NN = min 4 (line.size + 1)) (hline : line.size ≤ 1000000) (hv : Vo w) (he : Ve w) (hK14 : K ≤ 14)
    (hK : kindL (str (ps.headD ⟨#[]⟩)) = K) (hA : aK K = true) (hB : bK K = true) (hN : nK K = false)
    (hPA : parseN (str ((ps.drop 1).headD ⟨#[]⟩)) = PA) (hPB : parseN (str ((ps.drop 1).drop 1 |>.headD ⟨#[]⟩)) = PB)
    (hS : S = ⟨#[]⟩) (hPAl : PA < 18446744073709551616) (hPBl : PB < 18446744073709551616) (hSz : S.size ≤ 1000000)
    (hr : rightO K PA PB (str S) = true) (ht : textO K PA PB (str S) ≠ str line) :
    Calls Tryz.prog 13 #[.string line] w (ReadR w line K PA PB S) := by
  have HS := fun (x : World) => hide (split_any x line (by omega))
  have hl4 : ps.length ≤ 4 := by rw [hps]; exact Nat.le_trans (splitB_lek _ _) (by omega)
  have hlN : ps.length ≤ NN := by rw [hps, hNN]; exact Nat.le_trans (splitB_lek _ _) (by omega)
  have hall : ∀ x ∈ ps, x.size ≤ 1000000 := fun x hx => Nat.le_trans (splitB_size _ _ x (by rw [hps] at hx; exact hx)) hline
  have hhd : ∀ l : List ByteArray, (∀ x ∈ l, x ∈ ps) → (l.headD ⟨#[]⟩).size ≤ 1000000 := fun l h => by
    rcases l with _ | ⟨x, r⟩
    · show (0 : Nat) ≤ _; omega
    · exact hall x (h x (by simp))
  rw [← hps, ← hNN] at HS
  have HNEW := Lib.hid (parts_new w ps NN hlN)
  obtain ⟨m, hm⟩ : ∃ m, ps.length = m := ⟨_, rfl⟩
  rw [hm] at HS HNEW
  have hK256 : K < 256 := by omega
  have HKO := fun (x : World) (h : Below w.heap.size w x) => hide (kindof_any x (ps.headD ⟨#[]⟩) (hv.below h))
  rw [hK] at HKO
  have HA := fun (x : World) => hide (hasA_any x K hK256)
  have HB := fun (x : World) => hide (hasB_any x K hK256)
  have HN := fun (x : World) => hide (hasN_any x K hK256)
  rw [hA] at HA
  rw [hB] at HB
  rw [hN] at HN
  have HN0 := fun (x : World) (g : Nat) (h : Nx x g ps) => hide (next_any x g ps (by omega) h)
  have HN1 := fun (x : World) (g : Nat) (h : Nx x g (ps.drop 1)) => hide (next_any x g (ps.drop 1) (by rw [List.length_drop]; omega) h)
  have HN2 := fun (x : World) (g : Nat) (h : Nx x g ((ps.drop 1).drop 1)) => hide (next_any x g ((ps.drop 1).drop 1) (by rw [List.length_drop, List.length_drop]; omega) h)
  have HN3 := fun (x : World) (g : Nat) (h : Nx x g (((ps.drop 1).drop 1).drop 1)) => hide (next_any x g (((ps.drop 1).drop 1).drop 1) (by rw [List.length_drop, List.length_drop, List.length_drop]; omega) h)
  have HI1 := fun (x : World) (h : Below w.heap.size w x) => hide (idof_any x ((ps.drop 1).headD ⟨#[]⟩) (Nat.le_trans (hhd _ fun y hy => List.mem_of_mem_drop hy) (by omega)) (he.below h))
  have HI2 := fun (x : World) (h : Below w.heap.size w x) => hide (idof_any x (((ps.drop 1).drop 1).headD ⟨#[]⟩) (Nat.le_trans (hhd _ fun y hy => List.mem_of_mem_drop (List.mem_of_mem_drop hy)) (by omega)) (he.below h))
  obtain ⟨q0, hq0⟩ : ∃ q, ps.headD ⟨#[]⟩ = q := ⟨_, rfl⟩
  rw [hq0] at HN0 HKO
  obtain ⟨q1, hq1⟩ : ∃ q, (ps.drop 1).headD ⟨#[]⟩ = q := ⟨_, rfl⟩
  rw [hq1] at HN1 HI1
  obtain ⟨q2, hq2⟩ : ∃ q, ((ps.drop 1).drop 1).headD ⟨#[]⟩ = q := ⟨_, rfl⟩
  rw [hq2] at HN2 HI2
  rw [show parseN (str q1) = PA by rw [← hq1]; exact hPA] at HI1
  rw [show parseN (str q2) = PB by rw [← hq2]; exact hPB] at HI2
  subst hS
  have HRT := fun (x : World) (h : Below w.heap.size w x) => hide (right_any x K PA PB ⟨#[]⟩ hK256 (Nat.le_trans hSz (by omega)) (hv.below h))
  have HTX := fun (x : World) (h : Below w.heap.size w x) => hide (text_good x K PA PB ⟨#[]⟩ hK256 (Nat.le_trans hSz (by omega)) hPAl hPBl (hv.below h) hr)
  rw [hr] at HRT
  obtain ⟨tx, htx⟩ : ∃ tx, ba (textO K PA PB (str ⟨#[]⟩)) = tx := ⟨_, rfl⟩
  rw [htx] at HTX
  have hqq : (tx.toList == line.toList) = false := toL_ne fun e => ht (by
    rw [← e, ← htx]
    exact (str_ba (textO_byte hr)).symm)
  have HFIN := Lib.hid (show ¬ (rightO K PA PB (str ⟨#[]⟩) = true ∧ textO K PA PB (str ⟨#[]⟩) = str line) from fun h => ht h.2)
  unfold opV at HRT
  unfold opV at HTX
  clear hq0 hq1 hq2 hps hNN hK hA hB hN hhd hall hl4 hlN hm hPA hPB hr ht hv he hK14 hPAl hPBl hSz hline hK256 htx
  go_enter Tryz.func13, Tryz.ntmps13
  go_wp2_with (go_at_call 37; (with_reducible refine (unhide (HS _)).mono ?_); rintro e w1 ⟨rfl, rfl⟩)
  have hst0 := HNEW.out
  obtain ⟨g, hg⟩ : ∃ g, g = w.heap.size + 1 + 1 := ⟨_, rfl⟩
  rw [← hg] at hst0 ⊢
  obtain ⟨W0, hW0⟩ : ∃ W0, W0 = ((w.alloc (.cells #[.int .u8 0, .int .u64 0, .int .u64 0, .string ⟨#[]⟩] 25)).alloc (.cells (Lib.cellsOf ps NN) 9)).alloc (.cells #[.slice (some ⟨w.heap.size + 1, 0, none⟩) m NN] 57) := ⟨_, rfl⟩
  rw [← hW0] at hst0 ⊢
  clear hg hW0
  refine (unhide (HN0 _ _ hst0.nx)).mono ?_
  rintro e W1 ⟨rfl, hn1, ho1⟩
  have HST := Lib.hid (hst0.next hn1 ho1)
  clear hst0 hn1 ho1
  go_wp2_with (first
    | (go_at_call 39; (with_reducible refine (unhide (HKO _ (HST.out.bel))).mono ?_); rintro e w9 ⟨rfl, hw⟩; rw [hw]; clear hw w9)
    | (go_at_call 24; (with_reducible refine (unhide (HA _)).mono ?_); rintro e w9 ⟨rfl, hw⟩; rw [hw]; clear hw w9)
    | (go_at_call 25; (with_reducible refine (unhide (HB _)).mono ?_); rintro e w9 ⟨rfl, hw⟩; rw [hw]; clear hw w9)
    | (go_at_call 22; (with_reducible refine (unhide (HN _)).mono ?_); rintro e w9 ⟨rfl, hw⟩; rw [hw]; clear hw w9))
  have hst := HST.out.box K
  obtain ⟨g2, hg2⟩ : ∃ g2, g2 = W1.heap.size := ⟨_, rfl⟩
  rw [← hg2] at hst ⊢
  obtain ⟨W, hW⟩ : ∃ W, W = W1.alloc (.cells #[.int .u8 (K : Int), .int .u64 0, .int .u64 0, .string ⟨#[]⟩] 25) := ⟨_, rfl⟩
  rw [← hW] at hst ⊢
  clear hg2 hW HST
  refine (unhide (HN1 _ _ hst.nx)).mono ?_
  rintro e V1 ⟨rfl, hn, ho⟩
  have hst := hst.next hn ho
  clear hn ho
  go_wp2_with (first
    | (go_at_call 40; (with_reducible refine (unhide (HI1 _ hst.bel)).mono ?_); rintro e U1 ⟨rfl, hb⟩; go_loud (
       have hst := hst.below hb;
       obtain ⟨hne1, hne2⟩ := hst.ne;
       obtain ⟨z0, z1, z2, z3, f0, f1, f2, f3⟩ := hst.ob.cells;
       obtain ⟨y0, y1, y2, y3, x0, x1, x2, x3⟩ := hst.r0.cells;
       clear hb))
    | (go_at_call 24; (with_reducible refine (unhide (HA _)).mono ?_); rintro e w9 ⟨rfl, hw⟩; rw [hw]; clear hw w9)
    | (go_at_call 25; (with_reducible refine (unhide (HB _)).mono ?_); rintro e w9 ⟨rfl, hw⟩; rw [hw]; clear hw w9)
    | (go_at_call 22; (with_reducible refine (unhide (HN _)).mono ?_); rintro e w9 ⟨rfl, hw⟩; rw [hw]; clear hw w9))
  have hst := hst.setA PA
  obtain ⟨X1, hX⟩ : ∃ X, X = U1.setCell ⟨g2, 1, none⟩ (.int .u64 (PA : Int)) := ⟨_, rfl⟩
  rw [← hX] at hst ⊢
  clear hX z0 z1 z2 z3 f0 f1 f2 f3 y0 y1 y2 y3 x0 x1 x2 x3
  refine (unhide (HN2 _ _ hst.nx)).mono ?_
  rintro e V2 ⟨rfl, hn, ho⟩
  have hst := hst.next hn ho
  clear hn ho
  go_wp2_with (first
    | (go_at_call 40; (with_reducible refine (unhide (HI2 _ hst.bel)).mono ?_); rintro e U2 ⟨rfl, hb⟩; go_loud (
       have hst := hst.below hb;
       obtain ⟨hne1, hne2⟩ := hst.ne;
       obtain ⟨z0, z1, z2, z3, f0, f1, f2, f3⟩ := hst.ob.cells;
       obtain ⟨y0, y1, y2, y3, x0, x1, x2, x3⟩ := hst.r0.cells;
       clear hb))
    | (go_at_call 24; (with_reducible refine (unhide (HA _)).mono ?_); rintro e w9 ⟨rfl, hw⟩; rw [hw]; clear hw w9)
    | (go_at_call 25; (with_reducible refine (unhide (HB _)).mono ?_); rintro e w9 ⟨rfl, hw⟩; rw [hw]; clear hw w9)
    | (go_at_call 22; (with_reducible refine (unhide (HN _)).mono ?_); rintro e w9 ⟨rfl, hw⟩; rw [hw]; clear hw w9)
    | (go_at_call 9; (with_reducible refine (unhide (HRT _ (hst.setB PB).bel)).mono ?_); rintro e R1 ⟨rfl, hb⟩; go_loud (
       have hst := (hst.setB PB).below hb;
       obtain ⟨hne1, hne2⟩ := hst.ne;
       obtain ⟨z0, z1, z2, z3, f0, f1, f2, f3⟩ := hst.ob.cells;
       obtain ⟨y0, y1, y2, y3, x0, x1, x2, x3⟩ := hst.r0.cells;
       clear hb))
    | (go_at_call 11; (with_reducible refine (unhide (HTX _ hst.bel)).mono ?_); rintro e R2 ⟨rfl, hb⟩; go_loud (
       have hst := hst.below hb;
       obtain ⟨hne1, hne2⟩ := hst.ne;
       obtain ⟨z0, z1, z2, z3, f0, f1, f2, f3⟩ := hst.ob.cells;
       obtain ⟨y0, y1, y2, y3, x0, x1, x2, x3⟩ := hst.r0.cells;
       clear hb)))
  refine op_ret2 (p := 2) (u := 3) (g := w.heap.size) (cs := #[.int .u8 0, .int .u64 0, .int .u64 0, .string ⟨#[]⟩]) rfl rfl rfl rfl (op_put hst.r0) rfl ?_
  exact ⟨below_put hst.bel (Nat.le_refl _), .inr ⟨HFIN.out, rfl⟩⟩
end Go.Proofs.YtfnobibjphnmdaaGreatDoor
namespace Go.Proofs.YtfnobibjphnmdaaGreatDoor
open Go.RowKit
set_option linter.unusedVariables false
set_option linter.unusedSimpArgs false
set_option maxRecDepth 100000 in
set_option maxHeartbeats 4000000 in
theorem read_3x (w : World) (line : ByteArray) (ps : List ByteArray) (NN K PA PB : Nat) (S : ByteArray) (hps : ps = lineB line) (hNN : NN = min 4 (line.size + 1)) (hline : line.size ≤ 1000000) (hv : Vo w) (he : Ve w) (hK14 : K ≤ 14)
    (hK : kindL (str (ps.headD ⟨#[]⟩)) = K) (hA : aK K = true) (hB : bK K = true) (hN : nK K = true)
    (hPA : parseN (str ((ps.drop 1).headD ⟨#[]⟩)) = PA) (hPB : parseN (str ((ps.drop 1).drop 1 |>.headD ⟨#[]⟩)) = PB)
    (hS : (((ps.drop 1).drop 1).drop 1).headD ⟨#[]⟩ = S) (hPAl : PA < 18446744073709551616) (hPBl : PB < 18446744073709551616) (hSz : S.size ≤ 1000000)
    (hr : rightO K PA PB (str S) = false) :
    Calls Tryz.prog 13 #[.string line] w (ReadR w line K PA PB S) := by
  have HS := fun (x : World) => hide (split_any x line (by omega))
  have hl4 : ps.length ≤ 4 := by rw [hps]; exact Nat.le_trans (splitB_lek _ _) (by omega)
  have hlN : ps.length ≤ NN := by rw [hps, hNN]; exact Nat.le_trans (splitB_lek _ _) (by omega)
  have hall : ∀ x ∈ ps, x.size ≤ 1000000 := fun x hx => Nat.le_trans (splitB_size _ _ x (by rw [hps] at hx; exact hx)) hline
  have hhd : ∀ l : List ByteArray, (∀ x ∈ l, x ∈ ps) → (l.headD ⟨#[]⟩).size ≤ 1000000 := fun l h => by
    rcases l with _ | ⟨x, r⟩
    · show (0 : Nat) ≤ _; omega
    · exact hall x (h x (by simp))
  rw [← hps, ← hNN] at HS
  have HNEW := Lib.hid (parts_new w ps NN hlN)
  obtain ⟨m, hm⟩ : ∃ m, ps.length = m := ⟨_, rfl⟩
  rw [hm] at HS HNEW
  have hK256 : K < 256 := by omega
  have HKO := fun (x : World) (h : Below w.heap.size w x) => hide (kindof_any x (ps.headD ⟨#[]⟩) (hv.below h))
  rw [hK] at HKO
  have HA := fun (x : World) => hide (hasA_any x K hK256)
  have HB := fun (x : World) => hide (hasB_any x K hK256)
  have HN := fun (x : World) => hide (hasN_any x K hK256)
  rw [hA] at HA
  rw [hB] at HB
  rw [hN] at HN
  have HN0 := fun (x : World) (g : Nat) (h : Nx x g ps) => hide (next_any x g ps (by omega) h)
  have HN1 := fun (x : World) (g : Nat) (h : Nx x g (ps.drop 1)) => hide (next_any x g (ps.drop 1) (by rw [List.length_drop]; omega) h)
  have HN2 := fun (x : World) (g : Nat) (h : Nx x g ((ps.drop 1).drop 1)) => hide (next_any x g ((ps.drop 1).drop 1) (by rw [List.length_drop, List.length_drop]; omega) h)
  have HN3 := fun (x : World) (g : Nat) (h : Nx x g (((ps.drop 1).drop 1).drop 1)) => hide (next_any x g (((ps.drop 1).drop 1).drop 1) (by rw [List.length_drop, List.length_drop, List.length_drop]; omega) h)
  have HI1 := fun (x : World) (h : Below w.heap.size w x) => hide (idof_any x ((ps.drop 1).headD ⟨#[]⟩) (Nat.le_trans (hhd _ fun y hy => List.mem_of_mem_drop hy) (by omega)) (he.below h))
  have HI2 := fun (x : World) (h : Below w.heap.size w x) => hide (idof_any x (((ps.drop 1).drop 1).headD ⟨#[]⟩) (Nat.le_trans (hhd _ fun y hy => List.mem_of_mem_drop (List.mem_of_mem_drop hy)) (by omega)) (he.below h))
  obtain ⟨q0, hq0⟩ : ∃ q, ps.headD ⟨#[]⟩ = q := ⟨_, rfl⟩
  rw [hq0] at HN0 HKO
  obtain ⟨q1, hq1⟩ : ∃ q, (ps.drop 1).headD ⟨#[]⟩ = q := ⟨_, rfl⟩
  rw [hq1] at HN1 HI1
  obtain ⟨q2, hq2⟩ : ∃ q, ((ps.drop 1).drop 1).headD ⟨#[]⟩ = q := ⟨_, rfl⟩
  rw [hq2] at HN2 HI2
  rw [show parseN (str q1) = PA by rw [← hq1]; exact hPA] at HI1
  rw [show parseN (str q2) = PB by rw [← hq2]; exact hPB] at HI2
  rw [show (((ps.drop 1).drop 1).drop 1).headD ⟨#[]⟩ = S from hS] at HN3
  have HRT := fun (x : World) (h : Below w.heap.size w x) => hide (right_any x K PA PB S hK256 (Nat.le_trans hSz (by omega)) (hv.below h))
  rw [hr] at HRT
  have HFIN := Lib.hid (show ¬ (rightO K PA PB (str S) = true ∧ textO K PA PB (str S) = str line) from fun h => by rw [hr] at h; exact absurd h.1 (by decide))
  unfold opV at HRT
  clear hq0 hq1 hq2 hps hNN hK hA hB hN hhd hall hl4 hlN hm hPA hPB hS hr hv he hK14 hPAl hPBl hSz hline hK256
  go_enter Tryz.func13, Tryz.ntmps13
  go_wp2_with (go_at_call 37; (with_reducible refine (unhide (HS _)).mono ?_); rintro e w1 ⟨rfl, rfl⟩)
  have hst0 := HNEW.out
  obtain ⟨g, hg⟩ : ∃ g, g = w.heap.size + 1 + 1 := ⟨_, rfl⟩
  rw [← hg] at hst0 ⊢
  obtain ⟨W0, hW0⟩ : ∃ W0, W0 = ((w.alloc (.cells #[.int .u8 0, .int .u64 0, .int .u64 0, .string ⟨#[]⟩] 25)).alloc (.cells (Lib.cellsOf ps NN) 9)).alloc (.cells #[.slice (some ⟨w.heap.size + 1, 0, none⟩) m NN] 57) := ⟨_, rfl⟩
  rw [← hW0] at hst0 ⊢
  clear hg hW0
  refine (unhide (HN0 _ _ hst0.nx)).mono ?_
  rintro e W1 ⟨rfl, hn1, ho1⟩
  have HST := Lib.hid (hst0.next hn1 ho1)
  clear hst0 hn1 ho1
  go_wp2_with (first
    | (go_at_call 39; (with_reducible refine (unhide (HKO _ (HST.out.bel))).mono ?_); rintro e w9 ⟨rfl, hw⟩; rw [hw]; clear hw w9)
    | (go_at_call 24; (with_reducible refine (unhide (HA _)).mono ?_); rintro e w9 ⟨rfl, hw⟩; rw [hw]; clear hw w9)
    | (go_at_call 25; (with_reducible refine (unhide (HB _)).mono ?_); rintro e w9 ⟨rfl, hw⟩; rw [hw]; clear hw w9)
    | (go_at_call 22; (with_reducible refine (unhide (HN _)).mono ?_); rintro e w9 ⟨rfl, hw⟩; rw [hw]; clear hw w9))
  have hst := HST.out.box K
  obtain ⟨g2, hg2⟩ : ∃ g2, g2 = W1.heap.size := ⟨_, rfl⟩
  rw [← hg2] at hst ⊢
  obtain ⟨W, hW⟩ : ∃ W, W = W1.alloc (.cells #[.int .u8 (K : Int), .int .u64 0, .int .u64 0, .string ⟨#[]⟩] 25) := ⟨_, rfl⟩
  rw [← hW] at hst ⊢
  clear hg2 hW HST
  refine (unhide (HN1 _ _ hst.nx)).mono ?_
  rintro e V1 ⟨rfl, hn, ho⟩
  have hst := hst.next hn ho
  clear hn ho
  go_wp2_with (first
    | (go_at_call 40; (with_reducible refine (unhide (HI1 _ hst.bel)).mono ?_); rintro e U1 ⟨rfl, hb⟩; go_loud (
       have hst := hst.below hb;
       obtain ⟨hne1, hne2⟩ := hst.ne;
       obtain ⟨z0, z1, z2, z3, f0, f1, f2, f3⟩ := hst.ob.cells;
       obtain ⟨y0, y1, y2, y3, x0, x1, x2, x3⟩ := hst.r0.cells;
       clear hb))
    | (go_at_call 24; (with_reducible refine (unhide (HA _)).mono ?_); rintro e w9 ⟨rfl, hw⟩; rw [hw]; clear hw w9)
    | (go_at_call 25; (with_reducible refine (unhide (HB _)).mono ?_); rintro e w9 ⟨rfl, hw⟩; rw [hw]; clear hw w9)
    | (go_at_call 22; (with_reducible refine (unhide (HN _)).mono ?_); rintro e w9 ⟨rfl, hw⟩; rw [hw]; clear hw w9))
  have hst := hst.setA PA
  obtain ⟨X1, hX⟩ : ∃ X, X = U1.setCell ⟨g2, 1, none⟩ (.int .u64 (PA : Int)) := ⟨_, rfl⟩
  rw [← hX] at hst ⊢
  clear hX z0 z1 z2 z3 f0 f1 f2 f3 y0 y1 y2 y3 x0 x1 x2 x3
  refine (unhide (HN2 _ _ hst.nx)).mono ?_
  rintro e V2 ⟨rfl, hn, ho⟩
  have hst := hst.next hn ho
  clear hn ho
  go_wp2_with (first
    | (go_at_call 40; (with_reducible refine (unhide (HI2 _ hst.bel)).mono ?_); rintro e U2 ⟨rfl, hb⟩; go_loud (
       have hst := hst.below hb;
       obtain ⟨hne1, hne2⟩ := hst.ne;
       obtain ⟨z0, z1, z2, z3, f0, f1, f2, f3⟩ := hst.ob.cells;
       obtain ⟨y0, y1, y2, y3, x0, x1, x2, x3⟩ := hst.r0.cells;
       clear hb))
    | (go_at_call 24; (with_reducible refine (unhide (HA _)).mono ?_); rintro e w9 ⟨rfl, hw⟩; rw [hw]; clear hw w9)
    | (go_at_call 25; (with_reducible refine (unhide (HB _)).mono ?_); rintro e w9 ⟨rfl, hw⟩; rw [hw]; clear hw w9)
    | (go_at_call 22; (with_reducible refine (unhide (HN _)).mono ?_); rintro e w9 ⟨rfl, hw⟩; rw [hw]; clear hw w9))
  have hst := hst.setB PB
  obtain ⟨X2, hX⟩ : ∃ X, X = U2.setCell ⟨g2, 2, none⟩ (.int .u64 (PB : Int)) := ⟨_, rfl⟩
  rw [← hX] at hst ⊢
  clear hX z0 z1 z2 z3 f0 f1 f2 f3 y0 y1 y2 y3 x0 x1 x2 x3
  refine (unhide (HN3 _ _ hst.nx)).mono ?_
  rintro e V3 ⟨rfl, hn, ho⟩
  have hst := hst.next hn ho
  clear hn ho
  obtain ⟨z0, z1, z2, z3, f0, f1, f2, f3⟩ := hst.ob.cells
  obtain ⟨y0, y1, y2, y3, x0, x1, x2, x3⟩ := hst.r0.cells
  go_wp2_with (first
    | (go_at_call 24; (with_reducible refine (unhide (HA _)).mono ?_); rintro e w9 ⟨rfl, hw⟩; rw [hw]; clear hw w9)
    | (go_at_call 25; (with_reducible refine (unhide (HB _)).mono ?_); rintro e w9 ⟨rfl, hw⟩; rw [hw]; clear hw w9)
    | (go_at_call 22; (with_reducible refine (unhide (HN _)).mono ?_); rintro e w9 ⟨rfl, hw⟩; rw [hw]; clear hw w9)
    | (go_at_call 9; (with_reducible refine (unhide (HRT _ (hst.setN S).bel)).mono ?_); rintro e R1 ⟨rfl, hb⟩; go_loud (
       have hst := (hst.setN S).below hb;
       obtain ⟨hne1, hne2⟩ := hst.ne;
       obtain ⟨z0, z1, z2, z3, f0, f1, f2, f3⟩ := hst.ob.cells;
       obtain ⟨y0, y1, y2, y3, x0, x1, x2, x3⟩ := hst.r0.cells;
       clear hb)))
  refine op_ret2 (p := 2) (u := 3) (g := w.heap.size) (cs := #[.int .u8 0, .int .u64 0, .int .u64 0, .string ⟨#[]⟩]) rfl rfl rfl rfl (op_put hst.r0) rfl ?_
  exact ⟨below_put hst.bel (Nat.le_refl _), .inr ⟨HFIN.out, rfl⟩⟩
set_option maxRecDepth 100000 in
set_option maxHeartbeats 4000000 in
theorem read_3y (w : World) (line : ByteArray) (ps : List ByteArray) (NN K PA PB : Nat) (S : ByteArray) (hps : ps = lineB line) (hNN : NN = min 4 (line.size + 1)) (hline : line.size ≤ 1000000) (hv : Vo w) (he : Ve w) (hK14 : K ≤ 14)
    (hK : kindL (str (ps.headD ⟨#[]⟩)) = K) (hA : aK K = true) (hB : bK K = true) (hN : nK K = true)
    (hPA : parseN (str ((ps.drop 1).headD ⟨#[]⟩)) = PA) (hPB : parseN (str ((ps.drop 1).drop 1 |>.headD ⟨#[]⟩)) = PB)
    (hS : (((ps.drop 1).drop 1).drop 1).headD ⟨#[]⟩ = S) (hPAl : PA < 18446744073709551616) (hPBl : PB < 18446744073709551616) (hSz : S.size ≤ 1000000)
    (hr : rightO K PA PB (str S) = true) (ht : textO K PA PB (str S) = str line) :
    Calls Tryz.prog 13 #[.string line] w (ReadR w line K PA PB S) := by
  have HS := fun (x : World) => hide (split_any x line (by omega))
  have hl4 : ps.length ≤ 4 := by rw [hps]; exact Nat.le_trans (splitB_lek _ _) (by omega)
  have hlN : ps.length ≤ NN := by rw [hps, hNN]; exact Nat.le_trans (splitB_lek _ _) (by omega)
  have hall : ∀ x ∈ ps, x.size ≤ 1000000 := fun x hx => Nat.le_trans (splitB_size _ _ x (by rw [hps] at hx; exact hx)) hline
  have hhd : ∀ l : List ByteArray, (∀ x ∈ l, x ∈ ps) → (l.headD ⟨#[]⟩).size ≤ 1000000 := fun l h => by
    rcases l with _ | ⟨x, r⟩
    · show (0 : Nat) ≤ _; omega
    · exact hall x (h x (by simp))
  rw [← hps, ← hNN] at HS
  have HNEW := Lib.hid (parts_new w ps NN hlN)
  obtain ⟨m, hm⟩ : ∃ m, ps.length = m := ⟨_, rfl⟩
  rw [hm] at HS HNEW
  have hK256 : K < 256 := by omega
  have HKO := fun (x : World) (h : Below w.heap.size w x) => hide (kindof_any x (ps.headD ⟨#[]⟩) (hv.below h))
  rw [hK] at HKO
  have HA := fun (x : World) => hide (hasA_any x K hK256)
  have HB := fun (x : World) => hide (hasB_any x K hK256)
  have HN := fun (x : World) => hide (hasN_any x K hK256)
  rw [hA] at HA
  rw [hB] at HB
  rw [hN] at HN
  have HN0 := fun (x : World) (g : Nat) (h : Nx x g ps) => hide (next_any x g ps (by omega) h)
  have HN1 := fun (x : World) (g : Nat) (h : Nx x g (ps.drop 1)) => hide (next_any x g (ps.drop 1) (by rw [List.length_drop]; omega) h)
  have HN2 := fun (x : World) (g : Nat) (h : Nx x g ((ps.drop 1).drop 1)) => hide (next_any x g ((ps.drop 1).drop 1) (by rw [List.length_drop, List.length_drop]; omega) h)
  have HN3 := fun (x : World) (g : Nat) (h : Nx x g (((ps.drop 1).drop 1).drop 1)) => hide (next_any x g (((ps.drop 1).drop 1).drop 1) (by rw [List.length_drop, List.length_drop, List.length_drop]; omega) h)
  have HI1 := fun (x : World) (h : Below w.heap.size w x) => hide (idof_any x ((ps.drop 1).headD ⟨#[]⟩) (Nat.le_trans (hhd _ fun y hy => List.mem_of_mem_drop hy) (by omega)) (he.below h))
  have HI2 := fun (x : World) (h : Below w.heap.size w x) => hide (idof_any x (((ps.drop 1).drop 1).headD ⟨#[]⟩) (Nat.le_trans (hhd _ fun y hy => List.mem_of_mem_drop (List.mem_of_mem_drop hy)) (by omega)) (he.below h))
  obtain ⟨q0, hq0⟩ : ∃ q, ps.headD ⟨#[]⟩ = q := ⟨_, rfl⟩
  rw [hq0] at HN0 HKO
  obtain ⟨q1, hq1⟩ : ∃ q, (ps.drop 1).headD ⟨#[]⟩ = q := ⟨_, rfl⟩
  rw [hq1] at HN1 HI1
  obtain ⟨q2, hq2⟩ : ∃ q, ((ps.drop 1).drop 1).headD ⟨#[]⟩ = q := ⟨_, rfl⟩
  rw [hq2] at HN2 HI2
  rw [show parseN (str q1) = PA by rw [← hq1]; exact hPA] at HI1
  rw [show parseN (str q2) = PB by rw [← hq2]; exact hPB] at HI2
  rw [show (((ps.drop 1).drop 1).drop 1).headD ⟨#[]⟩ = S from hS] at HN3
  have HRT := fun (x : World) (h : Below w.heap.size w x) => hide (right_any x K PA PB S hK256 (Nat.le_trans hSz (by omega)) (hv.below h))
  have HTX := fun (x : World) (h : Below w.heap.size w x) => hide (text_good x K PA PB S hK256 (Nat.le_trans hSz (by omega)) hPAl hPBl (hv.below h) hr)
  rw [hr] at HRT
  have hq : ba (textO K PA PB (str S)) = line := by rw [ht, ba_str]
  rw [hq] at HTX
  have hqq : (line.toList == line.toList) = true := beq_self_eq_true _
  have HFIN := Lib.hid (And.intro hr ht)
  have HCL := fun (x : World) => hide (clone_any x S (Nat.le_trans hSz (by omega)))
  unfold opV at HRT
  unfold opV at HTX
  clear hq0 hq1 hq2 hps hNN hK hA hB hN hhd hall hl4 hlN hm hPA hPB hS hr ht hv he hK14 hPAl hPBl hSz hline hK256 hq
  go_enter Tryz.func13, Tryz.ntmps13
  go_wp2_with (go_at_call 37; (with_reducible refine (unhide (HS _)).mono ?_); rintro e w1 ⟨rfl, rfl⟩)
  have hst0 := HNEW.out
  obtain ⟨g, hg⟩ : ∃ g, g = w.heap.size + 1 + 1 := ⟨_, rfl⟩
  rw [← hg] at hst0 ⊢
  obtain ⟨W0, hW0⟩ : ∃ W0, W0 = ((w.alloc (.cells #[.int .u8 0, .int .u64 0, .int .u64 0, .string ⟨#[]⟩] 25)).alloc (.cells (Lib.cellsOf ps NN) 9)).alloc (.cells #[.slice (some ⟨w.heap.size + 1, 0, none⟩) m NN] 57) := ⟨_, rfl⟩
  rw [← hW0] at hst0 ⊢
  clear hg hW0
  refine (unhide (HN0 _ _ hst0.nx)).mono ?_
  rintro e W1 ⟨rfl, hn1, ho1⟩
  have HST := Lib.hid (hst0.next hn1 ho1)
  clear hst0 hn1 ho1
  go_wp2_with (first
    | (go_at_call 39; (with_reducible refine (unhide (HKO _ (HST.out.bel))).mono ?_); rintro e w9 ⟨rfl, hw⟩; rw [hw]; clear hw w9)
    | (go_at_call 24; (with_reducible refine (unhide (HA _)).mono ?_); rintro e w9 ⟨rfl, hw⟩; rw [hw]; clear hw w9)
    | (go_at_call 25; (with_reducible refine (unhide (HB _)).mono ?_); rintro e w9 ⟨rfl, hw⟩; rw [hw]; clear hw w9)
    | (go_at_call 22; (with_reducible refine (unhide (HN _)).mono ?_); rintro e w9 ⟨rfl, hw⟩; rw [hw]; clear hw w9))
  have hst := HST.out.box K
  obtain ⟨g2, hg2⟩ : ∃ g2, g2 = W1.heap.size := ⟨_, rfl⟩
  rw [← hg2] at hst ⊢
  obtain ⟨W, hW⟩ : ∃ W, W = W1.alloc (.cells #[.int .u8 (K : Int), .int .u64 0, .int .u64 0, .string ⟨#[]⟩] 25) := ⟨_, rfl⟩
  rw [← hW] at hst ⊢
  clear hg2 hW HST
  refine (unhide (HN1 _ _ hst.nx)).mono ?_
  rintro e V1 ⟨rfl, hn, ho⟩
  have hst := hst.next hn ho
  clear hn ho
  go_wp2_with (first
    | (go_at_call 40; (with_reducible refine (unhide (HI1 _ hst.bel)).mono ?_); rintro e U1 ⟨rfl, hb⟩; go_loud (
       have hst := hst.below hb;
       obtain ⟨hne1, hne2⟩ := hst.ne;
       obtain ⟨z0, z1, z2, z3, f0, f1, f2, f3⟩ := hst.ob.cells;
       obtain ⟨y0, y1, y2, y3, x0, x1, x2, x3⟩ := hst.r0.cells;
       clear hb))
    | (go_at_call 24; (with_reducible refine (unhide (HA _)).mono ?_); rintro e w9 ⟨rfl, hw⟩; rw [hw]; clear hw w9)
    | (go_at_call 25; (with_reducible refine (unhide (HB _)).mono ?_); rintro e w9 ⟨rfl, hw⟩; rw [hw]; clear hw w9)
    | (go_at_call 22; (with_reducible refine (unhide (HN _)).mono ?_); rintro e w9 ⟨rfl, hw⟩; rw [hw]; clear hw w9))
  have hst := hst.setA PA
  obtain ⟨X1, hX⟩ : ∃ X, X = U1.setCell ⟨g2, 1, none⟩ (.int .u64 (PA : Int)) := ⟨_, rfl⟩
  rw [← hX] at hst ⊢
  clear hX z0 z1 z2 z3 f0 f1 f2 f3 y0 y1 y2 y3 x0 x1 x2 x3
  refine (unhide (HN2 _ _ hst.nx)).mono ?_
  rintro e V2 ⟨rfl, hn, ho⟩
  have hst := hst.next hn ho
  clear hn ho
  go_wp2_with (first
    | (go_at_call 40; (with_reducible refine (unhide (HI2 _ hst.bel)).mono ?_); rintro e U2 ⟨rfl, hb⟩; go_loud (
       have hst := hst.below hb;
       obtain ⟨hne1, hne2⟩ := hst.ne;
       obtain ⟨z0, z1, z2, z3, f0, f1, f2, f3⟩ := hst.ob.cells;
       obtain ⟨y0, y1, y2, y3, x0, x1, x2, x3⟩ := hst.r0.cells;
       clear hb))
    | (go_at_call 24; (with_reducible refine (unhide (HA _)).mono ?_); rintro e w9 ⟨rfl, hw⟩; rw [hw]; clear hw w9)
    | (go_at_call 25; (with_reducible refine (unhide (HB _)).mono ?_); rintro e w9 ⟨rfl, hw⟩; rw [hw]; clear hw w9)
    | (go_at_call 22; (with_reducible refine (unhide (HN _)).mono ?_); rintro e w9 ⟨rfl, hw⟩; rw [hw]; clear hw w9))
  have hst := hst.setB PB
  obtain ⟨X2, hX⟩ : ∃ X, X = U2.setCell ⟨g2, 2, none⟩ (.int .u64 (PB : Int)) := ⟨_, rfl⟩
  rw [← hX] at hst ⊢
  clear hX z0 z1 z2 z3 f0 f1 f2 f3 y0 y1 y2 y3 x0 x1 x2 x3
  refine (unhide (HN3 _ _ hst.nx)).mono ?_
  rintro e V3 ⟨rfl, hn, ho⟩
  have hst := hst.next hn ho
  clear hn ho
  obtain ⟨z0, z1, z2, z3, f0, f1, f2, f3⟩ := hst.ob.cells
  obtain ⟨y0, y1, y2, y3, x0, x1, x2, x3⟩ := hst.r0.cells
  go_wp2_with (first
    | (go_at_call 24; (with_reducible refine (unhide (HA _)).mono ?_); rintro e w9 ⟨rfl, hw⟩; rw [hw]; clear hw w9)
    | (go_at_call 25; (with_reducible refine (unhide (HB _)).mono ?_); rintro e w9 ⟨rfl, hw⟩; rw [hw]; clear hw w9)
    | (go_at_call 22; (with_reducible refine (unhide (HN _)).mono ?_); rintro e w9 ⟨rfl, hw⟩; rw [hw]; clear hw w9)
    | (go_at_call 9; (with_reducible refine (unhide (HRT _ (hst.setN S).bel)).mono ?_); rintro e R1 ⟨rfl, hb⟩; go_loud (
       have hst := (hst.setN S).below hb;
       obtain ⟨hne1, hne2⟩ := hst.ne;
       obtain ⟨z0, z1, z2, z3, f0, f1, f2, f3⟩ := hst.ob.cells;
       obtain ⟨y0, y1, y2, y3, x0, x1, x2, x3⟩ := hst.r0.cells;
       clear hb))
    | (go_at_call 11; (with_reducible refine (unhide (HTX _ hst.bel)).mono ?_); rintro e R2 ⟨rfl, hb⟩; go_loud (
       have hst := hst.below hb;
       obtain ⟨hne1, hne2⟩ := hst.ne;
       obtain ⟨z0, z1, z2, z3, f0, f1, f2, f3⟩ := hst.ob.cells;
       obtain ⟨y0, y1, y2, y3, x0, x1, x2, x3⟩ := hst.r0.cells;
       clear hb))
    | (go_at_call 41; (with_reducible refine (unhide (HCL _)).mono ?_); rintro e R3 ⟨rfl, hb⟩; go_loud (
       have hst := hst.below hb;
       obtain ⟨hne1, hne2⟩ := hst.ne;
       obtain ⟨z0, z1, z2, z3, f0, f1, f2, f3⟩ := hst.ob.cells;
       obtain ⟨y0, y1, y2, y3, x0, x1, x2, x3⟩ := hst.r0.cells;
       clear hb)))
  have hst := hst.setN S
  refine op_ret2 (p := 2) (u := 3) (g := w.heap.size) (cs := #[.int .u8 (K : Int), .int .u64 (PA : Int), .int .u64 (PB : Int), .string S]) rfl rfl rfl rfl (op_put hst.r0) rfl ?_
  exact ⟨below_put hst.bel (Nat.le_refl _), .inl ⟨HFIN.out.1, HFIN.out.2, rfl⟩⟩
set_option maxRecDepth 100000 in
set_option maxHeartbeats 4000000 in
theorem read_3z (w : World) (line : ByteArray) (ps : List ByteArray) (NN K PA PB : Nat) (S : ByteArray) (hps : ps = lineB line) (hNN : NN = min 4 (line.size + 1)) (hline : line.size ≤ 1000000) (hv : Vo w) (he : Ve w) (hK14 : K ≤ 14)
    (hK : kindL (str (ps.headD ⟨#[]⟩)) = K) (hA : aK K = true) (hB : bK K = true) (hN : nK K = true)
    (hPA : parseN (str ((ps.drop 1).headD ⟨#[]⟩)) = PA) (hPB : parseN (str ((ps.drop 1).drop 1 |>.headD ⟨#[]⟩)) = PB)
    (hS : (((ps.drop 1).drop 1).drop 1).headD ⟨#[]⟩ = S) (hPAl : PA < 18446744073709551616) (hPBl : PB < 18446744073709551616) (hSz : S.size ≤ 1000000)
    (hr : rightO K PA PB (str S) = true) (ht : textO K PA PB (str S) ≠ str line) :
    Calls Tryz.prog 13 #[.string line] w (ReadR w line K PA PB S) := by
  have HS := fun (x : World) => hide (split_any x line (by omega))
  have hl4 : ps.length ≤ 4 := by rw [hps]; exact Nat.le_trans (splitB_lek _ _) (by omega)
  have hlN : ps.length ≤ NN := by rw [hps, hNN]; exact Nat.le_trans (splitB_lek _ _) (by omega)
  have hall : ∀ x ∈ ps, x.size ≤ 1000000 := fun x hx => Nat.le_trans (splitB_size _ _ x (by rw [hps] at hx; exact hx)) hline
  have hhd : ∀ l : List ByteArray, (∀ x ∈ l, x ∈ ps) → (l.headD ⟨#[]⟩).size ≤ 1000000 := fun l h => by
    rcases l with _ | ⟨x, r⟩
    · show (0 : Nat) ≤ _; omega
    · exact hall x (h x (by simp))
  rw [← hps, ← hNN] at HS
  have HNEW := Lib.hid (parts_new w ps NN hlN)
  obtain ⟨m, hm⟩ : ∃ m, ps.length = m := ⟨_, rfl⟩
  rw [hm] at HS HNEW
  have hK256 : K < 256 := by omega
  have HKO := fun (x : World) (h : Below w.heap.size w x) => hide (kindof_any x (ps.headD ⟨#[]⟩) (hv.below h))
  rw [hK] at HKO
  have HA := fun (x : World) => hide (hasA_any x K hK256)
  have HB := fun (x : World) => hide (hasB_any x K hK256)
  have HN := fun (x : World) => hide (hasN_any x K hK256)
  rw [hA] at HA
  rw [hB] at HB
  rw [hN] at HN
  have HN0 := fun (x : World) (g : Nat) (h : Nx x g ps) => hide (next_any x g ps (by omega) h)
  have HN1 := fun (x : World) (g : Nat) (h : Nx x g (ps.drop 1)) => hide (next_any x g (ps.drop 1) (by rw [List.length_drop]; omega) h)
  have HN2 := fun (x : World) (g : Nat) (h : Nx x g ((ps.drop 1).drop 1)) => hide (next_any x g ((ps.drop 1).drop 1) (by rw [List.length_drop, List.length_drop]; omega) h)
  have HN3 := fun (x : World) (g : Nat) (h : Nx x g (((ps.drop 1).drop 1).drop 1)) => hide (next_any x g (((ps.drop 1).drop 1).drop 1) (by rw [List.length_drop, List.length_drop, List.length_drop]; omega) h)
  have HI1 := fun (x : World) (h : Below w.heap.size w x) => hide (idof_any x ((ps.drop 1).headD ⟨#[]⟩) (Nat.le_trans (hhd _ fun y hy => List.mem_of_mem_drop hy) (by omega)) (he.below h))
  have HI2 := fun (x : World) (h : Below w.heap.size w x) => hide (idof_any x (((ps.drop 1).drop 1).headD ⟨#[]⟩) (Nat.le_trans (hhd _ fun y hy => List.mem_of_mem_drop (List.mem_of_mem_drop hy)) (by omega)) (he.below h))
  obtain ⟨q0, hq0⟩ : ∃ q, ps.headD ⟨#[]⟩ = q := ⟨_, rfl⟩
  rw [hq0] at HN0 HKO
  obtain ⟨q1, hq1⟩ : ∃ q, (ps.drop 1).headD ⟨#[]⟩ = q := ⟨_, rfl⟩
  rw [hq1] at HN1 HI1
  obtain ⟨q2, hq2⟩ : ∃ q, ((ps.drop 1).drop 1).headD ⟨#[]⟩ = q := ⟨_, rfl⟩
  rw [hq2] at HN2 HI2
  rw [show parseN (str q1) = PA by rw [← hq1]; exact hPA] at HI1
  rw [show parseN (str q2) = PB by rw [← hq2]; exact hPB] at HI2
  rw [show (((ps.drop 1).drop 1).drop 1).headD ⟨#[]⟩ = S from hS] at HN3
  have HRT := fun (x : World) (h : Below w.heap.size w x) => hide (right_any x K PA PB S hK256 (Nat.le_trans hSz (by omega)) (hv.below h))
  have HTX := fun (x : World) (h : Below w.heap.size w x) => hide (text_good x K PA PB S hK256 (Nat.le_trans hSz (by omega)) hPAl hPBl (hv.below h) hr)
  rw [hr] at HRT
  obtain ⟨tx, htx⟩ : ∃ tx, ba (textO K PA PB (str S)) = tx := ⟨_, rfl⟩
  rw [htx] at HTX
  have hqq : (tx.toList == line.toList) = false := toL_ne fun e => ht (by
    rw [← e, ← htx]
    exact (str_ba (textO_byte hr)).symm)
  have HFIN := Lib.hid (show ¬ (rightO K PA PB (str S) = true ∧ textO K PA PB (str S) = str line) from fun h => ht h.2)
  unfold opV at HRT
  unfold opV at HTX
  clear hq0 hq1 hq2 hps hNN hK hA hB hN hhd hall hl4 hlN hm hPA hPB hS hr ht hv he hK14 hPAl hPBl hSz hline hK256 htx
  go_enter Tryz.func13, Tryz.ntmps13
  go_wp2_with (go_at_call 37; (with_reducible refine (unhide (HS _)).mono ?_); rintro e w1 ⟨rfl, rfl⟩)
  have hst0 := HNEW.out
  obtain ⟨g, hg⟩ : ∃ g, g = w.heap.size + 1 + 1 := ⟨_, rfl⟩
  rw [← hg] at hst0 ⊢
  obtain ⟨W0, hW0⟩ : ∃ W0, W0 = ((w.alloc (.cells #[.int .u8 0, .int .u64 0, .int .u64 0, .string ⟨#[]⟩] 25)).alloc (.cells (Lib.cellsOf ps NN) 9)).alloc (.cells #[.slice (some ⟨w.heap.size + 1, 0, none⟩) m NN] 57) := ⟨_, rfl⟩
  rw [← hW0] at hst0 ⊢
  clear hg hW0
  refine (unhide (HN0 _ _ hst0.nx)).mono ?_
  rintro e W1 ⟨rfl, hn1, ho1⟩
  have HST := Lib.hid (hst0.next hn1 ho1)
  clear hst0 hn1 ho1
  go_wp2_with (first
    | (go_at_call 39; (with_reducible refine (unhide (HKO _ (HST.out.bel))).mono ?_); rintro e w9 ⟨rfl, hw⟩; rw [hw]; clear hw w9)
    | (go_at_call 24; (with_reducible refine (unhide (HA _)).mono ?_); rintro e w9 ⟨rfl, hw⟩; rw [hw]; clear hw w9)
    | (go_at_call 25; (with_reducible refine (unhide (HB _)).mono ?_); rintro e w9 ⟨rfl, hw⟩; rw [hw]; clear hw w9)
    | (go_at_call 22; (with_reducible refine (unhide (HN _)).mono ?_); rintro e w9 ⟨rfl, hw⟩; rw [hw]; clear hw w9))
  have hst := HST.out.box K
  obtain ⟨g2, hg2⟩ : ∃ g2, g2 = W1.heap.size := ⟨_, rfl⟩
  rw [← hg2] at hst ⊢
  obtain ⟨W, hW⟩ : ∃ W, W = W1.alloc (.cells #[.int .u8 (K : Int), .int .u64 0, .int .u64 0, .string ⟨#[]⟩] 25) := ⟨_, rfl⟩
  rw [← hW] at hst ⊢
  clear hg2 hW HST
  refine (unhide (HN1 _ _ hst.nx)).mono ?_
  rintro e V1 ⟨rfl, hn, ho⟩
  have hst := hst.next hn ho
  clear hn ho
  go_wp2_with (first
    | (go_at_call 40; (with_reducible refine (unhide (HI1 _ hst.bel)).mono ?_); rintro e U1 ⟨rfl, hb⟩; go_loud (
       have hst := hst.below hb;
       obtain ⟨hne1, hne2⟩ := hst.ne;
       obtain ⟨z0, z1, z2, z3, f0, f1, f2, f3⟩ := hst.ob.cells;
       obtain ⟨y0, y1, y2, y3, x0, x1, x2, x3⟩ := hst.r0.cells;
       clear hb))
    | (go_at_call 24; (with_reducible refine (unhide (HA _)).mono ?_); rintro e w9 ⟨rfl, hw⟩; rw [hw]; clear hw w9)
    | (go_at_call 25; (with_reducible refine (unhide (HB _)).mono ?_); rintro e w9 ⟨rfl, hw⟩; rw [hw]; clear hw w9)
    | (go_at_call 22; (with_reducible refine (unhide (HN _)).mono ?_); rintro e w9 ⟨rfl, hw⟩; rw [hw]; clear hw w9))
  have hst := hst.setA PA
  obtain ⟨X1, hX⟩ : ∃ X, X = U1.setCell ⟨g2, 1, none⟩ (.int .u64 (PA : Int)) := ⟨_, rfl⟩
  rw [← hX] at hst ⊢
  clear hX z0 z1 z2 z3 f0 f1 f2 f3 y0 y1 y2 y3 x0 x1 x2 x3
  refine (unhide (HN2 _ _ hst.nx)).mono ?_
  rintro e V2 ⟨rfl, hn, ho⟩
  have hst := hst.next hn ho
  clear hn ho
  go_wp2_with (first
    | (go_at_call 40; (with_reducible refine (unhide (HI2 _ hst.bel)).mono ?_); rintro e U2 ⟨rfl, hb⟩; go_loud (
       have hst := hst.below hb;
       obtain ⟨hne1, hne2⟩ := hst.ne;
       obtain ⟨z0, z1, z2, z3, f0, f1, f2, f3⟩ := hst.ob.cells;
       obtain ⟨y0, y1, y2, y3, x0, x1, x2, x3⟩ := hst.r0.cells;
       clear hb))
    | (go_at_call 24; (with_reducible refine (unhide (HA _)).mono ?_); rintro e w9 ⟨rfl, hw⟩; rw [hw]; clear hw w9)
    | (go_at_call 25; (with_reducible refine (unhide (HB _)).mono ?_); rintro e w9 ⟨rfl, hw⟩; rw [hw]; clear hw w9)
    | (go_at_call 22; (with_reducible refine (unhide (HN _)).mono ?_); rintro e w9 ⟨rfl, hw⟩; rw [hw]; clear hw w9))
  have hst := hst.setB PB
  obtain ⟨X2, hX⟩ : ∃ X, X = U2.setCell ⟨g2, 2, none⟩ (.int .u64 (PB : Int)) := ⟨_, rfl⟩
  rw [← hX] at hst ⊢
  clear hX z0 z1 z2 z3 f0 f1 f2 f3 y0 y1 y2 y3 x0 x1 x2 x3
  refine (unhide (HN3 _ _ hst.nx)).mono ?_
  rintro e V3 ⟨rfl, hn, ho⟩
  have hst := hst.next hn ho
  clear hn ho
  obtain ⟨z0, z1, z2, z3, f0, f1, f2, f3⟩ := hst.ob.cells
  obtain ⟨y0, y1, y2, y3, x0, x1, x2, x3⟩ := hst.r0.cells
  go_wp2_with (first
    | (go_at_call 24; (with_reducible refine (unhide (HA _)).mono ?_); rintro e w9 ⟨rfl, hw⟩; rw [hw]; clear hw w9)
    | (go_at_call 25; (with_reducible refine (unhide (HB _)).mono ?_); rintro e w9 ⟨rfl, hw⟩; rw [hw]; clear hw w9)
    | (go_at_call 22; (with_reducible refine (unhide (HN _)).mono ?_); rintro e w9 ⟨rfl, hw⟩; rw [hw]; clear hw w9)
    | (go_at_call 9; (with_reducible refine (unhide (HRT _ (hst.setN S).bel)).mono ?_); rintro e R1 ⟨rfl, hb⟩; go_loud (
       have hst := (hst.setN S).below hb;
       obtain ⟨hne1, hne2⟩ := hst.ne;
       obtain ⟨z0, z1, z2, z3, f0, f1, f2, f3⟩ := hst.ob.cells;
       obtain ⟨y0, y1, y2, y3, x0, x1, x2, x3⟩ := hst.r0.cells;
       clear hb))
    | (go_at_call 11; (with_reducible refine (unhide (HTX _ hst.bel)).mono ?_); rintro e R2 ⟨rfl, hb⟩; go_loud (
       have hst := hst.below hb;
       obtain ⟨hne1, hne2⟩ := hst.ne;
       obtain ⟨z0, z1, z2, z3, f0, f1, f2, f3⟩ := hst.ob.cells;
       obtain ⟨y0, y1, y2, y3, x0, x1, x2, x3⟩ := hst.r0.cells;
       clear hb)))
  refine op_ret2 (p := 2) (u := 3) (g := w.heap.size) (cs := #[.int .u8 0, .int .u64 0, .int .u64 0, .string ⟨#[]⟩]) rfl rfl rfl rfl (op_put hst.r0) rfl ?_
  exact ⟨below_put hst.bel (Nat.le_refl _), .inr ⟨HFIN.out, rfl⟩⟩
set_option maxRecDepth 100000 in
set_option maxHeartbeats 4000000 in
theorem read_4x (w : World) (line : ByteArray) (ps : List ByteArray) (NN K PA PB : Nat) (S : ByteArray) (hps : ps = lineB line) (hNN : NN = min 4 (line.size + 1)) (hline : line.size ≤ 1000000) (hv : Vo w) (he : Ve w) (hK14 : K ≤ 14)
    (hK : kindL (str (ps.headD ⟨#[]⟩)) = K) (hA : aK K = false) (hB : bK K = false) (hN : nK K = true)
    (hPA : PA = 0) (hPB : PB = 0)
    (hS : (ps.drop 1).headD ⟨#[]⟩ = S) (hPAl : PA < 18446744073709551616) (hPBl : PB < 18446744073709551616) (hSz : S.size ≤ 1000000)
    (hr : rightO K PA PB (str S) = false) :
    Calls Tryz.prog 13 #[.string line] w (ReadR w line K PA PB S) := by
  have HS := fun (x : World) => hide (split_any x line (by omega))
  have hl4 : ps.length ≤ 4 := by rw [hps]; exact Nat.le_trans (splitB_lek _ _) (by omega)
  have hlN : ps.length ≤ NN := by rw [hps, hNN]; exact Nat.le_trans (splitB_lek _ _) (by omega)
  have hall : ∀ x ∈ ps, x.size ≤ 1000000 := fun x hx => Nat.le_trans (splitB_size _ _ x (by rw [hps] at hx; exact hx)) hline
  have hhd : ∀ l : List ByteArray, (∀ x ∈ l, x ∈ ps) → (l.headD ⟨#[]⟩).size ≤ 1000000 := fun l h => by
    rcases l with _ | ⟨x, r⟩
    · show (0 : Nat) ≤ _; omega
    · exact hall x (h x (by simp))
  rw [← hps, ← hNN] at HS
  have HNEW := Lib.hid (parts_new w ps NN hlN)
  obtain ⟨m, hm⟩ : ∃ m, ps.length = m := ⟨_, rfl⟩
  rw [hm] at HS HNEW
  have hK256 : K < 256 := by omega
  have HKO := fun (x : World) (h : Below w.heap.size w x) => hide (kindof_any x (ps.headD ⟨#[]⟩) (hv.below h))
  rw [hK] at HKO
  have HA := fun (x : World) => hide (hasA_any x K hK256)
  have HB := fun (x : World) => hide (hasB_any x K hK256)
  have HN := fun (x : World) => hide (hasN_any x K hK256)
  rw [hA] at HA
  rw [hB] at HB
  rw [hN] at HN
  have HN0 := fun (x : World) (g : Nat) (h : Nx x g ps) => hide (next_any x g ps (by omega) h)
  have HN1 := fun (x : World) (g : Nat) (h : Nx x g (ps.drop 1)) => hide (next_any x g (ps.drop 1) (by rw [List.length_drop]; omega) h)
  have HN2 := fun (x : World) (g : Nat) (h : Nx x g ((ps.drop 1).drop 1)) => hide (next_any x g ((ps.drop 1).drop 1) (by rw [List.length_drop, List.length_drop]; omega) h)
  have HN3 := fun (x : World) (g : Nat) (h : Nx x g (((ps.drop 1).drop 1).drop 1)) => hide (next_any x g (((ps.drop 1).drop 1).drop 1) (by rw [List.length_drop, List.length_drop, List.length_drop]; omega) h)
  have HI1 := fun (x : World) (h : Below w.heap.size w x) => hide (idof_any x ((ps.drop 1).headD ⟨#[]⟩) (Nat.le_trans (hhd _ fun y hy => List.mem_of_mem_drop hy) (by omega)) (he.below h))
  have HI2 := fun (x : World) (h : Below w.heap.size w x) => hide (idof_any x (((ps.drop 1).drop 1).headD ⟨#[]⟩) (Nat.le_trans (hhd _ fun y hy => List.mem_of_mem_drop (List.mem_of_mem_drop hy)) (by omega)) (he.below h))
  obtain ⟨q0, hq0⟩ : ∃ q, ps.headD ⟨#[]⟩ = q := ⟨_, rfl⟩
  rw [hq0] at HN0 HKO
  subst hPA
  subst hPB
  rw [show (ps.drop 1).headD ⟨#[]⟩ = S from hS] at HN1
  have HRT := fun (x : World) (h : Below w.heap.size w x) => hide (right_any x K 0 0 S hK256 (Nat.le_trans hSz (by omega)) (hv.below h))
  rw [hr] at HRT
  have HFIN := Lib.hid (show ¬ (rightO K 0 0 (str S) = true ∧ textO K 0 0 (str S) = str line) from fun h => by rw [hr] at h; exact absurd h.1 (by decide))
  unfold opV at HRT
  rw [show ((0 : Nat) : Int) = 0 from rfl] at HRT
  clear hq0 hps hNN hK hA hB hN hhd hall hl4 hlN hm hS hr hv he hK14 hPAl hPBl hSz hline hK256
  go_enter Tryz.func13, Tryz.ntmps13
  go_wp2_with (go_at_call 37; (with_reducible refine (unhide (HS _)).mono ?_); rintro e w1 ⟨rfl, rfl⟩)
  have hst0 := HNEW.out
  obtain ⟨g, hg⟩ : ∃ g, g = w.heap.size + 1 + 1 := ⟨_, rfl⟩
  rw [← hg] at hst0 ⊢
  obtain ⟨W0, hW0⟩ : ∃ W0, W0 = ((w.alloc (.cells #[.int .u8 0, .int .u64 0, .int .u64 0, .string ⟨#[]⟩] 25)).alloc (.cells (Lib.cellsOf ps NN) 9)).alloc (.cells #[.slice (some ⟨w.heap.size + 1, 0, none⟩) m NN] 57) := ⟨_, rfl⟩
  rw [← hW0] at hst0 ⊢
  clear hg hW0
  refine (unhide (HN0 _ _ hst0.nx)).mono ?_
  rintro e W1 ⟨rfl, hn1, ho1⟩
  have HST := Lib.hid (hst0.next hn1 ho1)
  clear hst0 hn1 ho1
  go_wp2_with (first
    | (go_at_call 39; (with_reducible refine (unhide (HKO _ (HST.out.bel))).mono ?_); rintro e w9 ⟨rfl, hw⟩; rw [hw]; clear hw w9)
    | (go_at_call 24; (with_reducible refine (unhide (HA _)).mono ?_); rintro e w9 ⟨rfl, hw⟩; rw [hw]; clear hw w9)
    | (go_at_call 25; (with_reducible refine (unhide (HB _)).mono ?_); rintro e w9 ⟨rfl, hw⟩; rw [hw]; clear hw w9)
    | (go_at_call 22; (with_reducible refine (unhide (HN _)).mono ?_); rintro e w9 ⟨rfl, hw⟩; rw [hw]; clear hw w9))
  have hst := HST.out.box K
  obtain ⟨g2, hg2⟩ : ∃ g2, g2 = W1.heap.size := ⟨_, rfl⟩
  rw [← hg2] at hst ⊢
  obtain ⟨W, hW⟩ : ∃ W, W = W1.alloc (.cells #[.int .u8 (K : Int), .int .u64 0, .int .u64 0, .string ⟨#[]⟩] 25) := ⟨_, rfl⟩
  rw [← hW] at hst ⊢
  clear hg2 hW HST
  refine (unhide (HN1 _ _ hst.nx)).mono ?_
  rintro e V1 ⟨rfl, hn, ho⟩
  have hst := hst.next hn ho
  clear hn ho
  obtain ⟨z0, z1, z2, z3, f0, f1, f2, f3⟩ := hst.ob.cells
  obtain ⟨y0, y1, y2, y3, x0, x1, x2, x3⟩ := hst.r0.cells
  go_wp2_with (first
    | (go_at_call 24; (with_reducible refine (unhide (HA _)).mono ?_); rintro e w9 ⟨rfl, hw⟩; rw [hw]; clear hw w9)
    | (go_at_call 25; (with_reducible refine (unhide (HB _)).mono ?_); rintro e w9 ⟨rfl, hw⟩; rw [hw]; clear hw w9)
    | (go_at_call 22; (with_reducible refine (unhide (HN _)).mono ?_); rintro e w9 ⟨rfl, hw⟩; rw [hw]; clear hw w9)
    | (go_at_call 9; (with_reducible refine (unhide (HRT _ (hst.setN S).bel)).mono ?_); rintro e R1 ⟨rfl, hb⟩; go_loud (
       have hst := (hst.setN S).below hb;
       obtain ⟨hne1, hne2⟩ := hst.ne;
       obtain ⟨z0, z1, z2, z3, f0, f1, f2, f3⟩ := hst.ob.cells;
       obtain ⟨y0, y1, y2, y3, x0, x1, x2, x3⟩ := hst.r0.cells;
       clear hb)))
  refine op_ret2 (p := 2) (u := 3) (g := w.heap.size) (cs := #[.int .u8 0, .int .u64 0, .int .u64 0, .string ⟨#[]⟩]) rfl rfl rfl rfl (op_put hst.r0) rfl ?_
  exact ⟨below_put hst.bel (Nat.le_refl _), .inr ⟨HFIN.out, rfl⟩⟩
set_option maxRecDepth 100000 in
set_option maxHeartbeats 4000000 in
theorem read_4y (w : World) (line : ByteArray) (ps : List ByteArray) (NN K PA PB : Nat) (S : ByteArray) (hps : ps = lineB line) (hNN : NN = min 4 (line.size + 1)) (hline : line.size ≤ 1000000) (hv : Vo w) (he : Ve w) (hK14 : K ≤ 14)
    (hK : kindL (str (ps.headD ⟨#[]⟩)) = K) (hA : aK K = false) (hB : bK K = false) (hN : nK K = true)
    (hPA : PA = 0) (hPB : PB = 0)
    (hS : (ps.drop 1).headD ⟨#[]⟩ = S) (hPAl : PA < 18446744073709551616) (hPBl : PB < 18446744073709551616) (hSz : S.size ≤ 1000000)
    (hr : rightO K PA PB (str S) = true) (ht : textO K PA PB (str S) = str line) :
    Calls Tryz.prog 13 #[.string line] w (ReadR w line K PA PB S) := by
  have HS := fun (x : World) => hide (split_any x line (by omega))
  have hl4 : ps.length ≤ 4 := by rw [hps]; exact Nat.le_trans (splitB_lek _ _) (by omega)
  have hlN : ps.length ≤ NN := by rw [hps, hNN]; exact Nat.le_trans (splitB_lek _ _) (by omega)
  have hall : ∀ x ∈ ps, x.size ≤ 1000000 := fun x hx => Nat.le_trans (splitB_size _ _ x (by rw [hps] at hx; exact hx)) hline
  have hhd : ∀ l : List ByteArray, (∀ x ∈ l, x ∈ ps) → (l.headD ⟨#[]⟩).size ≤ 1000000 := fun l h => by
    rcases l with _ | ⟨x, r⟩
    · show (0 : Nat) ≤ _; omega
    · exact hall x (h x (by simp))
  rw [← hps, ← hNN] at HS
  have HNEW := Lib.hid (parts_new w ps NN hlN)
  obtain ⟨m, hm⟩ : ∃ m, ps.length = m := ⟨_, rfl⟩
  rw [hm] at HS HNEW
  have hK256 : K < 256 := by omega
  have HKO := fun (x : World) (h : Below w.heap.size w x) => hide (kindof_any x (ps.headD ⟨#[]⟩) (hv.below h))
  rw [hK] at HKO
  have HA := fun (x : World) => hide (hasA_any x K hK256)
  have HB := fun (x : World) => hide (hasB_any x K hK256)
  have HN := fun (x : World) => hide (hasN_any x K hK256)
  rw [hA] at HA
  rw [hB] at HB
  rw [hN] at HN
  have HN0 := fun (x : World) (g : Nat) (h : Nx x g ps) => hide (next_any x g ps (by omega) h)
  have HN1 := fun (x : World) (g : Nat) (h : Nx x g (ps.drop 1)) => hide (next_any x g (ps.drop 1) (by rw [List.length_drop]; omega) h)
  have HN2 := fun (x : World) (g : Nat) (h : Nx x g ((ps.drop 1).drop 1)) => hide (next_any x g ((ps.drop 1).drop 1) (by rw [List.length_drop, List.length_drop]; omega) h)
  have HN3 := fun (x : World) (g : Nat) (h : Nx x g (((ps.drop 1).drop 1).drop 1)) => hide (next_any x g (((ps.drop 1).drop 1).drop 1) (by rw [List.length_drop, List.length_drop, List.length_drop]; omega) h)
  have HI1 := fun (x : World) (h : Below w.heap.size w x) => hide (idof_any x ((ps.drop 1).headD ⟨#[]⟩) (Nat.le_trans (hhd _ fun y hy => List.mem_of_mem_drop hy) (by omega)) (he.below h))
  have HI2 := fun (x : World) (h : Below w.heap.size w x) => hide (idof_any x (((ps.drop 1).drop 1).headD ⟨#[]⟩) (Nat.le_trans (hhd _ fun y hy => List.mem_of_mem_drop (List.mem_of_mem_drop hy)) (by omega)) (he.below h))
  obtain ⟨q0, hq0⟩ : ∃ q, ps.headD ⟨#[]⟩ = q := ⟨_, rfl⟩
  rw [hq0] at HN0 HKO
  subst hPA
  subst hPB
  rw [show (ps.drop 1).headD ⟨#[]⟩ = S from hS] at HN1
  have HRT := fun (x : World) (h : Below w.heap.size w x) => hide (right_any x K 0 0 S hK256 (Nat.le_trans hSz (by omega)) (hv.below h))
  have HTX := fun (x : World) (h : Below w.heap.size w x) => hide (text_good x K 0 0 S hK256 (Nat.le_trans hSz (by omega)) hPAl hPBl (hv.below h) hr)
  rw [hr] at HRT
  have hq : ba (textO K 0 0 (str S)) = line := by rw [ht, ba_str]
  rw [hq] at HTX
  have hqq : (line.toList == line.toList) = true := beq_self_eq_true _
  have HFIN := Lib.hid (And.intro hr ht)
  have HCL := fun (x : World) => hide (clone_any x S (Nat.le_trans hSz (by omega)))
  unfold opV at HRT
  unfold opV at HTX
  rw [show ((0 : Nat) : Int) = 0 from rfl] at HRT HTX
  clear hq0 hps hNN hK hA hB hN hhd hall hl4 hlN hm hS hr ht hv he hK14 hPAl hPBl hSz hline hK256 hq
  go_enter Tryz.func13, Tryz.ntmps13
  go_wp2_with (go_at_call 37; (with_reducible refine (unhide (HS _)).mono ?_); rintro e w1 ⟨rfl, rfl⟩)
  have hst0 := HNEW.out
  obtain ⟨g, hg⟩ : ∃ g, g = w.heap.size + 1 + 1 := ⟨_, rfl⟩
  rw [← hg] at hst0 ⊢
  obtain ⟨W0, hW0⟩ : ∃ W0, W0 = ((w.alloc (.cells #[.int .u8 0, .int .u64 0, .int .u64 0, .string ⟨#[]⟩] 25)).alloc (.cells (Lib.cellsOf ps NN) 9)).alloc (.cells #[.slice (some ⟨w.heap.size + 1, 0, none⟩) m NN] 57) := ⟨_, rfl⟩
  rw [← hW0] at hst0 ⊢
  clear hg hW0
  refine (unhide (HN0 _ _ hst0.nx)).mono ?_
  rintro e W1 ⟨rfl, hn1, ho1⟩
  have HST := Lib.hid (hst0.next hn1 ho1)
  clear hst0 hn1 ho1
  go_wp2_with (first
    | (go_at_call 39; (with_reducible refine (unhide (HKO _ (HST.out.bel))).mono ?_); rintro e w9 ⟨rfl, hw⟩; rw [hw]; clear hw w9)
    | (go_at_call 24; (with_reducible refine (unhide (HA _)).mono ?_); rintro e w9 ⟨rfl, hw⟩; rw [hw]; clear hw w9)
    | (go_at_call 25; (with_reducible refine (unhide (HB _)).mono ?_); rintro e w9 ⟨rfl, hw⟩; rw [hw]; clear hw w9)
    | (go_at_call 22; (with_reducible refine (unhide (HN _)).mono ?_); rintro e w9 ⟨rfl, hw⟩; rw [hw]; clear hw w9))
  have hst := HST.out.box K
  obtain ⟨g2, hg2⟩ : ∃ g2, g2 = W1.heap.size := ⟨_, rfl⟩
  rw [← hg2] at hst ⊢
  obtain ⟨W, hW⟩ : ∃ W, W = W1.alloc (.cells #[.int .u8 (K : Int), .int .u64 0, .int .u64 0, .string ⟨#[]⟩] 25) := ⟨_, rfl⟩
  rw [← hW] at hst ⊢
  clear hg2 hW HST
  refine (unhide (HN1 _ _ hst.nx)).mono ?_
  rintro e V1 ⟨rfl, hn, ho⟩
  have hst := hst.next hn ho
  clear hn ho
  obtain ⟨z0, z1, z2, z3, f0, f1, f2, f3⟩ := hst.ob.cells
  obtain ⟨y0, y1, y2, y3, x0, x1, x2, x3⟩ := hst.r0.cells
  go_wp2_with (first
    | (go_at_call 24; (with_reducible refine (unhide (HA _)).mono ?_); rintro e w9 ⟨rfl, hw⟩; rw [hw]; clear hw w9)
    | (go_at_call 25; (with_reducible refine (unhide (HB _)).mono ?_); rintro e w9 ⟨rfl, hw⟩; rw [hw]; clear hw w9)
    | (go_at_call 22; (with_reducible refine (unhide (HN _)).mono ?_); rintro e w9 ⟨rfl, hw⟩; rw [hw]; clear hw w9)
    | (go_at_call 9; (with_reducible refine (unhide (HRT _ (hst.setN S).bel)).mono ?_); rintro e R1 ⟨rfl, hb⟩; go_loud (
       have hst := (hst.setN S).below hb;
       obtain ⟨hne1, hne2⟩ := hst.ne;
       obtain ⟨z0, z1, z2, z3, f0, f1, f2, f3⟩ := hst.ob.cells;
       obtain ⟨y0, y1, y2, y3, x0, x1, x2, x3⟩ := hst.r0.cells;
       clear hb))
    | (go_at_call 11; (with_reducible refine (unhide (HTX _ hst.bel)).mono ?_); rintro e R2 ⟨rfl, hb⟩; go_loud (
       have hst := hst.below hb;
       obtain ⟨hne1, hne2⟩ := hst.ne;
       obtain ⟨z0, z1, z2, z3, f0, f1, f2, f3⟩ := hst.ob.cells;
       obtain ⟨y0, y1, y2, y3, x0, x1, x2, x3⟩ := hst.r0.cells;
       clear hb))
    | (go_at_call 41; (with_reducible refine (unhide (HCL _)).mono ?_); rintro e R3 ⟨rfl, hb⟩; go_loud (
       have hst := hst.below hb;
       obtain ⟨hne1, hne2⟩ := hst.ne;
       obtain ⟨z0, z1, z2, z3, f0, f1, f2, f3⟩ := hst.ob.cells;
       obtain ⟨y0, y1, y2, y3, x0, x1, x2, x3⟩ := hst.r0.cells;
       clear hb)))
  have hst := hst.setN S
  refine op_ret2 (p := 2) (u := 3) (g := w.heap.size) (cs := #[.int .u8 (K : Int), .int .u64 0, .int .u64 0, .string S]) rfl rfl rfl rfl (op_put hst.r0) rfl ?_
  exact ⟨below_put hst.bel (Nat.le_refl _), .inl ⟨HFIN.out.1, HFIN.out.2, rfl⟩⟩
set_option maxRecDepth 100000 in
set_option maxHeartbeats 4000000 in
theorem read_4z (w : World) (line : ByteArray) (ps : List ByteArray) (NN K PA PB : Nat) (S : ByteArray) (hps : ps = lineB line) (hNN : NN = min 4 (line.size + 1)) (hline : line.size ≤ 1000000) (hv : Vo w) (he : Ve w) (hK14 : K ≤ 14)
    (hK : kindL (str (ps.headD ⟨#[]⟩)) = K) (hA : aK K = false) (hB : bK K = false) (hN : nK K = true)
    (hPA : PA = 0) (hPB : PB = 0)
    (hS : (ps.drop 1).headD ⟨#[]⟩ = S) (hPAl : PA < 18446744073709551616) (hPBl : PB < 18446744073709551616) (hSz : S.size ≤ 1000000)
    (hr : rightO K PA PB (str S) = true) (ht : textO K PA PB (str S) ≠ str line) :
    Calls Tryz.prog 13 #[.string line] w (ReadR w line K PA PB S) := by
  have HS := fun (x : World) => hide (split_any x line (by omega))
  have hl4 : ps.length ≤ 4 := by rw [hps]; exact Nat.le_trans (splitB_lek _ _) (by omega)
  have hlN : ps.length ≤ NN := by rw [hps, hNN]; exact Nat.le_trans (splitB_lek _ _) (by omega)
  have hall : ∀ x ∈ ps, x.size ≤ 1000000 := fun x hx => Nat.le_trans (splitB_size _ _ x (by rw [hps] at hx; exact hx)) hline
  have hhd : ∀ l : List ByteArray, (∀ x ∈ l, x ∈ ps) → (l.headD ⟨#[]⟩).size ≤ 1000000 := fun l h => by
    rcases l with _ | ⟨x, r⟩
    · show (0 : Nat) ≤ _; omega
    · exact hall x (h x (by simp))
  rw [← hps, ← hNN] at HS
  have HNEW := Lib.hid (parts_new w ps NN hlN)
  obtain ⟨m, hm⟩ : ∃ m, ps.length = m := ⟨_, rfl⟩
  rw [hm] at HS HNEW
  have hK256 : K < 256 := by omega
  have HKO := fun (x : World) (h : Below w.heap.size w x) => hide (kindof_any x (ps.headD ⟨#[]⟩) (hv.below h))
  rw [hK] at HKO
  have HA := fun (x : World) => hide (hasA_any x K hK256)
  have HB := fun (x : World) => hide (hasB_any x K hK256)
  have HN := fun (x : World) => hide (hasN_any x K hK256)
  rw [hA] at HA
  rw [hB] at HB
  rw [hN] at HN
  have HN0 := fun (x : World) (g : Nat) (h : Nx x g ps) => hide (next_any x g ps (by omega) h)
  have HN1 := fun (x : World) (g : Nat) (h : Nx x g (ps.drop 1)) => hide (next_any x g (ps.drop 1) (by rw [List.length_drop]; omega) h)
  have HN2 := fun (x : World) (g : Nat) (h : Nx x g ((ps.drop 1).drop 1)) => hide (next_any x g ((ps.drop 1).drop 1) (by rw [List.length_drop, List.length_drop]; omega) h)
  have HN3 := fun (x : World) (g : Nat) (h : Nx x g (((ps.drop 1).drop 1).drop 1)) => hide (next_any x g (((ps.drop 1).drop 1).drop 1) (by rw [List.length_drop, List.length_drop, List.length_drop]; omega) h)
  have HI1 := fun (x : World) (h : Below w.heap.size w x) => hide (idof_any x ((ps.drop 1).headD ⟨#[]⟩) (Nat.le_trans (hhd _ fun y hy => List.mem_of_mem_drop hy) (by omega)) (he.below h))
  have HI2 := fun (x : World) (h : Below w.heap.size w x) => hide (idof_any x (((ps.drop 1).drop 1).headD ⟨#[]⟩) (Nat.le_trans (hhd _ fun y hy => List.mem_of_mem_drop (List.mem_of_mem_drop hy)) (by omega)) (he.below h))
  obtain ⟨q0, hq0⟩ : ∃ q, ps.headD ⟨#[]⟩ = q := ⟨_, rfl⟩
  rw [hq0] at HN0 HKO
  subst hPA
  subst hPB
  rw [show (ps.drop 1).headD ⟨#[]⟩ = S from hS] at HN1
  have HRT := fun (x : World) (h : Below w.heap.size w x) => hide (right_any x K 0 0 S hK256 (Nat.le_trans hSz (by omega)) (hv.below h))
  have HTX := fun (x : World) (h : Below w.heap.size w x) => hide (text_good x K 0 0 S hK256 (Nat.le_trans hSz (by omega)) hPAl hPBl (hv.below h) hr)
  rw [hr] at HRT
  obtain ⟨tx, htx⟩ : ∃ tx, ba (textO K 0 0 (str S)) = tx := ⟨_, rfl⟩
  rw [htx] at HTX
  have hqq : (tx.toList == line.toList) = false := toL_ne fun e => ht (by
    rw [← e, ← htx]
    exact (str_ba (textO_byte hr)).symm)
  have HFIN := Lib.hid (show ¬ (rightO K 0 0 (str S) = true ∧ textO K 0 0 (str S) = str line) from fun h => ht h.2)
  unfold opV at HRT
  unfold opV at HTX
  rw [show ((0 : Nat) : Int) = 0 from rfl] at HRT HTX
  clear hq0 hps hNN hK hA hB hN hhd hall hl4 hlN hm hS hr ht hv he hK14 hPAl hPBl hSz hline hK256 htx
  go_enter Tryz.func13, Tryz.ntmps13
  go_wp2_with (go_at_call 37; (with_reducible refine (unhide (HS _)).mono ?_); rintro e w1 ⟨rfl, rfl⟩)
  have hst0 := HNEW.out
  obtain ⟨g, hg⟩ : ∃ g, g = w.heap.size + 1 + 1 := ⟨_, rfl⟩
  rw [← hg] at hst0 ⊢
  obtain ⟨W0, hW0⟩ : ∃ W0, W0 = ((w.alloc (.cells #[.int .u8 0, .int .u64 0, .int .u64 0, .string ⟨#[]⟩] 25)).alloc (.cells (Lib.cellsOf ps NN) 9)).alloc (.cells #[.slice (some ⟨w.heap.size + 1, 0, none⟩) m NN] 57) := ⟨_, rfl⟩
  rw [← hW0] at hst0 ⊢
  clear hg hW0
  refine (unhide (HN0 _ _ hst0.nx)).mono ?_
  rintro e W1 ⟨rfl, hn1, ho1⟩
  have HST := Lib.hid (hst0.next hn1 ho1)
  clear hst0 hn1 ho1
  go_wp2_with (first
    | (go_at_call 39; (with_reducible refine (unhide (HKO _ (HST.out.bel))).mono ?_); rintro e w9 ⟨rfl, hw⟩; rw [hw]; clear hw w9)
    | (go_at_call 24; (with_reducible refine (unhide (HA _)).mono ?_); rintro e w9 ⟨rfl, hw⟩; rw [hw]; clear hw w9)
    | (go_at_call 25; (with_reducible refine (unhide (HB _)).mono ?_); rintro e w9 ⟨rfl, hw⟩; rw [hw]; clear hw w9)
    | (go_at_call 22; (with_reducible refine (unhide (HN _)).mono ?_); rintro e w9 ⟨rfl, hw⟩; rw [hw]; clear hw w9))
  have hst := HST.out.box K
  obtain ⟨g2, hg2⟩ : ∃ g2, g2 = W1.heap.size := ⟨_, rfl⟩
  rw [← hg2] at hst ⊢
  obtain ⟨W, hW⟩ : ∃ W, W = W1.alloc (.cells #[.int .u8 (K : Int), .int .u64 0, .int .u64 0, .string ⟨#[]⟩] 25) := ⟨_, rfl⟩
  rw [← hW] at hst ⊢
  clear hg2 hW HST
  refine (unhide (HN1 _ _ hst.nx)).mono ?_
  rintro e V1 ⟨rfl, hn, ho⟩
  have hst := hst.next hn ho
  clear hn ho
  obtain ⟨z0, z1, z2, z3, f0, f1, f2, f3⟩ := hst.ob.cells
  obtain ⟨y0, y1, y2, y3, x0, x1, x2, x3⟩ := hst.r0.cells
  go_wp2_with (first
    | (go_at_call 24; (with_reducible refine (unhide (HA _)).mono ?_); rintro e w9 ⟨rfl, hw⟩; rw [hw]; clear hw w9)
    | (go_at_call 25; (with_reducible refine (unhide (HB _)).mono ?_); rintro e w9 ⟨rfl, hw⟩; rw [hw]; clear hw w9)
    | (go_at_call 22; (with_reducible refine (unhide (HN _)).mono ?_); rintro e w9 ⟨rfl, hw⟩; rw [hw]; clear hw w9)
    | (go_at_call 9; (with_reducible refine (unhide (HRT _ (hst.setN S).bel)).mono ?_); rintro e R1 ⟨rfl, hb⟩; go_loud (
       have hst := (hst.setN S).below hb;
       obtain ⟨hne1, hne2⟩ := hst.ne;
       obtain ⟨z0, z1, z2, z3, f0, f1, f2, f3⟩ := hst.ob.cells;
       obtain ⟨y0, y1, y2, y3, x0, x1, x2, x3⟩ := hst.r0.cells;
       clear hb))
    | (go_at_call 11; (with_reducible refine (unhide (HTX _ hst.bel)).mono ?_); rintro e R2 ⟨rfl, hb⟩; go_loud (
       have hst := hst.below hb;
       obtain ⟨hne1, hne2⟩ := hst.ne;
       obtain ⟨z0, z1, z2, z3, f0, f1, f2, f3⟩ := hst.ob.cells;
       obtain ⟨y0, y1, y2, y3, x0, x1, x2, x3⟩ := hst.r0.cells;
       clear hb)))
  refine op_ret2 (p := 2) (u := 3) (g := w.heap.size) (cs := #[.int .u8 0, .int .u64 0, .int .u64 0, .string ⟨#[]⟩]) rfl rfl rfl rfl (op_put hst.r0) rfl ?_
  exact ⟨below_put hst.bel (Nat.le_refl _), .inr ⟨HFIN.out, rfl⟩⟩
end Go.Proofs.YtfnobibjphnmdaaGreatDoor
namespace Go.Proofs.YtfnobibjphnmdaaGreatDoor
open Go.RowKit
set_option linter.unusedVariables false
set_option linter.unusedSimpArgs false
theorem parseM_le : ∀ (l : List UInt8) (M acc u : Nat), acc ≤ M → Lib.parseUintM M acc l = .ok u → u ≤ M
  | [], M, acc, u, h, e => by
    unfold Lib.parseUintM at e
    injection e with e
    omega
  | c :: r, M, acc, u, h, e => by
    unfold Lib.parseUintM at e
    split at e
    · split at e
      · cases e
      · split at e
        · cases e
        · exact parseM_le r M _ u (by omega) e
    · cases e
theorem parseN_lt (l : List Nat) : parseN l < 18446744073709551616 := by
  unfold parseN
  rcases h : Lib.parseUintB 64 (l.map UInt8.ofNat) with u | _ | _
  · show u < 18446744073709551616
    unfold Lib.parseUintB at h
    split at h
    · cases h
    · have := parseM_le _ (2 ^ 64 - 1) 0 u (by omega) h
      omega
  · show (0 : Nat) < 18446744073709551616; omega
  · show (0 : Nat) < 18446744073709551616; omega
theorem hd_map (l : List ByteArray) : (l.map str).headD [] = str (l.headD ⟨#[]⟩) := by
  rcases l with _ | ⟨x, r⟩ <;> rfl
/-- What Read answers: the operation that the line says, or that there is none. -/
def ReadF (w : World) (line : ByteArray) (e : Ending) (w' : World) : Prop :=
  Below w.heap.size w w' ∧ ((∃ (k a b : Nat) (s : ByteArray), k < 256 ∧ a < 18446744073709551616 ∧ b < 18446744073709551616 ∧ s.size ≤ 1000000 ∧ rightO k a b (str s) = true ∧ textO k a b (str s) = str line ∧ e = .returned (.tuple #[opV k a b s, .int .i64 0])) ∨
    (e = .returned (.tuple #[opV 0 0 0 ⟨#[]⟩, .int .i64 20]) ∧ ∀ (k a b : Nat) (s : ByteArray), a < 18446744073709551616 → b < 18446744073709551616 → rightO k a b (str s) = true → textO k a b (str s) ≠ str line))
theorem readF_of {w : World} {line : ByteArray} {k a b : Nat} {s : ByteArray} {e : Ending} {w' : World} (h : ReadR w line k a b s e w') (hk : k < 256) (ha : a < 18446744073709551616) (hb : b < 18446744073709551616) (hs : s.size ≤ 1000000)
    (e1 : readK (splitS 3 (str line)) = k) (e2 : readA (splitS 3 (str line)) = a) (e3 : readB (splitS 3 (str line)) = b) (e4 : readN (splitS 3 (str line)) = str s) : ReadF w line e w' := by
  obtain ⟨hbel, ⟨h1, h2, h3⟩ | ⟨h1, h2⟩⟩ := h
  · exact ⟨hbel, .inl ⟨k, a, b, s, hk, ha, hb, hs, h1, h2, h3⟩⟩
  · refine ⟨hbel, .inr ⟨h2, fun k2 a2 b2 s2 ha2 hb2 hr ht => h1 ?_⟩⟩
    have hx := readO_text hr ha2 hb2
    rw [ht, e1, e2, e3, e4] at hx
    obtain ⟨rfl, rfl, rfl, hs2⟩ := hx
    rw [hs2]
    exact ⟨hr, ht⟩
theorem oread_any (w : World) (line : ByteArray) (hline : line.size ≤ 1000000) (hv : Vo w) (he : Ve w) :
    Calls Tryz.prog 13 #[.string line] w (ReadF w line) := by
  have hsp := lineB_str line
  obtain ⟨ps, hps⟩ : ∃ ps, ps = lineB line := ⟨_, rfl⟩
  rw [← hps] at hsp
  have hall : ∀ x ∈ ps, x.size ≤ 1000000 := fun x hx => Nat.le_trans (splitB_size _ _ x (by rw [hps] at hx; exact hx)) hline
  have hhd : ∀ l : List ByteArray, (∀ x ∈ l, x ∈ ps) → (l.headD ⟨#[]⟩).size ≤ 1000000 := fun l h => by
    rcases l with _ | ⟨x, r⟩
    · show (0 : Nat) ≤ _; omega
    · exact hall x (h x (by simp))
  obtain ⟨K, hK⟩ : ∃ K, kindL (str (ps.headD ⟨#[]⟩)) = K := ⟨_, rfl⟩
  have hK14 : K ≤ 14 := by rw [← hK]; exact kindL_le _
  have eK : readK (splitS 3 (str line)) = K := by
    rw [← hsp, ← hK]
    unfold readK headP
    rw [hd_map]
  have eA : readA (splitS 3 (str line)) = if aK K then parseN (str ((ps.drop 1).headD ⟨#[]⟩)) else 0 := by
    unfold readA headP restA
    rw [eK, ← hsp, ← List.map_drop, hd_map]
  have eB : readB (splitS 3 (str line)) = if bK K then parseN (headP (if aK K then ((ps.drop 1).drop 1).map str else (ps.drop 1).map str)) else 0 := by
    unfold readB restB restA
    rw [eK, ← hsp, ← List.map_drop, ← List.map_drop]
  have eN : readN (splitS 3 (str line)) = if nK K then headP (if bK K then (if aK K then ((ps.drop 1).drop 1).map str else (ps.drop 1).map str).drop 1 else (if aK K then ((ps.drop 1).drop 1).map str else (ps.drop 1).map str)) else [] := by
    unfold readN restN restB restA
    rw [eK, ← hsp, ← List.map_drop, ← List.map_drop]
  have hcase := kinds_case K hK14
  rcases hA : aK K with _ | _ <;> rcases hB : bK K with _ | _ <;> rcases hN : nK K with _ | _ <;> rw [hA, hB, hN] at hcase <;> rw [hA] at eA eB eN <;> rw [hB] at eB eN <;> rw [hN] at eN
  · exact absurd hcase (by decide)
  · obtain ⟨PA, hPA⟩ : ∃ PA, 0 = PA := ⟨_, rfl⟩
    obtain ⟨PB, hPB⟩ : ∃ PB, 0 = PB := ⟨_, rfl⟩
    obtain ⟨S, hS⟩ : ∃ S : ByteArray, (ps.drop 1).headD ⟨#[]⟩ = S := ⟨_, rfl⟩
    have hPAl : PA < 18446744073709551616 := by rw [← hPA]; omega
    have hPBl : PB < 18446744073709551616 := by rw [← hPB]; omega
    have hSz : S.size ≤ 1000000 := by rw [← hS]; exact hhd _ (fun y hy => List.mem_of_mem_drop (hy))
    have e4 : readN (splitS 3 (str line)) = str S := by rw [eN, ← hS]; exact hd_map _
    have e3 : readB (splitS 3 (str line)) = PB := by rw [eB, ← hPB]; rfl
    have e2 : readA (splitS 3 (str line)) = PA := by rw [eA, ← hPA]; rfl
    by_cases hr : rightO K PA PB (str S) = true
    · by_cases ht : textO K PA PB (str S) = str line
      · exact (read_4y w line ps _ K PA PB S hps rfl hline hv he hK14 hK hA hB hN hPA.symm hPB.symm hS hPAl hPBl hSz hr ht).mono fun e w' h => readF_of h (by omega) hPAl hPBl hSz eK e2 e3 e4
      · exact (read_4z w line ps _ K PA PB S hps rfl hline hv he hK14 hK hA hB hN hPA.symm hPB.symm hS hPAl hPBl hSz hr ht).mono fun e w' h => readF_of h (by omega) hPAl hPBl hSz eK e2 e3 e4
    · exact (read_4x w line ps _ K PA PB S hps rfl hline hv he hK14 hK hA hB hN hPA.symm hPB.symm hS hPAl hPBl hSz (by simpa using hr)).mono fun e w' h => readF_of h (by omega) hPAl hPBl hSz eK e2 e3 e4
  · exact absurd hcase (by decide)
  · exact absurd hcase (by decide)
  · obtain ⟨PA, hPA⟩ : ∃ PA, parseN (str ((ps.drop 1).headD ⟨#[]⟩)) = PA := ⟨_, rfl⟩
    obtain ⟨PB, hPB⟩ : ∃ PB, 0 = PB := ⟨_, rfl⟩
    obtain ⟨S, hS⟩ : ∃ S : ByteArray, ⟨#[]⟩ = S := ⟨_, rfl⟩
    have hPAl : PA < 18446744073709551616 := by rw [← hPA]; exact parseN_lt _
    have hPBl : PB < 18446744073709551616 := by rw [← hPB]; omega
    have hSz : S.size ≤ 1000000 := by rw [← hS]; show (0 : Nat) ≤ _; omega
    have e4 : readN (splitS 3 (str line)) = str S := by rw [eN, ← hS]; rfl
    have e3 : readB (splitS 3 (str line)) = PB := by rw [eB, ← hPB]; rfl
    have e2 : readA (splitS 3 (str line)) = PA := by rw [eA, ← hPA]; rfl
    by_cases hr : rightO K PA PB (str S) = true
    · by_cases ht : textO K PA PB (str S) = str line
      · exact (read_1y w line ps _ K PA PB S hps rfl hline hv he hK14 hK hA hB hN hPA hPB.symm hS.symm hPAl hPBl hSz hr ht).mono fun e w' h => readF_of h (by omega) hPAl hPBl hSz eK e2 e3 e4
      · exact (read_1z w line ps _ K PA PB S hps rfl hline hv he hK14 hK hA hB hN hPA hPB.symm hS.symm hPAl hPBl hSz hr ht).mono fun e w' h => readF_of h (by omega) hPAl hPBl hSz eK e2 e3 e4
    · exact (read_1x w line ps _ K PA PB S hps rfl hline hv he hK14 hK hA hB hN hPA hPB.symm hS.symm hPAl hPBl hSz (by simpa using hr)).mono fun e w' h => readF_of h (by omega) hPAl hPBl hSz eK e2 e3 e4
  · obtain ⟨PA, hPA⟩ : ∃ PA, parseN (str ((ps.drop 1).headD ⟨#[]⟩)) = PA := ⟨_, rfl⟩
    obtain ⟨PB, hPB⟩ : ∃ PB, 0 = PB := ⟨_, rfl⟩
    obtain ⟨S, hS⟩ : ∃ S : ByteArray, ((ps.drop 1).drop 1).headD ⟨#[]⟩ = S := ⟨_, rfl⟩
    have hPAl : PA < 18446744073709551616 := by rw [← hPA]; exact parseN_lt _
    have hPBl : PB < 18446744073709551616 := by rw [← hPB]; omega
    have hSz : S.size ≤ 1000000 := by rw [← hS]; exact hhd _ (fun y hy => List.mem_of_mem_drop (List.mem_of_mem_drop (hy)))
    have e4 : readN (splitS 3 (str line)) = str S := by rw [eN, ← hS]; exact hd_map _
    have e3 : readB (splitS 3 (str line)) = PB := by rw [eB, ← hPB]; rfl
    have e2 : readA (splitS 3 (str line)) = PA := by rw [eA, ← hPA]; rfl
    by_cases hr : rightO K PA PB (str S) = true
    · by_cases ht : textO K PA PB (str S) = str line
      · exact (read_0y w line ps _ K PA PB S hps rfl hline hv he hK14 hK hA hB hN hPA hPB.symm hS hPAl hPBl hSz hr ht).mono fun e w' h => readF_of h (by omega) hPAl hPBl hSz eK e2 e3 e4
      · exact (read_0z w line ps _ K PA PB S hps rfl hline hv he hK14 hK hA hB hN hPA hPB.symm hS hPAl hPBl hSz hr ht).mono fun e w' h => readF_of h (by omega) hPAl hPBl hSz eK e2 e3 e4
    · exact (read_0x w line ps _ K PA PB S hps rfl hline hv he hK14 hK hA hB hN hPA hPB.symm hS hPAl hPBl hSz (by simpa using hr)).mono fun e w' h => readF_of h (by omega) hPAl hPBl hSz eK e2 e3 e4
  · obtain ⟨PA, hPA⟩ : ∃ PA, parseN (str ((ps.drop 1).headD ⟨#[]⟩)) = PA := ⟨_, rfl⟩
    obtain ⟨PB, hPB⟩ : ∃ PB, parseN (str (((ps.drop 1).drop 1).headD ⟨#[]⟩)) = PB := ⟨_, rfl⟩
    obtain ⟨S, hS⟩ : ∃ S : ByteArray, ⟨#[]⟩ = S := ⟨_, rfl⟩
    have hPAl : PA < 18446744073709551616 := by rw [← hPA]; exact parseN_lt _
    have hPBl : PB < 18446744073709551616 := by rw [← hPB]; exact parseN_lt _
    have hSz : S.size ≤ 1000000 := by rw [← hS]; show (0 : Nat) ≤ _; omega
    have e4 : readN (splitS 3 (str line)) = str S := by rw [eN, ← hS]; rfl
    have e3 : readB (splitS 3 (str line)) = PB := by rw [eB, ← hPB]; show parseN (headP (((ps.drop 1).drop 1).map str)) = _; unfold headP; rw [hd_map]
    have e2 : readA (splitS 3 (str line)) = PA := by rw [eA, ← hPA]; rfl
    by_cases hr : rightO K PA PB (str S) = true
    · by_cases ht : textO K PA PB (str S) = str line
      · exact (read_2y w line ps _ K PA PB S hps rfl hline hv he hK14 hK hA hB hN hPA hPB hS.symm hPAl hPBl hSz hr ht).mono fun e w' h => readF_of h (by omega) hPAl hPBl hSz eK e2 e3 e4
      · exact (read_2z w line ps _ K PA PB S hps rfl hline hv he hK14 hK hA hB hN hPA hPB hS.symm hPAl hPBl hSz hr ht).mono fun e w' h => readF_of h (by omega) hPAl hPBl hSz eK e2 e3 e4
    · exact (read_2x w line ps _ K PA PB S hps rfl hline hv he hK14 hK hA hB hN hPA hPB hS.symm hPAl hPBl hSz (by simpa using hr)).mono fun e w' h => readF_of h (by omega) hPAl hPBl hSz eK e2 e3 e4
  · obtain ⟨PA, hPA⟩ : ∃ PA, parseN (str ((ps.drop 1).headD ⟨#[]⟩)) = PA := ⟨_, rfl⟩
    obtain ⟨PB, hPB⟩ : ∃ PB, parseN (str (((ps.drop 1).drop 1).headD ⟨#[]⟩)) = PB := ⟨_, rfl⟩
    obtain ⟨S, hS⟩ : ∃ S : ByteArray, (((ps.drop 1).drop 1).drop 1).headD ⟨#[]⟩ = S := ⟨_, rfl⟩
    have hPAl : PA < 18446744073709551616 := by rw [← hPA]; exact parseN_lt _
    have hPBl : PB < 18446744073709551616 := by rw [← hPB]; exact parseN_lt _
    have hSz : S.size ≤ 1000000 := by rw [← hS]; exact hhd _ (fun y hy => List.mem_of_mem_drop (List.mem_of_mem_drop (List.mem_of_mem_drop (hy))))
    have e4 : readN (splitS 3 (str line)) = str S := by rw [eN, ← hS]; show headP ((((ps.drop 1).drop 1).map str).drop 1) = _; rw [← List.map_drop]; exact hd_map _
    have e3 : readB (splitS 3 (str line)) = PB := by rw [eB, ← hPB]; show parseN (headP (((ps.drop 1).drop 1).map str)) = _; unfold headP; rw [hd_map]
    have e2 : readA (splitS 3 (str line)) = PA := by rw [eA, ← hPA]; rfl
    by_cases hr : rightO K PA PB (str S) = true
    · by_cases ht : textO K PA PB (str S) = str line
      · exact (read_3y w line ps _ K PA PB S hps rfl hline hv he hK14 hK hA hB hN hPA hPB hS hPAl hPBl hSz hr ht).mono fun e w' h => readF_of h (by omega) hPAl hPBl hSz eK e2 e3 e4
      · exact (read_3z w line ps _ K PA PB S hps rfl hline hv he hK14 hK hA hB hN hPA hPB hS hPAl hPBl hSz hr ht).mono fun e w' h => readF_of h (by omega) hPAl hPBl hSz eK e2 e3 e4
    · exact (read_3x w line ps _ K PA PB S hps rfl hline hv he hK14 hK hA hB hN hPA hPB hS hPAl hPBl hSz (by simpa using hr)).mono fun e w' h => readF_of h (by omega) hPAl hPBl hSz eK e2 e3 e4
end Go.Proofs.YtfnobibjphnmdaaGreatDoor
