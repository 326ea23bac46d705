/- TpRead, TpText: joined by program (tools/merge.py). -/
import Derived.Test.YtalpippeelomjaaZ8
namespace Go.Proofs.Ytalpippeelomjaa
open Go.RowKit
set_option linter.unusedSimpArgs false
set_option linter.unusedVariables false

/-- The Reader in block g has l left, in memory below B. -/
structure Rdr (w : World) (B g : Nat) (v : Value) (bad : Bool) (l : List Nat) : Prop where
  st : w.heap[g]? = some (.cells #[v, .bool bad] 135 (0, 0))
  by_ : Bytes w B v l
  at_ : B ≤ g
  dead : bad = true → l = []
section
variable {w w' : World} {B g : Nat} {v : Value} {bad : Bool} {l : List Nat}
theorem Rdr.cells (h : Rdr w B g v bad l) : w.cell? ⟨g, 0, none⟩ = some v ∧ w.cell? ⟨g, 1, none⟩ = some (.bool bad) ∧ w.frozen? ⟨g, 0, none⟩ = false ∧ w.frozen? ⟨g, 1, none⟩ = false :=
  ⟨cell_of_row w g 0 _ _ _ h.st, cell_of_row w g 1 _ _ _ h.st, frozen_of_row w g 0 _ _ h.st, frozen_of_row w g 1 _ _ h.st⟩
theorem Rdr.slice (h : Rdr w B g v bad l) : ∃ A c, v = .slice A l.length c ∧ l.length ≤ c := by
  obtain ⟨A, c, rfl, _, hc, _⟩ := h.by_.form
  exact ⟨A, c, rfl, hc⟩
theorem Rdr.move (h : Rdr w B g v bad l) {u : Value} {m : List Nat} (hb : Bytes w B u m) (hd : bad = true → m = []) : Rdr (w.setCell ⟨g, 0, none⟩ u) B g u bad m := by
  refine ⟨?_, hb.of_cells fun p hp => World.cell?_setCell_other w _ _ _ (fun e => by subst e; have := h.at_; simp at hp; omega), h.at_, hd⟩
  rw [heap_setCell_same w g 0 _ _ _ h.st]
  rfl
theorem Rdr.fail (h : Rdr w B g v bad l) : Rdr ((w.setCell ⟨g, 0, none⟩ (.slice none 0 0)).setCell ⟨g, 1, none⟩ (.bool true)) B g (.slice none 0 0) true [] := by
  have h1 := h.move (Bytes.none_ w B) (fun _ => rfl)
  refine ⟨?_, Bytes.none_ _ _, h.at_, fun _ => rfl⟩
  rw [heap_setCell_same _ g 1 _ _ _ h1.st]
  rfl
theorem Rdr.below (h : Rdr w B g v bad l) (hb : Below w.heap.size w w') : Rdr w' B g v bad l :=
  ⟨(hb.block g (lt_of_heap h.st)).trans h.st, h.by_.of_cells fun p hp => hb.cell (Nat.lt_of_lt_of_le hp (Nat.le_trans h.at_ (Nat.le_of_lt (lt_of_heap h.st)))), h.at_, h.dead⟩
theorem Rdr.keep (h : Rdr w B g v bad l) (hk : ∀ k, k ≤ g → w'.heap[k]? = w.heap[k]?) : Rdr w' B g v bad l :=
  ⟨(hk g (Nat.le_refl _)).trans h.st, h.by_.of_cells fun p hp => World.cell?_of_block (hk _ (by have := h.at_; omega)), h.at_, h.dead⟩
end
/-- What a Reader's method leaves. -/
def Took (W : World) (B g : Nat) (bad : Bool) (l : List Nat) (w : World) : Prop := ∃ v, Rdr w B g v bad l ∧ Chg W w g none
theorem infoRdr : (Try.prog.info? 135).map (fun i => (i.size)) = some 2 := by kernel_rfl

set_option maxRecDepth 100000 in
set_option maxHeartbeats 1000000 in
theorem tp_read_any (w : World) (v : Value) (l : List Nat) (hp : Bytes w w.heap.size v l) (hl : l.length ≤ 1048576) :
    Calls Try.prog 67 #[v] w fun e w' => ∃ g u, e = .returned (.pointer (some ⟨g, 0, none⟩)) ∧ Rdr w' g g u false l ∧ w.heap.size ≤ g ∧ Below w.heap.size w w' := by
  have HC := hide (tp_clone_any w v l hp (by omega))
  clear hp
  go_enter Try.func67, Try.ntmps67
  go_wp2_with (go_at_call 66; (with_reducible refine (unhide HC).mono ?_); rintro e w1 ⟨A, n, c, rfl, hM, hB⟩)
  go_ret
  refine ⟨w1.heap.size, .slice A n c, rfl, ⟨Go.heap_alloc_new w1 _, ?_, Nat.le_refl _, fun h => by cases h⟩, hB.size, hB.alloc hB.size _⟩
  exact hM.bytes.below ((Below.refl _ _).alloc (Nat.le_refl _) _)
set_option maxRecDepth 100000 in
set_option maxHeartbeats 1000000 in
theorem rfail_any (w : World) (B g : Nat) (v : Value) (bad : Bool) (l : List Nat) (h : Rdr w B g v bad l) :
    Calls Try.prog 86 #[.pointer (some ⟨g, 0, none⟩)] w fun e w' => (∃ u, e = .returned u) ∧ Took w B g true [] w' := by
  obtain ⟨c0, c1, f0, f1⟩ := h.cells
  obtain ⟨A, c, rfl, _⟩ := h.slice
  have HR := Lib.hid h
  clear h
  go_enter Try.func86, Try.ntmps86
  go_wp2
  exact bodyPost_end (results_none rfl _ _ _) rfl ⟨⟨_, rfl⟩, _, HR.out.fail, (Chg.set _ _ _ _ _).trans (Goes.refl _ _) (Chg.set _ _ _ _ _)⟩
theorem number_at (w : World) (v : Value) (l : List Nat) (a k : Nat) (he : numOf l = (a, k)) (hp : Bytes w w.heap.size v l) :
    Calls Try.prog 98 #[v] w fun e w' => e = .returned (.tuple #[.int .u64 (a : Int), .int .i64 (k : Int)]) ∧ w = w' := by
  have h := number_any w v l hp
  rw [he] at h
  exact h
set_option maxRecDepth 100000 in
set_option maxHeartbeats 2000000 in
theorem rnum_yes (w : World) (B g most a k : Nat) (v : Value) (bad : Bool) (l : List Nat) (h : Rdr w B g v bad l) (he : numOf l = (a, k)) (hk : k ≠ 0) (ha : a ≤ most) (hm : most < 18446744073709551616) :
    Calls Try.prog 85 #[.pointer (some ⟨g, 0, none⟩), .int .u64 (most : Int)] w fun e w' => e = .returned (.int .u64 (a : Int)) ∧ Took w B g bad (l.drop k) w' := by
  obtain ⟨c0, c1, f0, f1⟩ := h.cells
  have hBg := lt_of_heap h.st
  obtain ⟨A, c, rfl, hc⟩ := h.slice
  have HC := hide (number_at w _ l a k he (h.by_.up (Nat.le_trans h.at_ (Nat.le_of_lt hBg))))
  obtain ⟨h1, h2, h3⟩ := numOf_le h.by_.small he
  have hlong := h.by_.long
  unfold maxLen at hlong
  have HR := Lib.hid h
  have HRest := Lib.hid (h.by_.rest h2)
  have hd : bad = true → l.drop k = [] := fun e => by rw [h.dead e]; simp
  have HD := Lib.hid hd
  clear h he hd
  obtain ⟨n, hn⟩ : ∃ n, n = l.length := ⟨_, rfl⟩
  rw [← hn] at hc h2 hlong HC HRest c0
  have hk0 : ((k : Int) == 0) = false := by rw [beq_eq_false_iff_ne]; omega
  have hle : decide ((most : Int) < (a : Int)) = false := decide_eq_false (by omega)
  have hle' : decide (most < a) = false := decide_eq_false (by omega)
  clear hn hk
  by_cases hck : c = k
  · have hr := HRest.out
    subst hck
    rw [if_pos rfl, Nat.sub_self, show n - c = 0 by omega] at hr
    have HX := Lib.hid hr
    clear hr HRest
    go_enter Try.func85, Try.ntmps85
    go_wp2_with (go_at_call 98; (with_reducible refine (unhide HC).mono ?_); rintro e w1 ⟨rfl, rfl⟩)
    go_ret
    exact ⟨rfl, _, HR.out.move HX.out HD.out, Chg.set _ _ _ _ _⟩
  · have hr := HRest.out
    rw [if_neg hck] at hr
    have HX := Lib.hid hr
    clear hr HRest
    go_enter Try.func85, Try.ntmps85
    go_wp2_with (go_at_call 98; (with_reducible refine (unhide HC).mono ?_); rintro e w1 ⟨rfl, rfl⟩)
    go_ret
    exact ⟨rfl, _, HR.out.move HX.out HD.out, Chg.set _ _ _ _ _⟩
set_option maxRecDepth 100000 in
set_option maxHeartbeats 2000000 in
theorem rnum_no (w : World) (B g most a k : Nat) (v : Value) (bad : Bool) (l : List Nat) (h : Rdr w B g v bad l) (he : numOf l = (a, k)) (hk : k = 0 ∨ most < a) (hm : most < 18446744073709551616) :
    Calls Try.prog 85 #[.pointer (some ⟨g, 0, none⟩), .int .u64 (most : Int)] w fun e w' => e = .returned (.int .u64 0) ∧ Took w B g true [] w' := by
  obtain ⟨c0, c1, f0, f1⟩ := h.cells
  have hBg := lt_of_heap h.st
  have HF := hide (rfail_any w B g v bad l h)
  obtain ⟨A, c, rfl, hc⟩ := h.slice
  have HC := hide (number_at w _ l a k he (h.by_.up (Nat.le_trans h.at_ (Nat.le_of_lt hBg))))
  obtain ⟨h1, h2, h3⟩ := numOf_le h.by_.small he
  clear h he
  by_cases hk0 : k = 0
  · have hk1 : ((k : Int) == 0) = true := by rw [beq_iff_eq]; omega
    have HK := Lib.hid hk0
    clear hk0 hk
    go_enter Try.func85, Try.ntmps85
    go_wp2_with (first
      | (go_at_call 98; (with_reducible refine (unhide HC).mono ?_); rintro e w1 ⟨rfl, rfl⟩)
      | (go_at_call 86; (with_reducible refine (unhide HF).mono ?_); rintro e w1 ⟨⟨u, rfl⟩, hT⟩))
    go_ret
    exact ⟨rfl, hT⟩
  · have hk1 : ((k : Int) == 0) = false := by rw [beq_eq_false_iff_ne]; omega
    have hle : decide ((most : Int) < (a : Int)) = true := decide_eq_true (by omega)
    have hle' : decide (most < a) = true := decide_eq_true (by omega)
    clear hk
    go_enter Try.func85, Try.ntmps85
    go_wp2_with (first
      | (go_at_call 98; (with_reducible refine (unhide HC).mono ?_); rintro e w1 ⟨rfl, rfl⟩)
      | (go_at_call 86; (with_reducible refine (unhide HF).mono ?_); rintro e w1 ⟨⟨u, rfl⟩, hT⟩))
    go_ret
    exact ⟨rfl, hT⟩
/-- The number that is taken, and what is left. -/
def takeNum (l : List Nat) (most : Nat) : Nat × List Nat × Bool := if (numOf l).2 = 0 ∨ most < (numOf l).1 then (0, [], false) else ((numOf l).1, l.drop (numOf l).2, true)
theorem rnum_any (w : World) (B g most : Nat) (v : Value) (bad : Bool) (l : List Nat) (h : Rdr w B g v bad l) (hm : most < 18446744073709551616) :
    Calls Try.prog 85 #[.pointer (some ⟨g, 0, none⟩), .int .u64 (most : Int)] w fun e w' => e = .returned (.int .u64 ((takeNum l most).1 : Int)) ∧ Took w B g (bad || !(takeNum l most).2.2) (takeNum l most).2.1 w' := by
  unfold takeNum
  by_cases hc : (numOf l).2 = 0 ∨ most < (numOf l).1
  · rw [if_pos hc]
    have h1 := rnum_no w B g most (numOf l).1 (numOf l).2 v bad l h rfl hc hm
    simpa using h1
  · rw [if_neg hc]
    have h1 := rnum_yes w B g most (numOf l).1 (numOf l).2 v bad l h rfl (by omega) (by omega) hm
    simpa using h1
theorem zag_odd {n : Nat} (hn : n < 18446744073709551616) (h : n % 2 = 1) : wrap64 (bits .xor .u64 IntKind.u64.max ((n : Int) / 2)) = zag n := by
  have e : (n : Int) / 2 = ((n / 2 : Nat) : Int) := by omega
  rw [e, not64 _ (by omega)]
  have h1 : wrap64 ((18446744073709551615 - n / 2 : Nat) : Int) = ((18446744073709551615 - n / 2 : Nat) : Int) - 18446744073709551616 := by
    unfold wrap64
    omega
  rw [h1]
  unfold zag
  rw [if_pos h]
  omega
theorem zag_even {n : Nat} (h : ¬ n % 2 = 1) : (n : Int) / 2 = zag n := by
  unfold zag
  rw [if_neg h]
  omega
/-- Bytes as a string. -/
def txt (l : List Nat) : ByteArray := ⟨(l.map UInt8.ofNat).toArray⟩
theorem txt_str (s : ByteArray) : txt (str s) = s := by
  unfold txt str
  rw [List.map_map]
  have e : (UInt8.ofNat ∘ UInt8.toNat) = id := by
    funext u
    simp
  rw [e, List.map_id]
theorem str_txt {l : List Nat} (h : ∀ b ∈ l, b < 256) : str (txt l) = l := by
  unfold txt str
  show ((l.map UInt8.ofNat).toArray.toList).map UInt8.toNat = l
  rw [List.map_map]
  conv => rhs; rw [← List.map_id l]
  apply List.map_congr_left
  intro b hb
  have := h b hb
  simp
  omega
theorem txt_size (l : List Nat) : (txt l).size = l.length := by
  show (l.map UInt8.ofNat).toArray.size = _
  simp
set_option maxRecDepth 100000 in
theorem convert_bytes {w : World} {B n c : Nat} {A : Option Addr} {l : List Nat} (h : Bytes w B (.slice A n c) l) : (convert 43 9 (.slice A n c)).run Try.prog w = .ok (.string (txt l)) w := by
  obtain ⟨⟨A', c', hv, hl, hc, hn⟩, hs, hm⟩ := h
  injection hv with h1 h2 h3
  subst h1 h2 h3
  rcases A with _ | ad
  · have h0 : l = [] := by
      have h1 := hl.empty
      rw [← List.length_eq_zero_iff, ← byt_length, h1]
      rfl
    subst h0
    rw [run_convert_bytes_string w _ _ 5 _ _ _ Try.underlying43 Try.underlying5 Try.underlying9]
    rfl
  · have h1 := run_convert_bytes_back (P := Try.prog) w 43 9 5 ad c (l.map UInt8.ofNat) Try.underlying43 Try.underlying5 Try.underlying9 (by
      intro j hj
      rw [List.length_map] at hj
      have hb := hs l[j] (List.getElem_mem hj)
      have := hl.cells j (.int .u8 (l[j] : Int)) (by rw [byt_at, List.getElem?_eq_getElem hj]; rfl)
      rw [this]
      simp
      omega)
    rw [List.length_map] at h1
    exact h1
theorem Rdr.take {w : World} {B g : Nat} {A : Option Addr} {n c : Nat} {bad : Bool} {l : List Nat} (h : Rdr w B g (.slice A n c) bad l) : n = l.length ∧ n ≤ c := by
  obtain ⟨A', c', hv, hc⟩ := h.slice
  injection hv with h1 h2 h3
  omega
set_option maxRecDepth 100000 in
set_option maxHeartbeats 1000000 in
theorem rleft_any (w : World) (B g : Nat) (v : Value) (bad : Bool) (l : List Nat) (h : Rdr w B g v bad l) :
    Calls Try.prog 68 #[.pointer (some ⟨g, 0, none⟩)] w fun e w' => e = .returned (.int .i64 (l.length : Int)) ∧ w = w' := by
  obtain ⟨c0, c1, f0, f1⟩ := h.cells
  obtain ⟨A, c, rfl, hc⟩ := h.slice
  clear h
  go_enter Try.func68, Try.ntmps68
  go_wp2
  go_ret
  exact ⟨rfl, rfl⟩
def doneIs (bad : Bool) (l : List Nat) : Int := if bad = true ∨ l ≠ [] then 2 else 0
theorem done_ok : doneIs false [] = 0 := rfl
theorem done_bad {bad : Bool} {l : List Nat} (h : bad = true ∨ l ≠ []) : doneIs bad l = 2 := if_pos h
set_option maxRecDepth 100000 in
set_option maxHeartbeats 1000000 in
theorem rdone_any (w : World) (B g : Nat) (v : Value) (bad : Bool) (l : List Nat) (h : Rdr w B g v bad l) :
    Calls Try.prog 70 #[.pointer (some ⟨g, 0, none⟩)] w fun e w' => e = .returned (.int .i64 (doneIs bad l)) ∧ w = w' := by
  obtain ⟨c0, c1, f0, f1⟩ := h.cells
  obtain ⟨A, c, rfl, hc⟩ := h.slice
  have hd := h.dead
  clear h
  cases bad
  · obtain ⟨n, hn⟩ : ∃ n, n = l.length := ⟨_, rfl⟩
    rw [← hn] at c0
    clear hd
    by_cases h0 : n = 0
    · have h1 : decide (0 < (n : Int)) = false := decide_eq_false (by omega)
      have h2 : decide (0 < n) = false := decide_eq_false (by omega)
      have HL := Lib.hid (show l = [] from List.eq_nil_of_length_eq_zero (by omega))
      clear hn h0 hc
      go_enter Try.func70, Try.ntmps70
      go_wp2
      go_ret
      exact ⟨congrArg (fun z => Ending.returned (Value.int .i64 z)) (by rw [HL.out]; rfl), rfl⟩
    · have h1 : decide (0 < (n : Int)) = true := decide_eq_true (by omega)
      have h2 : decide (0 < n) = true := decide_eq_true (by omega)
      have hl : l ≠ [] := fun e => h0 (by rw [hn, e]; rfl)
      have HL := Lib.hid hl
      clear hn h0 hc hl
      go_enter Try.func70, Try.ntmps70
      go_wp2
      go_ret
      exact ⟨congrArg (fun z => Ending.returned (Value.int .i64 z)) (done_bad (.inr HL.out)).symm, rfl⟩
  · clear hd
    go_enter Try.func70, Try.ntmps70
    go_wp2
    go_ret
    exact ⟨congrArg (fun z => Ending.returned (Value.int .i64 z)) (done_bad (.inl rfl)).symm, rfl⟩
def takeByte : List Nat → Nat × List Nat × Bool
  | [] => (0, [], false)
  | b :: r => (b, r, true)
end Go.Proofs.Ytalpippeelomjaa
namespace Go.Proofs.Ytalpippeelomjaa
open Go.RowKit
set_option linter.unusedSimpArgs false
set_option linter.unusedVariables false

def takeBool (l : List Nat) : Bool × List Nat × Bool := if 1 < (takeByte l).1 then (false, [], false) else ((takeByte l).1 == 1, (takeByte l).2.1, (takeByte l).2.2)
/-- The text that is taken, and what is left. -/
def takeText (l : List Nat) (most : Nat) : List Nat × List Nat × Bool :=
  if (takeNum l most).2.1.length < (takeNum l most).1 then ([], [], false) else ((takeNum l most).2.1.take (takeNum l most).1, (takeNum l most).2.1.drop (takeNum l most).1, (takeNum l most).2.2)
theorem Rdr.texts {w : World} {B g n c k : Nat} {A : Option Addr} {bad : Bool} {l : List Nat} (h : Rdr w B g (.slice A n c) bad l) (hk : k ≤ n) :
    (convert 43 9 (.slice A k c)).run Try.prog w = .ok (.string (txt (l.take k))) w ∧ Bytes w B (.slice (if c = k then A else A.map (·.add k)) (n - k) (c - k)) (l.drop k) ∧ (bad = true → l.drop k = []) :=
  ⟨convert_bytes (h.by_.first hk), h.by_.rest hk, fun e => by rw [h.dead e]; simp⟩
set_option maxRecDepth 100000 in
set_option maxHeartbeats 2000000 in
theorem rtext_any (w : World) (B g most : Nat) (v : Value) (bad : Bool) (l : List Nat) (h : Rdr w B g v bad l) (hm : most < 9223372036854775808) :
    Calls Try.prog 69 #[.pointer (some ⟨g, 0, none⟩), .int .i64 (most : Int)] w fun e w' => e = .returned (.string (txt (takeText l most).1)) ∧ Took w B g (bad || !(takeText l most).2.2) (takeText l most).2.1 w' := by
  have HC := hide (rnum_any w B g most v bad l h (by omega))
  have hlong := h.by_.long
  unfold maxLen at hlong
  have hlen : (takeNum l most).2.1.length ≤ l.length := by
    unfold takeNum
    split
    · simp
    · simp
  clear h
  unfold takeText
  obtain ⟨a, ha⟩ : ∃ n, n = (takeNum l most).1 := ⟨_, rfl⟩
  obtain ⟨b2, hb2⟩ : ∃ n, n = (bad || !(takeNum l most).2.2) := ⟨_, rfl⟩
  obtain ⟨l2, hl2⟩ : ∃ n, n = (takeNum l most).2.1 := ⟨_, rfl⟩
  obtain ⟨o2, ho2⟩ : ∃ n, n = (takeNum l most).2.2 := ⟨_, rfl⟩
  rw [← ha, ← hb2, ← hl2] at HC
  rw [← hl2] at hlen
  rw [← ha, ← hl2, ← ho2]
  have hmx : (if (most : Int) < 0 then (0 : Int) else (most : Int)) = (most : Int) := by rw [if_neg (by omega)]
  by_cases h1 : l2.length < a
  · rw [if_pos h1]
    show Calls _ _ _ _ fun e w' => e = .returned (.string (txt [])) ∧ Took w B g (bad || true) [] w'
    rw [Bool.or_true]
    have hx : decide ((l2.length : Int) < (a : Int)) = true := decide_eq_true (by omega)
    have hx' : decide (l2.length < a) = true := decide_eq_true h1
    have HF := fun (w1 : World) (v1 : Value) (h : Rdr w1 B g v1 b2 l2) => hide (rfail_any w1 B g v1 b2 l2 h)
    have H1 := Lib.hid h1
    clear ha hb2 hl2 ho2 h1
    go_enter Try.func69, Try.ntmps69
    go_wp2_with (first
      | (go_at_call 85; (with_reducible refine (unhide HC).mono ?_); rintro e w1 ⟨rfl, v1, hR1, hC1⟩; go_loud (
          have HC1 := Lib.hid hC1;
          have HF1 := HF w1 v1 hR1;
          obtain ⟨c0, c1, f0, f1⟩ := hR1.cells;
          obtain ⟨A, c, rfl, hc⟩ := hR1.slice;
          clear hR1 hC1))
      | (go_at_call 86; (with_reducible refine (unhide HF1).mono ?_); rintro e w2 ⟨⟨u, rfl⟩, v2, hR2, hC2⟩))
    go_ret
    exact ⟨rfl, v2, hR2, HC1.out.trans (Goes.refl _ _) hC2⟩
  · rw [if_neg h1]
    show Calls _ _ _ _ fun e w' => e = .returned (.string (txt (l2.take a))) ∧ Took w B g (bad || !o2) (l2.drop a) w'
    rw [show (bad || !o2) = b2 by rw [hb2, ho2]]
    obtain ⟨n, hn⟩ : ∃ n, n = l2.length := ⟨_, rfl⟩
    rw [← hn] at h1 hlen
    have hx : decide ((n : Int) < (a : Int)) = false := decide_eq_false (by omega)
    have hx' : decide (n < a) = false := decide_eq_false h1
    have HN := Lib.hid hn
    clear ha hb2 hl2 ho2 hn
    go_enter Try.func69, Try.ntmps69
    go_wp2_with (first
      | (go_at_call 85; (with_reducible refine (unhide HC).mono ?_); rintro e w1 ⟨rfl, v1, hR1, hC1⟩; go_loud (
          have HC1 := Lib.hid hC1;
          obtain ⟨c0, c1, f0, f1⟩ := hR1.cells;
          obtain ⟨A, c, rfl, hc⟩ := hR1.slice;
          rw [← HN.out] at hR1 c0 hc;
          obtain ⟨hcv, hrest, hd⟩ := hR1.texts (k := a) (by omega);
          have HR := Lib.hid hR1;
          have HX := Lib.hid hrest;
          have HD := Lib.hid hd;
          clear hR1 hC1 hrest hd)))
    · have hca : c = a := by assumption
      have hX := HX.out
      rw [if_pos hca, hca, Nat.sub_self] at hX
      go_ret
      exact ⟨rfl, _, HR.out.move hX HD.out, HC1.out.trans (Goes.refl _ _) (Chg.set _ _ _ _ _)⟩
    · have hca : ¬ c = a := by assumption
      have hX := HX.out
      rw [if_neg hca] at hX
      go_ret
      exact ⟨rfl, _, HR.out.move hX HD.out, HC1.out.trans (Goes.refl _ _) (Chg.set _ _ _ _ _)⟩
/-- A nil Reader. -/
theorem rnum_nil (w : World) (n : Int) : Calls Try.prog 85 #[.pointer none, .int .u64 n] w fun e w' => e = .returned (.int .u64 0) ∧ w = w' := by
  go_enter Try.func85, Try.ntmps85
  go_wp2
  go_ret
  exact ⟨rfl, rfl⟩
theorem rtext_nil (w : World) (n : Int) : Calls Try.prog 69 #[.pointer none, .int .i64 n] w fun e w' => e = .returned (.string ⟨#[]⟩) ∧ w = w' := by
  go_enter Try.func69, Try.ntmps69
  go_wp2
  go_ret
  exact ⟨rfl, rfl⟩
theorem rleft_nil (w : World) : Calls Try.prog 68 #[.pointer none] w fun e w' => e = .returned (.int .i64 0) ∧ w = w' := by
  go_enter Try.func68, Try.ntmps68
  go_wp2
  go_ret
  exact ⟨rfl, rfl⟩
theorem rdone_nil (w : World) : Calls Try.prog 70 #[.pointer none] w fun e w' => e = .returned (.int .i64 2) ∧ w = w' := by
  go_enter Try.func70, Try.ntmps70
  go_wp2
  go_ret
  exact ⟨rfl, rfl⟩
end Go.Proofs.Ytalpippeelomjaa
