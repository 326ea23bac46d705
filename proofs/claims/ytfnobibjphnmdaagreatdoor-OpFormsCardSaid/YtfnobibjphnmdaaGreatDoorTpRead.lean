/- Contracts: a Reader over bytes: what its Num, Int, Byte, Bool, Text take, what is left, whether it is done. -/
import Derived.Test.YtfnobibjphnmdaaGreatDoorTpRdr
import Derived.Test.YtfnobibjphnmdaaGreatDoorTpWtr
namespace Go.Proofs.YtfnobibjphnmdaaGreatDoor
open Go.RowKit
set_option linter.unusedSimpArgs false
set_option linter.unusedVariables false

/-- The Reader in block g has l left, in memory below B. -/
structure Rdr (w : World) (B g : Nat) (v : Value) (bad : Bool) (l : List Nat) : Prop where
  st : w.heap[g]? = some (.cells #[v, .bool bad] 91 (0, 0))
  by_ : Bytes w B v l
  at_ : B ≤ g
  dead : bad = true → l = []
section
variable {w w' : World} {B g : Nat} {v : Value} {bad : Bool} {l : List Nat}
theorem Rdr.cells (h : Rdr w B g v bad l) : w.cell? ⟨g, 0, none⟩ = some v ∧ w.cell? ⟨g, 1, none⟩ = some (.bool bad) ∧ w.frozen? ⟨g, 0, none⟩ = false ∧ w.frozen? ⟨g, 1, none⟩ = false :=
  ⟨cell_of_row w g 0 _ _ _ h.st, cell_of_row w g 1 _ _ _ h.st, frozen_of_row w g 0 _ _ h.st, frozen_of_row w g 1 _ _ h.st⟩
theorem Rdr.slice (h : Rdr w B g v bad l) : ∃ A c, v = .slice A l.length c ∧ l.length ≤ c := by
  obtain ⟨A, c, rfl, _, hc, _⟩ := h.by_.form
  exact ⟨A, c, rfl, hc⟩
theorem Rdr.move (h : Rdr w B g v bad l) {u : Value} {m : List Nat} (hb : Bytes w B u m) (hd : bad = true → m = []) : Rdr (w.setCell ⟨g, 0, none⟩ u) B g u bad m := by
  refine ⟨?_, hb.of_cells fun p hp => World.cell?_setCell_other w _ _ _ (fun e => by subst e; have := h.at_; simp at hp; omega), h.at_, hd⟩
  rw [heap_setCell_same w g 0 _ _ _ h.st]
  rfl
theorem Rdr.fail (h : Rdr w B g v bad l) : Rdr ((w.setCell ⟨g, 0, none⟩ (.slice none 0 0)).setCell ⟨g, 1, none⟩ (.bool true)) B g (.slice none 0 0) true [] := by
  have h1 := h.move (Bytes.none_ w B) (fun _ => rfl)
  refine ⟨?_, Bytes.none_ _ _, h.at_, fun _ => rfl⟩
  rw [heap_setCell_same _ g 1 _ _ _ h1.st]
  rfl
theorem Rdr.below (h : Rdr w B g v bad l) (hb : Below w.heap.size w w') : Rdr w' B g v bad l :=
  ⟨(hb.block g (lt_of_heap h.st)).trans h.st, h.by_.of_cells fun p hp => hb.cell (Nat.lt_of_lt_of_le hp (Nat.le_trans h.at_ (Nat.le_of_lt (lt_of_heap h.st)))), h.at_, h.dead⟩
theorem Rdr.keep (h : Rdr w B g v bad l) (hk : ∀ k, k ≤ g → w'.heap[k]? = w.heap[k]?) : Rdr w' B g v bad l :=
  ⟨(hk g (Nat.le_refl _)).trans h.st, h.by_.of_cells fun p hp => World.cell?_of_block (hk _ (by have := h.at_; omega)), h.at_, h.dead⟩
end
/-- What a Reader's method leaves. -/
def Took (W : World) (B g : Nat) (bad : Bool) (l : List Nat) (w : World) : Prop := ∃ v, Rdr w B g v bad l ∧ Chg W w g none
theorem infoRdr : (Tryz.prog.info? 91).map (fun i => (i.size)) = some 2 := by kernel_rfl

set_option maxRecDepth 100000 in
set_option maxHeartbeats 1000000 in
theorem read_any (w : World) (v : Value) (l : List Nat) (hp : Bytes w w.heap.size v l) (hl : l.length ≤ 1048576) :
    Calls Tryz.prog 32 #[v] w fun e w' => ∃ g u, e = .returned (.pointer (some ⟨g, 0, none⟩)) ∧ Rdr w' g g u false l ∧ w.heap.size ≤ g ∧ Below w.heap.size w w' := by
  have HC := hide (tp_clone_any w v l hp (by omega))
  clear hp
  go_enter Tryz.func32, Tryz.ntmps32
  go_wp2_with (go_at_call 51; (with_reducible refine (unhide HC).mono ?_); rintro e w1 ⟨A, n, c, rfl, hM, hB⟩)
  go_ret
  refine ⟨w1.heap.size, .slice A n c, rfl, ⟨Go.heap_alloc_new w1 _, ?_, Nat.le_refl _, fun h => by cases h⟩, hB.size, hB.alloc hB.size _⟩
  exact hM.bytes.below ((Below.refl _ _).alloc (Nat.le_refl _) _)
set_option maxRecDepth 100000 in
set_option maxHeartbeats 1000000 in
theorem rfail_any (w : World) (B g : Nat) (v : Value) (bad : Bool) (l : List Nat) (h : Rdr w B g v bad l) :
    Calls Tryz.prog 56 #[.pointer (some ⟨g, 0, none⟩)] w fun e w' => (∃ u, e = .returned u) ∧ Took w B g true [] w' := by
  obtain ⟨c0, c1, f0, f1⟩ := h.cells
  obtain ⟨A, c, rfl, _⟩ := h.slice
  have HR := Lib.hid h
  clear h
  go_enter Tryz.func56, Tryz.ntmps56
  go_wp2
  exact bodyPost_end (results_none rfl _ _ _) rfl ⟨⟨_, rfl⟩, _, HR.out.fail, (Chg.set _ _ _ _ _).trans (Goes.refl _ _) (Chg.set _ _ _ _ _)⟩
theorem number_at (w : World) (v : Value) (l : List Nat) (a k : Nat) (he : numOf l = (a, k)) (hp : Bytes w w.heap.size v l) :
    Calls Tryz.prog 57 #[v] w fun e w' => e = .returned (.tuple #[.int .u64 (a : Int), .int .i64 (k : Int)]) ∧ w = w' := by
  have h := tp_number_any w v l hp
  rw [he] at h
  exact h
set_option maxRecDepth 100000 in
set_option maxHeartbeats 2000000 in
theorem rnum_yes (w : World) (B g most a k : Nat) (v : Value) (bad : Bool) (l : List Nat) (h : Rdr w B g v bad l) (he : numOf l = (a, k)) (hk : k ≠ 0) (ha : a ≤ most) (hm : most < 18446744073709551616) :
    Calls Tryz.prog 34 #[.pointer (some ⟨g, 0, none⟩), .int .u64 (most : Int)] w fun e w' => e = .returned (.int .u64 (a : Int)) ∧ Took w B g bad (l.drop k) w' := by
  obtain ⟨c0, c1, f0, f1⟩ := h.cells
  have hBg := lt_of_heap h.st
  obtain ⟨A, c, rfl, hc⟩ := h.slice
  have HC := hide (number_at w _ l a k he (h.by_.up (Nat.le_trans h.at_ (Nat.le_of_lt hBg))))
  obtain ⟨h1, h2, h3⟩ := numOf_le h.by_.small he
  have hlong := h.by_.long
  unfold maxLen at hlong
  have HR := Lib.hid h
  have HRest := Lib.hid (h.by_.rest h2)
  have hd : bad = true → l.drop k = [] := fun e => by rw [h.dead e]; simp
  have HD := Lib.hid hd
  clear h he hd
  obtain ⟨n, hn⟩ : ∃ n, n = l.length := ⟨_, rfl⟩
  rw [← hn] at hc h2 hlong HC HRest c0
  have hk0 : ((k : Int) == 0) = false := by rw [beq_eq_false_iff_ne]; omega
  have hle : decide ((most : Int) < (a : Int)) = false := decide_eq_false (by omega)
  have hle' : decide (most < a) = false := decide_eq_false (by omega)
  clear hn hk
  by_cases hck : c = k
  · have hr := HRest.out
    subst hck
    rw [if_pos rfl, Nat.sub_self, show n - c = 0 by omega] at hr
    have HX := Lib.hid hr
    clear hr HRest
    go_enter Tryz.func34, Tryz.ntmps34
    go_wp2_with (go_at_call 57; (with_reducible refine (unhide HC).mono ?_); rintro e w1 ⟨rfl, rfl⟩)
    go_ret
    exact ⟨rfl, _, HR.out.move HX.out HD.out, Chg.set _ _ _ _ _⟩
  · have hr := HRest.out
    rw [if_neg hck] at hr
    have HX := Lib.hid hr
    clear hr HRest
    go_enter Tryz.func34, Tryz.ntmps34
    go_wp2_with (go_at_call 57; (with_reducible refine (unhide HC).mono ?_); rintro e w1 ⟨rfl, rfl⟩)
    go_ret
    exact ⟨rfl, _, HR.out.move HX.out HD.out, Chg.set _ _ _ _ _⟩
set_option maxRecDepth 100000 in
set_option maxHeartbeats 2000000 in
theorem rnum_no (w : World) (B g most a k : Nat) (v : Value) (bad : Bool) (l : List Nat) (h : Rdr w B g v bad l) (he : numOf l = (a, k)) (hk : k = 0 ∨ most < a) (hm : most < 18446744073709551616) :
    Calls Tryz.prog 34 #[.pointer (some ⟨g, 0, none⟩), .int .u64 (most : Int)] w fun e w' => e = .returned (.int .u64 0) ∧ Took w B g true [] w' := by
  obtain ⟨c0, c1, f0, f1⟩ := h.cells
  have hBg := lt_of_heap h.st
  have HF := hide (rfail_any w B g v bad l h)
  obtain ⟨A, c, rfl, hc⟩ := h.slice
  have HC := hide (number_at w _ l a k he (h.by_.up (Nat.le_trans h.at_ (Nat.le_of_lt hBg))))
  obtain ⟨h1, h2, h3⟩ := numOf_le h.by_.small he
  clear h he
  by_cases hk0 : k = 0
  · have hk1 : ((k : Int) == 0) = true := by rw [beq_iff_eq]; omega
    have HK := Lib.hid hk0
    clear hk0 hk
    go_enter Tryz.func34, Tryz.ntmps34
    go_wp2_with (first
      | (go_at_call 57; (with_reducible refine (unhide HC).mono ?_); rintro e w1 ⟨rfl, rfl⟩)
      | (go_at_call 56; (with_reducible refine (unhide HF).mono ?_); rintro e w1 ⟨⟨u, rfl⟩, hT⟩))
    go_ret
    exact ⟨rfl, hT⟩
  · have hk1 : ((k : Int) == 0) = false := by rw [beq_eq_false_iff_ne]; omega
    have hle : decide ((most : Int) < (a : Int)) = true := decide_eq_true (by omega)
    have hle' : decide (most < a) = true := decide_eq_true (by omega)
    clear hk
    go_enter Tryz.func34, Tryz.ntmps34
    go_wp2_with (first
      | (go_at_call 57; (with_reducible refine (unhide HC).mono ?_); rintro e w1 ⟨rfl, rfl⟩)
      | (go_at_call 56; (with_reducible refine (unhide HF).mono ?_); rintro e w1 ⟨⟨u, rfl⟩, hT⟩))
    go_ret
    exact ⟨rfl, hT⟩
/-- The number that is taken, and what is left. -/
def takeNum (l : List Nat) (most : Nat) : Nat × List Nat × Bool := if (numOf l).2 = 0 ∨ most < (numOf l).1 then (0, [], false) else ((numOf l).1, l.drop (numOf l).2, true)
theorem rnum_any (w : World) (B g most : Nat) (v : Value) (bad : Bool) (l : List Nat) (h : Rdr w B g v bad l) (hm : most < 18446744073709551616) :
    Calls Tryz.prog 34 #[.pointer (some ⟨g, 0, none⟩), .int .u64 (most : Int)] w fun e w' => e = .returned (.int .u64 ((takeNum l most).1 : Int)) ∧ Took w B g (bad || !(takeNum l most).2.2) (takeNum l most).2.1 w' := by
  unfold takeNum
  by_cases hc : (numOf l).2 = 0 ∨ most < (numOf l).1
  · rw [if_pos hc]
    have h1 := rnum_no w B g most (numOf l).1 (numOf l).2 v bad l h rfl hc hm
    simpa using h1
  · rw [if_neg hc]
    have h1 := rnum_yes w B g most (numOf l).1 (numOf l).2 v bad l h rfl (by omega) (by omega) hm
    simpa using h1
theorem zag_odd {n : Nat} (hn : n < 18446744073709551616) (h : n % 2 = 1) : wrap64 (bits .xor .u64 IntKind.u64.max ((n : Int) / 2)) = zag n := by
  have e : (n : Int) / 2 = ((n / 2 : Nat) : Int) := by omega
  rw [e, not64 _ (by omega)]
  have h1 : wrap64 ((18446744073709551615 - n / 2 : Nat) : Int) = ((18446744073709551615 - n / 2 : Nat) : Int) - 18446744073709551616 := by
    unfold wrap64
    omega
  rw [h1]
  unfold zag
  rw [if_pos h]
  omega
theorem zag_even {n : Nat} (h : ¬ n % 2 = 1) : (n : Int) / 2 = zag n := by
  unfold zag
  rw [if_neg h]
  omega
/-- Bytes as a string. -/
def txt (l : List Nat) : ByteArray := ⟨(l.map UInt8.ofNat).toArray⟩
theorem txt_str (s : ByteArray) : txt (str s) = s := by
  unfold txt str
  rw [List.map_map]
  have e : (UInt8.ofNat ∘ UInt8.toNat) = id := by
    funext u
    simp
  rw [e, List.map_id]
theorem str_txt {l : List Nat} (h : ∀ b ∈ l, b < 256) : str (txt l) = l := by
  unfold txt str
  show ((l.map UInt8.ofNat).toArray.toList).map UInt8.toNat = l
  rw [List.map_map]
  conv => rhs; rw [← List.map_id l]
  apply List.map_congr_left
  intro b hb
  have := h b hb
  simp
  omega
theorem txt_size (l : List Nat) : (txt l).size = l.length := by
  show (l.map UInt8.ofNat).toArray.size = _
  simp
set_option maxRecDepth 100000 in
theorem convert_bytes {w : World} {B n c : Nat} {A : Option Addr} {l : List Nat} (h : Bytes w B (.slice A n c) l) : (convert 26 9 (.slice A n c)).run Tryz.prog w = .ok (.string (txt l)) w := by
  obtain ⟨⟨A', c', hv, hl, hc, hn⟩, hs, hm⟩ := h
  injection hv with h1 h2 h3
  subst h1 h2 h3
  rcases A with _ | ad
  · have h0 : l = [] := by
      have h1 := hl.empty
      rw [← List.length_eq_zero_iff, ← byt_length, h1]
      rfl
    subst h0
    rw [run_convert_bytes_string w _ _ 5 _ _ _ Tryz.underlying26 Tryz.underlying5 Tryz.underlying9]
    rfl
  · have h1 := run_convert_bytes_back (P := Tryz.prog) w 26 9 5 ad c (l.map UInt8.ofNat) Tryz.underlying26 Tryz.underlying5 Tryz.underlying9 (by
      intro j hj
      rw [List.length_map] at hj
      have hb := hs l[j] (List.getElem_mem hj)
      have := hl.cells j (.int .u8 (l[j] : Int)) (by rw [byt_at, List.getElem?_eq_getElem hj]; rfl)
      rw [this]
      simp
      omega)
    rw [List.length_map] at h1
    exact h1
theorem Rdr.take {w : World} {B g : Nat} {A : Option Addr} {n c : Nat} {bad : Bool} {l : List Nat} (h : Rdr w B g (.slice A n c) bad l) : n = l.length ∧ n ≤ c := by
  obtain ⟨A', c', hv, hc⟩ := h.slice
  injection hv with h1 h2 h3
  omega
def doneIs (bad : Bool) (l : List Nat) : Int := if bad = true ∨ l ≠ [] then 2 else 0
theorem done_ok : doneIs false [] = 0 := rfl
theorem done_bad {bad : Bool} {l : List Nat} (h : bad = true ∨ l ≠ []) : doneIs bad l = 2 := if_pos h
set_option maxRecDepth 100000 in
set_option maxHeartbeats 1000000 in
theorem rdone_any (w : World) (B g : Nat) (v : Value) (bad : Bool) (l : List Nat) (h : Rdr w B g v bad l) :
    Calls Tryz.prog 36 #[.pointer (some ⟨g, 0, none⟩)] w fun e w' => e = .returned (.int .i64 (doneIs bad l)) ∧ w = w' := by
  obtain ⟨c0, c1, f0, f1⟩ := h.cells
  obtain ⟨A, c, rfl, hc⟩ := h.slice
  have hd := h.dead
  clear h
  cases bad
  · obtain ⟨n, hn⟩ : ∃ n, n = l.length := ⟨_, rfl⟩
    rw [← hn] at c0
    clear hd
    by_cases h0 : n = 0
    · have h1 : decide (0 < (n : Int)) = false := decide_eq_false (by omega)
      have h2 : decide (0 < n) = false := decide_eq_false (by omega)
      have HL := Lib.hid (show l = [] from List.eq_nil_of_length_eq_zero (by omega))
      clear hn h0 hc
      go_enter Tryz.func36, Tryz.ntmps36
      go_wp2
      go_ret
      exact ⟨congrArg (fun z => Ending.returned (Value.int .i64 z)) (by rw [HL.out]; rfl), rfl⟩
    · have h1 : decide (0 < (n : Int)) = true := decide_eq_true (by omega)
      have h2 : decide (0 < n) = true := decide_eq_true (by omega)
      have hl : l ≠ [] := fun e => h0 (by rw [hn, e]; rfl)
      have HL := Lib.hid hl
      clear hn h0 hc hl
      go_enter Tryz.func36, Tryz.ntmps36
      go_wp2
      go_ret
      exact ⟨congrArg (fun z => Ending.returned (Value.int .i64 z)) (done_bad (.inr HL.out)).symm, rfl⟩
  · clear hd
    go_enter Tryz.func36, Tryz.ntmps36
    go_wp2
    go_ret
    exact ⟨congrArg (fun z => Ending.returned (Value.int .i64 z)) (done_bad (.inl rfl)).symm, rfl⟩
def takeByte : List Nat → Nat × List Nat × Bool
  | [] => (0, [], false)
  | b :: r => (b, r, true)
set_option maxRecDepth 100000 in
set_option maxHeartbeats 1000000 in
theorem rbyte_any (w : World) (B g : Nat) (v : Value) (bad : Bool) (l : List Nat) (h : Rdr w B g v bad l) :
    Calls Tryz.prog 33 #[.pointer (some ⟨g, 0, none⟩)] w fun e w' => e = .returned (.int .u8 ((takeByte l).1 : Int)) ∧ Took w B g (bad || !(takeByte l).2.2) (takeByte l).2.1 w' := by
  obtain ⟨c0, c1, f0, f1⟩ := h.cells
  have HF := hide (rfail_any w B g v bad l h)
  obtain ⟨A, c, rfl, hc⟩ := h.slice
  rcases l with _ | ⟨b, r⟩
  · clear h
    have e : (bad || !(takeByte []).2.2) = true := by show (bad || true) = true; simp
    rw [e]
    show Calls _ _ _ _ fun e w' => e = .returned (.int .u8 0) ∧ Took w B g true [] w'
    simp only [List.length_nil] at c0
    go_enter Tryz.func33, Tryz.ntmps33
    go_wp2_with (go_at_call 56; (with_reducible refine (unhide HF).mono ?_); rintro e w1 ⟨⟨u, rfl⟩, hT⟩)
    go_ret
    exact ⟨rfl, hT⟩
  · show Calls _ _ _ _ fun e w' => e = .returned (.int .u8 (b : Int)) ∧ Took w B g (bad || !true) r w'
    rw [show (bad || !true) = bad by simp]
    have hd : bad = true → r = [] := fun e => by have := h.dead e; simp at this
    have HD := Lib.hid hd
    have HR := Lib.hid h
    have hrest := h.by_.rest (k := 1) (by simp)
    obtain ⟨ad, hA, hbb, hc2⟩ := (by obtain ⟨⟨A', c', hv, hl, _⟩, _, _⟩ := h.by_; injection hv with e _ _; rw [← e] at hl; exact hl 0 (.int .u8 (b : Int)) rfl : ∃ ad, A = some ad ∧ ad.block < B ∧ w.cell? (ad.add 0) = some (.int .u8 (b : Int)))
    subst hA
    rw [Addr.add_zero'] at hc2
    have hlong := h.by_.long
    unfold maxLen at hlong
    clear h hd HF
    obtain ⟨n, hn⟩ : ∃ n, n = (b :: r).length := ⟨_, rfl⟩
    have hn1 : 1 ≤ n := by rw [hn]; simp
    rw [← hn] at hc hlong hrest c0
    have HN := Lib.hid hn
    clear hn hbb
    have hn0 : ((n : Int) == 0) = false := by rw [beq_eq_false_iff_ne]; omega
    by_cases hck : c = 1
    · subst hck
      obtain rfl : n = 1 := by omega
      rw [if_pos rfl] at hrest
      have HX := Lib.hid hrest
      clear hrest hn0
      go_enter Tryz.func33, Tryz.ntmps33
      go_wp2
      go_ret
      exact ⟨rfl, _, HR.out.move HX.out HD.out, Chg.set _ _ _ _ _⟩
    · rw [if_neg hck] at hrest
      have HX := Lib.hid hrest
      clear hrest
      go_enter Tryz.func33, Tryz.ntmps33
      go_wp2
      go_ret
      exact ⟨rfl, _, HR.out.move HX.out HD.out, Chg.set _ _ _ _ _⟩
end Go.Proofs.YtfnobibjphnmdaaGreatDoor
