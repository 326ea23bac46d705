/- TpRdr, TpRead: joined by program (tools/merge.py). -/
import Derived.Test.YtdphpjlhkamadaaZ26
import Derived.Test.YtdphpjlhkamadaaZ27
namespace Go.Proofs.Ytdphpjlhkamadaa
open Go.RowKit
set_option linter.unusedSimpArgs false
set_option linter.unusedVariables false

def NumbR (w : World) (n : Nat) (l : List Nat) (t i : Value) : Prop :=
  ∃ k m : Nat, k ≤ n ∧ k ≤ 9 ∧ i = .int .i64 (k : Int) ∧ t = .int .u64 (m : Int) ∧ m < 128 ^ k ∧ scan (l.drop k) k m = numOf l
theorem pow128_le {k : Nat} (h : k ≤ 9) : 128 ^ k ≤ 9223372036854775808 := by
  have := Nat.pow_le_pow_right (n := 128) (by omega) h
  omega
theorem andNot_more (b : Nat) (hb : b < 256) : bits .andNot .u8 (b : Int) 128 = ((b % 128 : Nat) : Int) := by
  have h := u8_andNot_nat b 128 hb (by decide)
  rw [show ((128 : Nat) : Int) = 128 from rfl] at h
  rw [h]
  congr 1
  exact nat_mask7 b
theorem scan_cons {l : List Nat} {k b : Nat} (h : l[k]? = some b) (n : Nat) : scan (l.drop k) k n = if k = 9 ∧ 1 < b then (0, 0) else if 128 ≤ b then scan (l.drop (k + 1)) (k + 1) (n + b % 128 * 128 ^ k) else if b = 0 ∧ 0 < k then (0, 0) else (n + b % 128 * 128 ^ k, k + 1) := by
  obtain ⟨hk, hb⟩ := List.getElem?_eq_some_iff.1 h
  rw [List.drop_eq_getElem_cons hk, hb, scan]
theorem or_at {k m x : Nat} (hk : k ≤ 9) (hm : m < 128 ^ k) (hx : x * 128 ^ k < 18446744073709551616) : bits .or .u64 (m : Int) (IntKind.u64.wrap ((x : Int) * 2 ^ (7 * k))) = ((m + x * 128 ^ k : Nat) : Int) := by
  have e1 : (2 : Nat) ^ (7 * k) = 128 ^ k := by rw [Nat.pow_mul]
  have e2 : ((x : Int) * 2 ^ (7 * k)) = ((x * 128 ^ k : Nat) : Int) := by
    rw [← e1]
    simp
  have h9 := pow128_le hk
  rw [e2, IntKind.wrap_u64, Int.emod_eq_of_lt (by omega) (by omega), u64_or_nat _ _ (by omega) hx, Nat.or_comm]
  rw [nat_join (7 * k) (x * 128 ^ k) m (by rw [e1]; exact Nat.mul_mod_left _ _) (by rw [e1]; exact hm)]
  congr 1
  omega
theorem ret_num {a b : Int} {x y : Nat × Nat} (hx : x = y) (h1 : a = (y.1 : Int)) (h2 : b = (y.2 : Int)) : Ending.returned (.tuple #[.int .u64 a, .int .i64 b]) = .returned (.tuple #[.int .u64 (x.1 : Int), .int .i64 (x.2 : Int)]) := by rw [hx, h1, h2]
set_option maxRecDepth 100000 in
set_option maxHeartbeats 2000000 in
theorem number_any (w : World) (v : Value) (l : List Nat) (hp : Bytes w w.heap.size v l) :
    Calls Try.prog 68 #[v] w fun e w' => e = .returned (.tuple #[.int .u64 ((numOf l).1 : Int), .int .i64 ((numOf l).2 : Int)]) ∧ w = w' := by
  obtain ⟨⟨A, c, rfl, hlies, _⟩, hsm, hlong⟩ := hp
  unfold maxLen at hlong
  have HL := Lib.hid hlies
  have HS := Lib.hid hsm
  clear hlies hsm
  obtain ⟨n, hn⟩ : ∃ n, n = l.length := ⟨_, rfl⟩
  rw [← hn] at hlong ⊢
  have HN := Lib.hid hn
  clear hn
  go_enter Try.func68, Try.ntmps68
  go_wp2
  go_loop [4, 9] (fun t i => NumbR w n l t i) (fun _ i => n - (intOf i).toNat)
  case atStart => exact ⟨0, 0, by omega, by omega, rfl, rfl, by simp, rfl⟩
  case round =>
    obtain ⟨k, m, hk, hk9, rfl, rfl, hm, hsc⟩ := hrel
    have HSC := Lib.hid hsc
    have HM := Lib.hid hm
    clear hsc hm
    by_cases hlt : k < n
    · obtain ⟨b, hb1⟩ : ∃ b, l[k]? = some b := ⟨_, List.getElem?_eq_getElem (by rw [← HN.out]; exact hlt)⟩
      have hb2 : b < 256 := HS.out b (List.mem_of_getElem? hb1)
      obtain ⟨ad, hA, hbb, hc⟩ := HL.out k (.int .u8 (b : Int)) (by rw [byt_at, hb1]; rfl)
      subst hA
      have hsc := HSC.out
      rw [scan_cons hb1] at hsc
      have HE := Lib.hid hsc
      have han := andNot_more b hb2
      rw [show ((b % 128 : Nat) : Int) = (b : Int) % 128 by omega] at han
      clear hb1 hbb hsc HSC
      by_cases h9 : k = 9
      · have hk9e : (k : Int) = 9 := by omega
        have hc9 := hc
        rw [h9] at hc9
        unfold Addr.add at hc9
        rw [if_neg (by decide)] at hc9
        by_cases hb : 1 < b
        · have hx : decide (1 < (b : Int)) = true := decide_eq_true (by omega)
          have HH := Lib.hid h9
          clear h9
          go_wp2
          go_ret2
          exact ⟨ret_num (y := (0, 0)) (HE.out.symm.trans (if_pos ⟨HH.out, hb⟩)) rfl rfl, rfl⟩
        · have hor := or_at (k := k) (m := m) (x := b) (by omega) HM.out (by rw [h9]; omega)
          have hw : IntKind.u64.wrap ((b : Int) * 2 ^ (7 * k)) = (b : Int) * 9223372036854775808 := by
            rw [h9, IntKind.wrap_u64]
            omega
          rw [hw] at hor
          have HR := Lib.hid hor
          have HH := Lib.hid h9
          clear hor hw h9
          by_cases hb0 : b = 0
          · have hbe : (b : Int) = 0 := by omega
            have HB := Lib.hid hb0
            clear hb0
            go_wp2
            go_ret2
            refine ⟨ret_num (y := (0, 0)) (HE.out.symm.trans ?_) rfl rfl, rfl⟩
            rw [if_neg (by omega), if_neg (by omega), if_pos ⟨HB.out, by omega⟩]
          · have hbe : (b : Int) = 1 := by omega
            go_wp2
            go_ret2
            refine ⟨ret_num (y := (m + b % 128 * 128 ^ k, k + 1)) (HE.out.symm.trans ?_) ?_ ?_, rfl⟩
            · rw [if_neg (by omega), if_neg (by omega), if_neg (by omega)]
            · have h := HR.out
              rw [hbe] at h
              rw [show b % 128 = b by omega]
              exact h
            · show (10 : Int) = ((k + 1 : Nat) : Int)
              have := HH.out
              omega
      · have h9' : ((k : Int) == 9) = false := by rw [beq_eq_false_iff_ne]; omega
        have hp9 : 128 ^ (k + 1) ≤ 9223372036854775808 := pow128_le (by omega)
        have hxs : b % 128 * 128 ^ k < 128 ^ (k + 1) := by
          rw [Nat.pow_succ, Nat.mul_comm]
          exact Nat.mul_lt_mul_of_pos_left (Nat.mod_lt _ (by omega)) (pow_pos128 k)
        have hor := or_at (k := k) (m := m) (x := b % 128) hk9 HM.out (by omega)
        rw [show ((b % 128 : Nat) : Int) = (b : Int) % 128 by omega] at hor
        have hnx : m + b % 128 * 128 ^ k < 128 ^ (k + 1) := by
          have h1 := HM.out
          have h2 : (b % 128 + 1) * 128 ^ k ≤ 128 * 128 ^ k := Nat.mul_le_mul_right _ (by omega)
          rw [Nat.add_mul] at h2
          rw [Nat.pow_succ, Nat.mul_comm (128 ^ k)]
          omega
        have HX := Lib.hid hnx
        clear hp9 hxs hnx
        by_cases hb : 128 ≤ b
        · go_wp2
          go_round
          case rel =>
            refine ⟨k + 1, m + b % 128 * 128 ^ k, by omega, by omega, by go_num, rfl, HX.out, ?_⟩
            rw [← HE.out, if_neg (by omega), if_pos hb]
          case measure => simp [intOf]; omega
        · by_cases hz : b = 0 ∧ 0 < k
          · obtain ⟨hb0, h0⟩ := hz
            have hbe : (b : Int) = 0 := by omega
            have HB := Lib.hid hb0
            clear hor hb0
            go_wp2
            go_ret2
            refine ⟨ret_num (y := (0, 0)) (HE.out.symm.trans ?_) rfl rfl, rfl⟩
            rw [if_neg (by omega), if_neg (by omega), if_pos ⟨HB.out, h0⟩]
          · have HR := Lib.hid hor
            have HZ := Lib.hid hz
            clear hz
            by_cases hb0 : b = 0
            · have hk0 : k = 0 := by have := HZ.out; omega
              have hm0 : m = 0 := by have := HM.out; rw [hk0] at this; simp at this; omega
              have hbe : (b : Int) = 0 := by omega
              have hke : (k : Int) = 0 := by omega
              have hme : (m : Int) = 0 := by omega
              have hz64 : bits .or .u64 0 0 = 0 := by decide
              have hc0 := hc
              rw [hk0, Addr.add_zero'] at hc0
              have HK := Lib.hid hk0
              have HB := Lib.hid hb0
              have HM0 := Lib.hid hm0
              clear hor hk0 hb0 hm0
              go_wp2
              go_ret2
              refine ⟨ret_num (y := (0, 1)) (HE.out.symm.trans ?_) rfl rfl, rfl⟩
              rw [HB.out, HK.out, HM0.out]
              rfl
            · have hb0' : ((b : Int) == 0) = false := by rw [beq_eq_false_iff_ne]; omega
              go_wp2
              go_ret2
              refine ⟨ret_num (y := (m + b % 128 * 128 ^ k, k + 1)) (HE.out.symm.trans ?_) rfl (by simp), rfl⟩
              rw [if_neg (by omega), if_neg (by omega), if_neg HZ.out]
    · go_wp2
      go_ret2
      refine ⟨ret_num (y := (0, 0)) (HSC.out.symm.trans ?_) rfl rfl, rfl⟩
      rw [List.drop_of_length_le (by rw [← HN.out]; omega), scan]
end Go.Proofs.Ytdphpjlhkamadaa
namespace Go.Proofs.Ytdphpjlhkamadaa
open Go.RowKit
set_option linter.unusedSimpArgs false
set_option linter.unusedVariables false

/-- The Reader in block g has l left, in memory below B. -/
structure Rdr (w : World) (B g : Nat) (v : Value) (bad : Bool) (l : List Nat) : Prop where
  st : w.heap[g]? = some (.cells #[v, .bool bad] 119 (0, 0))
  by_ : Bytes w B v l
  at_ : B ≤ g
  dead : bad = true → l = []
section
variable {w w' : World} {B g : Nat} {v : Value} {bad : Bool} {l : List Nat}
theorem Rdr.cells (h : Rdr w B g v bad l) : w.cell? ⟨g, 0, none⟩ = some v ∧ w.cell? ⟨g, 1, none⟩ = some (.bool bad) ∧ w.frozen? ⟨g, 0, none⟩ = false ∧ w.frozen? ⟨g, 1, none⟩ = false :=
  ⟨cell_of_row w g 0 _ _ _ h.st, cell_of_row w g 1 _ _ _ h.st, frozen_of_row w g 0 _ _ h.st, frozen_of_row w g 1 _ _ h.st⟩
theorem Rdr.slice (h : Rdr w B g v bad l) : ∃ A c, v = .slice A l.length c ∧ l.length ≤ c := by
  obtain ⟨A, c, rfl, _, hc, _⟩ := h.by_.form
  exact ⟨A, c, rfl, hc⟩
theorem Rdr.move (h : Rdr w B g v bad l) {u : Value} {m : List Nat} (hb : Bytes w B u m) (hd : bad = true → m = []) : Rdr (w.setCell ⟨g, 0, none⟩ u) B g u bad m := by
  refine ⟨?_, hb.of_cells fun p hp => World.cell?_setCell_other w _ _ _ (fun e => by subst e; have := h.at_; simp at hp; omega), h.at_, hd⟩
  rw [heap_setCell_same w g 0 _ _ _ h.st]
  rfl
theorem Rdr.fail (h : Rdr w B g v bad l) : Rdr ((w.setCell ⟨g, 0, none⟩ (.slice none 0 0)).setCell ⟨g, 1, none⟩ (.bool true)) B g (.slice none 0 0) true [] := by
  have h1 := h.move (Bytes.none_ w B) (fun _ => rfl)
  refine ⟨?_, Bytes.none_ _ _, h.at_, fun _ => rfl⟩
  rw [heap_setCell_same _ g 1 _ _ _ h1.st]
  rfl
theorem Rdr.below (h : Rdr w B g v bad l) (hb : Below w.heap.size w w') : Rdr w' B g v bad l :=
  ⟨(hb.block g (lt_of_heap h.st)).trans h.st, h.by_.of_cells fun p hp => hb.cell (Nat.lt_of_lt_of_le hp (Nat.le_trans h.at_ (Nat.le_of_lt (lt_of_heap h.st)))), h.at_, h.dead⟩
theorem Rdr.keep (h : Rdr w B g v bad l) (hk : ∀ k, k ≤ g → w'.heap[k]? = w.heap[k]?) : Rdr w' B g v bad l :=
  ⟨(hk g (Nat.le_refl _)).trans h.st, h.by_.of_cells fun p hp => World.cell?_of_block (hk _ (by have := h.at_; omega)), h.at_, h.dead⟩
end
/-- What a Reader's method leaves. -/
def Took (W : World) (B g : Nat) (bad : Bool) (l : List Nat) (w : World) : Prop := ∃ v, Rdr w B g v bad l ∧ Chg W w g none
theorem infoRdr : (Try.prog.info? 119).map (fun i => (i.size)) = some 2 := by kernel_rfl

set_option maxRecDepth 100000 in
set_option maxHeartbeats 1000000 in
theorem read_any (w : World) (v : Value) (l : List Nat) (hp : Bytes w w.heap.size v l) (hl : l.length ≤ 1048576) :
    Calls Try.prog 47 #[v] w fun e w' => ∃ g u, e = .returned (.pointer (some ⟨g, 0, none⟩)) ∧ Rdr w' g g u false l ∧ w.heap.size ≤ g ∧ Below w.heap.size w w' := by
  have HC := hide (tp_clone_any w v l hp (by omega))
  clear hp
  go_enter Try.func47, Try.ntmps47
  go_wp2_with (go_at_call 67; (with_reducible refine (unhide HC).mono ?_); rintro e w1 ⟨A, n, c, rfl, hM, hB⟩)
  go_ret
  refine ⟨w1.heap.size, .slice A n c, rfl, ⟨Go.heap_alloc_new w1 _, ?_, Nat.le_refl _, fun h => by cases h⟩, hB.size, hB.alloc hB.size _⟩
  exact hM.bytes.below ((Below.refl _ _).alloc (Nat.le_refl _) _)
set_option maxRecDepth 100000 in
set_option maxHeartbeats 1000000 in
theorem rfail_any (w : World) (B g : Nat) (v : Value) (bad : Bool) (l : List Nat) (h : Rdr w B g v bad l) :
    Calls Try.prog 69 #[.pointer (some ⟨g, 0, none⟩)] w fun e w' => (∃ u, e = .returned u) ∧ Took w B g true [] w' := by
  obtain ⟨c0, c1, f0, f1⟩ := h.cells
  obtain ⟨A, c, rfl, _⟩ := h.slice
  have HR := Lib.hid h
  clear h
  go_enter Try.func69, Try.ntmps69
  go_wp2
  exact bodyPost_end (results_none rfl _ _ _) rfl ⟨⟨_, rfl⟩, _, HR.out.fail, (Chg.set _ _ _ _ _).trans (Goes.refl _ _) (Chg.set _ _ _ _ _)⟩
theorem number_at (w : World) (v : Value) (l : List Nat) (a k : Nat) (he : numOf l = (a, k)) (hp : Bytes w w.heap.size v l) :
    Calls Try.prog 68 #[v] w fun e w' => e = .returned (.tuple #[.int .u64 (a : Int), .int .i64 (k : Int)]) ∧ w = w' := by
  have h := number_any w v l hp
  rw [he] at h
  exact h
set_option maxRecDepth 100000 in
set_option maxHeartbeats 2000000 in
theorem rnum_yes (w : World) (B g most a k : Nat) (v : Value) (bad : Bool) (l : List Nat) (h : Rdr w B g v bad l) (he : numOf l = (a, k)) (hk : k ≠ 0) (ha : a ≤ most) (hm : most < 18446744073709551616) :
    Calls Try.prog 48 #[.pointer (some ⟨g, 0, none⟩), .int .u64 (most : Int)] w fun e w' => e = .returned (.int .u64 (a : Int)) ∧ Took w B g bad (l.drop k) w' := by
  obtain ⟨c0, c1, f0, f1⟩ := h.cells
  have hBg := lt_of_heap h.st
  obtain ⟨A, c, rfl, hc⟩ := h.slice
  have HC := hide (number_at w _ l a k he (h.by_.up (Nat.le_trans h.at_ (Nat.le_of_lt hBg))))
  obtain ⟨h1, h2, h3⟩ := numOf_le h.by_.small he
  have hlong := h.by_.long
  unfold maxLen at hlong
  have HR := Lib.hid h
  have HRest := Lib.hid (h.by_.rest h2)
  have hd : bad = true → l.drop k = [] := fun e => by rw [h.dead e]; simp
  have HD := Lib.hid hd
  clear h he hd
  obtain ⟨n, hn⟩ : ∃ n, n = l.length := ⟨_, rfl⟩
  rw [← hn] at hc h2 hlong HC HRest c0
  have hk0 : ((k : Int) == 0) = false := by rw [beq_eq_false_iff_ne]; omega
  have hle : decide ((most : Int) < (a : Int)) = false := decide_eq_false (by omega)
  have hle' : decide (most < a) = false := decide_eq_false (by omega)
  clear hn hk
  by_cases hck : c = k
  · have hr := HRest.out
    subst hck
    rw [if_pos rfl, Nat.sub_self, show n - c = 0 by omega] at hr
    have HX := Lib.hid hr
    clear hr HRest
    go_enter Try.func48, Try.ntmps48
    go_wp2_with (go_at_call 68; (with_reducible refine (unhide HC).mono ?_); rintro e w1 ⟨rfl, rfl⟩)
    go_ret
    exact ⟨rfl, _, HR.out.move HX.out HD.out, Chg.set _ _ _ _ _⟩
  · have hr := HRest.out
    rw [if_neg hck] at hr
    have HX := Lib.hid hr
    clear hr HRest
    go_enter Try.func48, Try.ntmps48
    go_wp2_with (go_at_call 68; (with_reducible refine (unhide HC).mono ?_); rintro e w1 ⟨rfl, rfl⟩)
    go_ret
    exact ⟨rfl, _, HR.out.move HX.out HD.out, Chg.set _ _ _ _ _⟩
set_option maxRecDepth 100000 in
set_option maxHeartbeats 2000000 in
theorem rnum_no (w : World) (B g most a k : Nat) (v : Value) (bad : Bool) (l : List Nat) (h : Rdr w B g v bad l) (he : numOf l = (a, k)) (hk : k = 0 ∨ most < a) (hm : most < 18446744073709551616) :
    Calls Try.prog 48 #[.pointer (some ⟨g, 0, none⟩), .int .u64 (most : Int)] w fun e w' => e = .returned (.int .u64 0) ∧ Took w B g true [] w' := by
  obtain ⟨c0, c1, f0, f1⟩ := h.cells
  have hBg := lt_of_heap h.st
  have HF := hide (rfail_any w B g v bad l h)
  obtain ⟨A, c, rfl, hc⟩ := h.slice
  have HC := hide (number_at w _ l a k he (h.by_.up (Nat.le_trans h.at_ (Nat.le_of_lt hBg))))
  obtain ⟨h1, h2, h3⟩ := numOf_le h.by_.small he
  clear h he
  by_cases hk0 : k = 0
  · have hk1 : ((k : Int) == 0) = true := by rw [beq_iff_eq]; omega
    have HK := Lib.hid hk0
    clear hk0 hk
    go_enter Try.func48, Try.ntmps48
    go_wp2_with (first
      | (go_at_call 68; (with_reducible refine (unhide HC).mono ?_); rintro e w1 ⟨rfl, rfl⟩)
      | (go_at_call 69; (with_reducible refine (unhide HF).mono ?_); rintro e w1 ⟨⟨u, rfl⟩, hT⟩))
    go_ret
    exact ⟨rfl, hT⟩
  · have hk1 : ((k : Int) == 0) = false := by rw [beq_eq_false_iff_ne]; omega
    have hle : decide ((most : Int) < (a : Int)) = true := decide_eq_true (by omega)
    have hle' : decide (most < a) = true := decide_eq_true (by omega)
    clear hk
    go_enter Try.func48, Try.ntmps48
    go_wp2_with (first
      | (go_at_call 68; (with_reducible refine (unhide HC).mono ?_); rintro e w1 ⟨rfl, rfl⟩)
      | (go_at_call 69; (with_reducible refine (unhide HF).mono ?_); rintro e w1 ⟨⟨u, rfl⟩, hT⟩))
    go_ret
    exact ⟨rfl, hT⟩
/-- The number that is taken, and what is left. -/
def takeNum (l : List Nat) (most : Nat) : Nat × List Nat × Bool := if (numOf l).2 = 0 ∨ most < (numOf l).1 then (0, [], false) else ((numOf l).1, l.drop (numOf l).2, true)
theorem rnum_any (w : World) (B g most : Nat) (v : Value) (bad : Bool) (l : List Nat) (h : Rdr w B g v bad l) (hm : most < 18446744073709551616) :
    Calls Try.prog 48 #[.pointer (some ⟨g, 0, none⟩), .int .u64 (most : Int)] w fun e w' => e = .returned (.int .u64 ((takeNum l most).1 : Int)) ∧ Took w B g (bad || !(takeNum l most).2.2) (takeNum l most).2.1 w' := by
  unfold takeNum
  by_cases hc : (numOf l).2 = 0 ∨ most < (numOf l).1
  · rw [if_pos hc]
    have h1 := rnum_no w B g most (numOf l).1 (numOf l).2 v bad l h rfl hc hm
    simpa using h1
  · rw [if_neg hc]
    have h1 := rnum_yes w B g most (numOf l).1 (numOf l).2 v bad l h rfl (by omega) (by omega) hm
    simpa using h1
theorem zag_odd {n : Nat} (hn : n < 18446744073709551616) (h : n % 2 = 1) : wrap64 (bits .xor .u64 IntKind.u64.max ((n : Int) / 2)) = zag n := by
  have e : (n : Int) / 2 = ((n / 2 : Nat) : Int) := by omega
  rw [e, not64 _ (by omega)]
  have h1 : wrap64 ((18446744073709551615 - n / 2 : Nat) : Int) = ((18446744073709551615 - n / 2 : Nat) : Int) - 18446744073709551616 := by
    unfold wrap64
    omega
  rw [h1]
  unfold zag
  rw [if_pos h]
  omega
theorem zag_even {n : Nat} (h : ¬ n % 2 = 1) : (n : Int) / 2 = zag n := by
  unfold zag
  rw [if_neg h]
  omega
set_option maxRecDepth 100000 in
set_option maxHeartbeats 2000000 in
theorem rint_any (w : World) (B g : Nat) (v : Value) (bad : Bool) (l : List Nat) (h : Rdr w B g v bad l) :
    Calls Try.prog 72 #[.pointer (some ⟨g, 0, none⟩)] w fun e w' => e = .returned (.int .i64 (zag (takeNum l 18446744073709551615).1)) ∧ Took w B g (bad || !(takeNum l 18446744073709551615).2.2) (takeNum l 18446744073709551615).2.1 w' := by
  have HC := hide (rnum_any w B g 18446744073709551615 v bad l h (by decide))
  have hn : (takeNum l 18446744073709551615).1 < 18446744073709551616 := by
    have := (numOf_le (a := (numOf l).1) (k := (numOf l).2) h.by_.small rfl).1
    unfold takeNum
    split
    · show (0 : Nat) < _
      omega
    · exact this
  rw [show ((18446744073709551615 : Nat) : Int) = 18446744073709551615 from rfl] at HC
  obtain ⟨n, hn2⟩ : ∃ n, n = (takeNum l 18446744073709551615).1 := ⟨_, rfl⟩
  obtain ⟨b2, hb2⟩ : ∃ n, n = (bad || !(takeNum l 18446744073709551615).2.2) := ⟨_, rfl⟩
  obtain ⟨l2, hl2⟩ : ∃ n, n = (takeNum l 18446744073709551615).2.1 := ⟨_, rfl⟩
  rw [← hn2] at hn
  rw [← hn2, ← hb2, ← hl2] at HC ⊢
  clear hn2 hb2 hl2 h
  have hand := u64_and_nat n 1 hn (by decide)
  rw [show ((1 : Nat) : Int) = 1 from rfl, nat_mask1] at hand
  by_cases ho : n % 2 = 1
  · rw [ho] at hand
    have HZ := hide (zag_odd hn ho)
    have HO := Lib.hid ho
    clear ho
    go_enter Try.func72, Try.ntmps72
    go_wp2_with (go_at_call 48; (with_reducible refine (unhide HC).mono ?_); rintro e w1 ⟨rfl, hT⟩)
    go_ret
    exact ⟨congrArg (fun z => Ending.returned (Value.int .i64 z)) HZ.out, hT⟩
  · rw [show n % 2 = 0 by omega] at hand
    have HZ := hide (zag_even ho)
    have HO := Lib.hid ho
    clear ho
    go_enter Try.func72, Try.ntmps72
    go_wp2_with (go_at_call 48; (with_reducible refine (unhide HC).mono ?_); rintro e w1 ⟨rfl, hT⟩)
    go_ret
    exact ⟨congrArg (fun z => Ending.returned (Value.int .i64 z)) HZ.out, hT⟩
/-- Bytes as a string. -/
def txt (l : List Nat) : ByteArray := ⟨(l.map UInt8.ofNat).toArray⟩
theorem txt_str (s : ByteArray) : txt (str s) = s := by
  unfold txt str
  rw [List.map_map]
  have e : (UInt8.ofNat ∘ UInt8.toNat) = id := by
    funext u
    simp
  rw [e, List.map_id]
theorem str_txt {l : List Nat} (h : ∀ b ∈ l, b < 256) : str (txt l) = l := by
  unfold txt str
  show ((l.map UInt8.ofNat).toArray.toList).map UInt8.toNat = l
  rw [List.map_map]
  conv => rhs; rw [← List.map_id l]
  apply List.map_congr_left
  intro b hb
  have := h b hb
  simp
  omega
theorem txt_size (l : List Nat) : (txt l).size = l.length := by
  show (l.map UInt8.ofNat).toArray.size = _
  simp
set_option maxRecDepth 100000 in
theorem convert_bytes {w : World} {B n c : Nat} {A : Option Addr} {l : List Nat} (h : Bytes w B (.slice A n c) l) : (convert 42 9 (.slice A n c)).run Try.prog w = .ok (.string (txt l)) w := by
  obtain ⟨⟨A', c', hv, hl, hc, hn⟩, hs, hm⟩ := h
  injection hv with h1 h2 h3
  subst h1 h2 h3
  rcases A with _ | ad
  · have h0 : l = [] := by
      have h1 := hl.empty
      rw [← List.length_eq_zero_iff, ← byt_length, h1]
      rfl
    subst h0
    rw [run_convert_bytes_string w _ _ 5 _ _ _ Try.underlying42 Try.underlying5 Try.underlying9]
    rfl
  · have h1 := run_convert_bytes_back (P := Try.prog) w 42 9 5 ad c (l.map UInt8.ofNat) Try.underlying42 Try.underlying5 Try.underlying9 (by
      intro j hj
      rw [List.length_map] at hj
      have hb := hs l[j] (List.getElem_mem hj)
      have := hl.cells j (.int .u8 (l[j] : Int)) (by rw [byt_at, List.getElem?_eq_getElem hj]; rfl)
      rw [this]
      simp
      omega)
    rw [List.length_map] at h1
    exact h1
theorem Rdr.take {w : World} {B g : Nat} {A : Option Addr} {n c : Nat} {bad : Bool} {l : List Nat} (h : Rdr w B g (.slice A n c) bad l) : n = l.length ∧ n ≤ c := by
  obtain ⟨A', c', hv, hc⟩ := h.slice
  injection hv with h1 h2 h3
  omega
set_option maxRecDepth 100000 in
set_option maxHeartbeats 1000000 in
theorem rleft_any (w : World) (B g : Nat) (v : Value) (bad : Bool) (l : List Nat) (h : Rdr w B g v bad l) :
    Calls Try.prog 73 #[.pointer (some ⟨g, 0, none⟩)] w fun e w' => e = .returned (.int .i64 (l.length : Int)) ∧ w = w' := by
  obtain ⟨c0, c1, f0, f1⟩ := h.cells
  obtain ⟨A, c, rfl, hc⟩ := h.slice
  clear h
  go_enter Try.func73, Try.ntmps73
  go_wp2
  go_ret
  exact ⟨rfl, rfl⟩
def doneIs (bad : Bool) (l : List Nat) : Int := if bad = true ∨ l ≠ [] then 2 else 0
theorem done_ok : doneIs false [] = 0 := rfl
theorem done_bad {bad : Bool} {l : List Nat} (h : bad = true ∨ l ≠ []) : doneIs bad l = 2 := if_pos h
set_option maxRecDepth 100000 in
set_option maxHeartbeats 1000000 in
theorem rdone_any (w : World) (B g : Nat) (v : Value) (bad : Bool) (l : List Nat) (h : Rdr w B g v bad l) :
    Calls Try.prog 50 #[.pointer (some ⟨g, 0, none⟩)] w fun e w' => e = .returned (.int .i64 (doneIs bad l)) ∧ w = w' := by
  obtain ⟨c0, c1, f0, f1⟩ := h.cells
  obtain ⟨A, c, rfl, hc⟩ := h.slice
  have hd := h.dead
  clear h
  cases bad
  · obtain ⟨n, hn⟩ : ∃ n, n = l.length := ⟨_, rfl⟩
    rw [← hn] at c0
    clear hd
    by_cases h0 : n = 0
    · have h1 : decide (0 < (n : Int)) = false := decide_eq_false (by omega)
      have h2 : decide (0 < n) = false := decide_eq_false (by omega)
      have HL := Lib.hid (show l = [] from List.eq_nil_of_length_eq_zero (by omega))
      clear hn h0 hc
      go_enter Try.func50, Try.ntmps50
      go_wp2
      go_ret
      exact ⟨congrArg (fun z => Ending.returned (Value.int .i64 z)) (by rw [HL.out]; rfl), rfl⟩
    · have h1 : decide (0 < (n : Int)) = true := decide_eq_true (by omega)
      have h2 : decide (0 < n) = true := decide_eq_true (by omega)
      have hl : l ≠ [] := fun e => h0 (by rw [hn, e]; rfl)
      have HL := Lib.hid hl
      clear hn h0 hc hl
      go_enter Try.func50, Try.ntmps50
      go_wp2
      go_ret
      exact ⟨congrArg (fun z => Ending.returned (Value.int .i64 z)) (done_bad (.inr HL.out)).symm, rfl⟩
  · clear hd
    go_enter Try.func50, Try.ntmps50
    go_wp2
    go_ret
    exact ⟨congrArg (fun z => Ending.returned (Value.int .i64 z)) (done_bad (.inl rfl)).symm, rfl⟩
def takeByte : List Nat → Nat × List Nat × Bool
  | [] => (0, [], false)
  | b :: r => (b, r, true)
set_option maxRecDepth 100000 in
set_option maxHeartbeats 1000000 in
theorem rbyte_any (w : World) (B g : Nat) (v : Value) (bad : Bool) (l : List Nat) (h : Rdr w B g v bad l) :
    Calls Try.prog 70 #[.pointer (some ⟨g, 0, none⟩)] w fun e w' => e = .returned (.int .u8 ((takeByte l).1 : Int)) ∧ Took w B g (bad || !(takeByte l).2.2) (takeByte l).2.1 w' := by
  obtain ⟨c0, c1, f0, f1⟩ := h.cells
  have HF := hide (rfail_any w B g v bad l h)
  obtain ⟨A, c, rfl, hc⟩ := h.slice
  rcases l with _ | ⟨b, r⟩
  · clear h
    have e : (bad || !(takeByte []).2.2) = true := by show (bad || true) = true; simp
    rw [e]
    show Calls _ _ _ _ fun e w' => e = .returned (.int .u8 0) ∧ Took w B g true [] w'
    simp only [List.length_nil] at c0
    go_enter Try.func70, Try.ntmps70
    go_wp2_with (go_at_call 69; (with_reducible refine (unhide HF).mono ?_); rintro e w1 ⟨⟨u, rfl⟩, hT⟩)
    go_ret
    exact ⟨rfl, hT⟩
  · show Calls _ _ _ _ fun e w' => e = .returned (.int .u8 (b : Int)) ∧ Took w B g (bad || !true) r w'
    rw [show (bad || !true) = bad by simp]
    have hd : bad = true → r = [] := fun e => by have := h.dead e; simp at this
    have HD := Lib.hid hd
    have HR := Lib.hid h
    have hrest := h.by_.rest (k := 1) (by simp)
    obtain ⟨ad, hA, hbb, hc2⟩ := (by obtain ⟨⟨A', c', hv, hl, _⟩, _, _⟩ := h.by_; injection hv with e _ _; rw [← e] at hl; exact hl 0 (.int .u8 (b : Int)) rfl : ∃ ad, A = some ad ∧ ad.block < B ∧ w.cell? (ad.add 0) = some (.int .u8 (b : Int)))
    subst hA
    rw [Addr.add_zero'] at hc2
    have hlong := h.by_.long
    unfold maxLen at hlong
    clear h hd HF
    obtain ⟨n, hn⟩ : ∃ n, n = (b :: r).length := ⟨_, rfl⟩
    have hn1 : 1 ≤ n := by rw [hn]; simp
    rw [← hn] at hc hlong hrest c0
    have HN := Lib.hid hn
    clear hn hbb
    have hn0 : ((n : Int) == 0) = false := by rw [beq_eq_false_iff_ne]; omega
    by_cases hck : c = 1
    · subst hck
      obtain rfl : n = 1 := by omega
      rw [if_pos rfl] at hrest
      have HX := Lib.hid hrest
      clear hrest hn0
      go_enter Try.func70, Try.ntmps70
      go_wp2
      go_ret
      exact ⟨rfl, _, HR.out.move HX.out HD.out, Chg.set _ _ _ _ _⟩
    · rw [if_neg hck] at hrest
      have HX := Lib.hid hrest
      clear hrest
      go_enter Try.func70, Try.ntmps70
      go_wp2
      go_ret
      exact ⟨rfl, _, HR.out.move HX.out HD.out, Chg.set _ _ _ _ _⟩
end Go.Proofs.Ytdphpjlhkamadaa
