/- Contracts: what the law's lay writes and its take reads. -/
import Derived.Test.YteboemoebnlgaaaRefTakeB
namespace Go.Proofs.Yteboemoebnlgaaa
open Go.RowKit
set_option linter.unusedSimpArgs false
set_option linter.unusedVariables false

theorem Wrote.after {w w1 w2 : World} {base g : Nat} {v : Value} {l : List Nat} (hb : Below w.heap.size w w1) (h : Wrote w1 base g v l w2) : Wrote w base g v l w2 := by
  obtain ⟨u, hW, hC, hG⟩ := h
  refine ⟨u, hW, (Chg.of_below hb g v.ownBlock).trans (Goes.refl _ _) hC, ?_⟩
  rcases hG with e | ⟨k, e, hk⟩
  · exact .inl e
  · exact .inr ⟨k, e, Nat.le_trans hb.size hk⟩
set_option maxRecDepth 100000 in
set_option maxHeartbeats 4000000 in
theorem lay_any (w : World) (base g k N M : Nat) (s : ByteArray) (v : Value) (l : List Nat) (hk : k < 256) (hN : N < 18446744073709551616) (hs : s.size ≤ 1000000) (hw : Wtr w base g v l) (hl : l.length ≤ 1048576) (hbase : base ≤ w.heap.size) :
    Calls Try.prog 10 #[.pointer (some ⟨g, 0, none⟩), .agg #[.int .u8 (k : Int), .int .u64 (N : Int), .string s, .int .u64 (M : Int)]] w fun e w' => e = .returned (.pointer (some ⟨g, 0, none⟩)) ∧ Wrote w base g v (l ++ layF k N (str s)) w' := by
  have hb := (Below.refl w.heap.size w).alloc (Nat.le_refl _) (.cells #[.int .u8 (k : Int), .int .u64 (N : Int), .string s, .int .u64 (M : Int)] 30)
  have hW1 := hw.below hb
  have hbase1 : base ≤ (w.alloc (.cells #[.int .u8 (k : Int), .int .u64 (N : Int), .string s, .int .u64 (M : Int)] 30)).heap.size := by simp; omega
  have HB := Lib.hid hb
  unfold layF
  rcases (show k % 5 = 0 ∨ k % 5 = 1 ∨ k % 5 = 2 ∨ k % 5 = 3 ∨ k % 5 = 4 by omega) with h | h | h | h | h
  · rw [if_neg (by omega), if_neg (by omega), if_neg (by omega), if_neg (by omega)]
    have hk5 : (k : Int) % 5 = 0 := by omega
    have HC := hide (wnum_any _ base g N v l hN hW1 hl hbase1)
    clear hb hW1 hw h
    go_enter Try.func10, Try.ntmps10
    go_wp2_with (go_at_call 22; (with_reducible refine (unhide HC).mono ?_); rintro e w1 ⟨rfl, hT⟩)
    go_ret
    exact ⟨rfl, hT.after HB.out⟩
  · rw [if_pos h]
    have hk5 : (k : Int) % 5 = 1 := by omega
    have hz : -9223372036854775808 ≤ wrap64 (N : Int) ∧ wrap64 (N : Int) < 9223372036854775808 := by unfold wrap64; omega
    have HC := hide (wint_any _ base g (wrap64 (N : Int)) v l hz.1 hz.2 hW1 hl hbase1)
    clear hb hW1 hw h hz
    go_enter Try.func10, Try.ntmps10
    go_wp2_with (go_at_call 23; (with_reducible refine (unhide HC).mono ?_); rintro e w1 ⟨rfl, hT⟩)
    go_ret
    exact ⟨rfl, hT.after HB.out⟩
  · rw [if_neg (by omega), if_pos h, str_length]
    have hk5 : (k : Int) % 5 = 2 := by omega
    have HC := hide (wtext_any _ base g s v l (by omega) hW1 hl hbase1)
    clear hb hW1 hw h
    go_enter Try.func10, Try.ntmps10
    go_wp2_with (go_at_call 24; (with_reducible refine (unhide HC).mono ?_); rintro e w1 ⟨rfl, hT⟩)
    go_ret
    exact ⟨rfl, hT.after HB.out⟩
  · rw [if_neg (by omega), if_neg (by omega), if_pos h]
    have hk5 : (k : Int) % 5 = 3 := by omega
    have HC := hide (wbyte_any _ base g (N % 256) v l (Nat.mod_lt _ (by decide)) hW1 hl hbase1)
    rw [show ((N % 256 : Nat) : Int) = (N : Int) % 256 by omega] at HC
    clear hb hW1 hw h
    go_enter Try.func10, Try.ntmps10
    go_wp2_with (go_at_call 25; (with_reducible refine (unhide HC).mono ?_); rintro e w1 ⟨rfl, hT⟩)
    go_ret
    exact ⟨rfl, hT.after HB.out⟩
  · rw [if_neg (by omega), if_neg (by omega), if_neg (by omega), if_pos h]
    have hk5 : (k : Int) % 5 = 4 := by omega
    have HC := hide (wbool_any _ base g ((N : Int) % 2 == 1) v l hW1 hl hbase1)
    rw [show bit ((N : Int) % 2 == 1) = N % 2 by
      rcases (show N % 2 = 0 ∨ N % 2 = 1 by omega) with h2 | h2
      · rw [h2, show ((N : Int) % 2 == 1) = false by (rw [beq_eq_false_iff_ne]; omega)]; rfl
      · rw [h2, show ((N : Int) % 2 == 1) = true by (rw [beq_iff_eq]; omega)]; rfl] at HC
    clear hb hW1 hw h
    go_enter Try.func10, Try.ntmps10
    go_wp2_with (go_at_call 26; (with_reducible refine (unhide HC).mono ?_); rintro e w1 ⟨rfl, hT⟩)
    go_ret
    exact ⟨rfl, hT.after HB.out⟩
theorem Took.rdr {W w : World} {B g : Nat} {bad : Bool} {l : List Nat} (h : Took W B g bad l w) : ∃ v, Rdr w B g v bad l := by
  obtain ⟨v, h, _⟩ := h
  exact ⟨v, h⟩
/-- The blocks behind a Reader's step: they are as they were. -/
theorem Chg.three {w w1 : World} {g : Nat} {a b c : Array Value} (h : Chg (((w.alloc (.cells a 30)).alloc (.cells b 30)).alloc (.cells c 30)) w1 g none) (hg : g < w.heap.size) :
    w1.heap[w.heap.size]? = some (.cells a 30 (0, 0)) ∧ w1.heap[w.heap.size + 1]? = some (.cells b 30 (0, 0)) ∧ w1.heap[w.heap.size + 1 + 1]? = some (.cells c 30 (0, 0)) := by
  have h0 := three_at w (.cells a 30) (.cells c 30) b
  have h1 : (((w.alloc (.cells a 30)).alloc (.cells b 30)).alloc (.cells c 30)).heap[w.heap.size]? = some (.cells a 30 (0, 0)) := by
    rw [Go.heap_alloc_old _ _ (by simp; omega), Go.heap_alloc_old _ _ (by simp), Go.heap_alloc_new]
  have h2 : (((w.alloc (.cells a 30)).alloc (.cells b 30)).alloc (.cells c 30)).heap[w.heap.size + 1 + 1]? = some (.cells c 30 (0, 0)) := by
    have h := Go.heap_alloc_new ((w.alloc (.cells a 30)).alloc (.cells b 30)) (.cells c 30)
    simpa using h
  exact ⟨h.heap h1 (by omega) (by simp), h.heap h0 (by omega) (by simp), h.heap h2 (by omega) (by simp)⟩
theorem row_set {y : World} {p : Nat} {u0 u1 u2 u3 v0 v1 v2 v3 : Value} (h : y.heap[p]? = some (.cells #[u0, u1, u2, u3] 30 (0, 0))) :
    ((((y.setCell ⟨p, 0, none⟩ v0).setCell ⟨p, 1, none⟩ v1).setCell ⟨p, 2, none⟩ v2).setCell ⟨p, 3, none⟩ v3).heap[p]? = some (.cells #[v0, v1, v2, v3] 30 (0, 0)) := by
  rw [heap_setCell_same _ p 3 #[v0, v1, v2, u3] _ _ ?_]
  · rfl
  rw [heap_setCell_same _ p 2 #[v0, v1, u2, u3] _ _ ?_]
  · rfl
  rw [heap_setCell_same _ p 1 #[v0, u1, u2, u3] _ _ ?_]
  · rfl
  rw [heap_setCell_same _ p 0 #[u0, u1, u2, u3] _ _ h]
  rfl
theorem row_below {a y : World} {B p : Nat} (h : Below B a y) (hp : B ≤ p) (v0 v1 v2 v3 : Value) : Below B a ((((y.setCell ⟨p, 0, none⟩ v0).setCell ⟨p, 1, none⟩ v1).setCell ⟨p, 2, none⟩ v2).setCell ⟨p, 3, none⟩ v3) :=
  (((h.setCell (p := ⟨p, 0, none⟩) hp _).setCell (p := ⟨p, 1, none⟩) hp _).setCell (p := ⟨p, 2, none⟩) hp _).setCell (p := ⟨p, 3, none⟩) hp _
theorem took_below {w w3 w1 X : World} {B g : Nat} {v : Value} {bad : Bool} {l : List Nat} (hR : Rdr w1 B g v bad l) (hC : Chg w3 w1 g none) (h3 : Below w.heap.size w w3) (hb : Below w.heap.size w1 X) (hg : g < w.heap.size) : Took w B g bad l X :=
  ⟨v, hR.keep fun k hk => hb.block k (by omega), hb.os.trans (hC.os.trans h3.os), hb.tape.trans (hC.tape.trans h3.tape), hb.output.trans (hC.output.trans h3.output), Nat.le_trans h3.size (Nat.le_trans hC.size hb.size),
    fun k hk h1 h2 => (hb.block k hk).trans ((hC.block k (Nat.lt_of_lt_of_le hk h3.size) h1 h2).trans (h3.block k hk))⟩
set_option maxRecDepth 100000 in
set_option maxHeartbeats 4000000 in
theorem take_num (w : World) (B g k N M : Nat) (s : ByteArray) (v : Value) (bad : Bool) (l : List Nat) (h : Rdr w B g v bad l) (hM : M < 18446744073709551616) (hk : k % 5 = 0) :
    Calls Try.prog 16 #[.pointer (some ⟨g, 0, none⟩), .agg #[.int .u8 (k : Int), .int .u64 (N : Int), .string s, .int .u64 (M : Int)]] w fun e w' => e = .returned (.agg #[.int .u8 (k : Int), .int .u64 (((takeNum l M).1 : Int)), .string ⟨#[]⟩, .int .u64 (M : Int)]) ∧ Took w B g (bad || !(takeNum l M).2.2) (takeNum l M).2.1 w' := by
  have hg := lt_of_heap h.st
  have hk5 : (k : Int) % 5 = 0 := by omega
  have HC := fun a b c => hide (rnum_any (((w.alloc (.cells a 30)).alloc (.cells b 30)).alloc (.cells c 30)) B g M v bad l (h.below (three_below w _ _ _)) hM)
  clear h hk
  go_enter Try.func16, Try.ntmps16
  go_wp2_with (go_at_call 27; (with_reducible refine (unhide (HC _ _ _)).mono ?_); rintro e w1 ⟨rfl, v1, hR1, hC1⟩; go_loud (
    obtain ⟨z0, z1, z2⟩ := hC1.three hg;
    obtain ⟨a0, a1, a2, a3, a4, a5, a6, a7⟩ := field_facts z1;
    obtain ⟨b0, b1, b2, b3, b4, b5, b6, b7⟩ := field_facts z2;
    have HR := Lib.hid hR1;
    have HCC := Lib.hid hC1;
    have HZ1 := Lib.hid z1;
    have HZ2 := Lib.hid z2;
    clear hR1 hC1 z0 z1 z2))
  exact bodyPost_ret_by (results_cell_row rfl _ _ _ _ _ _ _ rfl (row_set ((heap_setCell_other w1 ⟨w.heap.size + 1 + 1, 1, none⟩ (w.heap.size + 1) _ (by simp)).trans HZ1.out)) Try.underlying30 rfl fieldInfo) rfl ⟨rfl, took_below HR.out HCC.out (three_below w _ _ _) (row_below ((Below.refl w.heap.size w1).setCell (p := ⟨w.heap.size + 1 + 1, 1, none⟩) (by show _ ≤ w.heap.size + 1 + 1; omega) _) (Nat.le_succ _) _ _ _ _) hg⟩
set_option maxRecDepth 100000 in
set_option maxHeartbeats 4000000 in
theorem take_int (w : World) (B g k N M : Nat) (s : ByteArray) (v : Value) (bad : Bool) (l : List Nat) (h : Rdr w B g v bad l) (hM : M < 18446744073709551616) (hk : k % 5 = 1) :
    Calls Try.prog 16 #[.pointer (some ⟨g, 0, none⟩), .agg #[.int .u8 (k : Int), .int .u64 (N : Int), .string s, .int .u64 (M : Int)]] w fun e w' => e = .returned (.agg #[.int .u8 (k : Int), .int .u64 (((uz (zag (takeNum l 18446744073709551615).1) : Nat) : Int)), .string ⟨#[]⟩, .int .u64 (M : Int)]) ∧ Took w B g (bad || !(takeNum l 18446744073709551615).2.2) (takeNum l 18446744073709551615).2.1 w' := by
  have hg := lt_of_heap h.st
  have hk5 : (k : Int) % 5 = 1 := by omega
  have HC := fun a b c => hide (rint_any (((w.alloc (.cells a 30)).alloc (.cells b 30)).alloc (.cells c 30)) B g v bad l (h.below (three_below w _ _ _)))
  clear h hk
  go_enter Try.func16, Try.ntmps16
  go_wp2_with (go_at_call 28; (with_reducible refine (unhide (HC _ _ _)).mono ?_); rintro e w1 ⟨rfl, v1, hR1, hC1⟩; go_loud (
    obtain ⟨z0, z1, z2⟩ := hC1.three hg;
    obtain ⟨a0, a1, a2, a3, a4, a5, a6, a7⟩ := field_facts z1;
    obtain ⟨b0, b1, b2, b3, b4, b5, b6, b7⟩ := field_facts z2;
    have HR := Lib.hid hR1;
    have HCC := Lib.hid hC1;
    have HZ1 := Lib.hid z1;
    have HZ2 := Lib.hid z2;
    clear hR1 hC1 z0 z1 z2))
  exact bodyPost_ret_by (results_cell_row rfl _ _ _ _ _ _ _ rfl (row_set ((heap_setCell_other w1 ⟨w.heap.size + 1 + 1, 1, none⟩ (w.heap.size + 1) _ (by simp)).trans HZ1.out)) Try.underlying30 rfl fieldInfo) rfl ⟨by rw [wrap_uz], took_below HR.out HCC.out (three_below w _ _ _) (row_below ((Below.refl w.heap.size w1).setCell (p := ⟨w.heap.size + 1 + 1, 1, none⟩) (by show _ ≤ w.heap.size + 1 + 1; omega) _) (Nat.le_succ _) _ _ _ _) hg⟩
set_option maxRecDepth 100000 in
set_option maxHeartbeats 4000000 in
theorem take_byte (w : World) (B g k N M : Nat) (s : ByteArray) (v : Value) (bad : Bool) (l : List Nat) (h : Rdr w B g v bad l) (hM : M < 18446744073709551616) (hk : k % 5 = 3) :
    Calls Try.prog 16 #[.pointer (some ⟨g, 0, none⟩), .agg #[.int .u8 (k : Int), .int .u64 (N : Int), .string s, .int .u64 (M : Int)]] w fun e w' => e = .returned (.agg #[.int .u8 (k : Int), .int .u64 (((takeByte l).1 : Int)), .string ⟨#[]⟩, .int .u64 (M : Int)]) ∧ Took w B g (bad || !(takeByte l).2.2) (takeByte l).2.1 w' := by
  have hg := lt_of_heap h.st
  have hk5 : (k : Int) % 5 = 3 := by omega
  have hb256 : (takeByte l).1 < 256 := by
    rcases l with _ | ⟨b, r⟩
    · show (0 : Nat) < 256
      decide
    · exact h.by_.small b (by simp)
  have HC := fun a b c => hide (rbyte_any (((w.alloc (.cells a 30)).alloc (.cells b 30)).alloc (.cells c 30)) B g v bad l (h.below (three_below w _ _ _)))
  clear h hk
  go_enter Try.func16, Try.ntmps16
  go_wp2_with (go_at_call 30; (with_reducible refine (unhide (HC _ _ _)).mono ?_); rintro e w1 ⟨rfl, v1, hR1, hC1⟩; go_loud (
    obtain ⟨z0, z1, z2⟩ := hC1.three hg;
    obtain ⟨a0, a1, a2, a3, a4, a5, a6, a7⟩ := field_facts z1;
    obtain ⟨b0, b1, b2, b3, b4, b5, b6, b7⟩ := field_facts z2;
    have HR := Lib.hid hR1;
    have HCC := Lib.hid hC1;
    have HZ1 := Lib.hid z1;
    have HZ2 := Lib.hid z2;
    clear hR1 hC1 z0 z1 z2))
  exact bodyPost_ret_by (results_cell_row rfl _ _ _ _ _ _ _ rfl (row_set ((heap_setCell_other w1 ⟨w.heap.size + 1 + 1, 1, none⟩ (w.heap.size + 1) _ (by simp)).trans HZ1.out)) Try.underlying30 rfl fieldInfo) rfl ⟨rfl, took_below HR.out HCC.out (three_below w _ _ _) (row_below ((Below.refl w.heap.size w1).setCell (p := ⟨w.heap.size + 1 + 1, 1, none⟩) (by show _ ≤ w.heap.size + 1 + 1; omega) _) (Nat.le_succ _) _ _ _ _) hg⟩
set_option maxRecDepth 100000 in
set_option maxHeartbeats 4000000 in
theorem take_text (w : World) (B g k N M : Nat) (s : ByteArray) (v : Value) (bad : Bool) (l : List Nat) (h : Rdr w B g v bad l) (hM : M < 18446744073709551616) (hk : k % 5 = 2) :
    Calls Try.prog 16 #[.pointer (some ⟨g, 0, none⟩), .agg #[.int .u8 (k : Int), .int .u64 (N : Int), .string s, .int .u64 (M : Int)]] w fun e w' => e = .returned (.agg #[.int .u8 (k : Int), .int .u64 (0), .string (txt (takeText l (M % 1000)).1), .int .u64 (M : Int)]) ∧ Took w B g (bad || !(takeText l (M % 1000)).2.2) (takeText l (M % 1000)).2.1 w' := by
  have hg := lt_of_heap h.st
  have hk5 : (k : Int) % 5 = 2 := by omega
  have HC := fun a b c => hide (rtext_any (((w.alloc (.cells a 30)).alloc (.cells b 30)).alloc (.cells c 30)) B g (M % 1000) v bad l (h.below (three_below w _ _ _)) (by omega))
  simp only [show ((M % 1000 : Nat) : Int) = (M : Int) % 1000 by omega] at HC
  clear h hk
  go_enter Try.func16, Try.ntmps16
  go_wp2_with (go_at_call 29; (with_reducible refine (unhide (HC _ _ _)).mono ?_); rintro e w1 ⟨rfl, v1, hR1, hC1⟩; go_loud (
    obtain ⟨z0, z1, z2⟩ := hC1.three hg;
    obtain ⟨a0, a1, a2, a3, a4, a5, a6, a7⟩ := field_facts z1;
    obtain ⟨b0, b1, b2, b3, b4, b5, b6, b7⟩ := field_facts z2;
    have HR := Lib.hid hR1;
    have HCC := Lib.hid hC1;
    have HZ1 := Lib.hid z1;
    have HZ2 := Lib.hid z2;
    clear hR1 hC1 z0 z1 z2))
  exact bodyPost_ret_by (results_cell_row rfl _ _ _ _ _ _ _ rfl (row_set ((heap_setCell_other w1 ⟨w.heap.size + 1 + 1, 2, none⟩ (w.heap.size + 1) _ (by simp)).trans HZ1.out)) Try.underlying30 rfl fieldInfo) rfl ⟨rfl, took_below HR.out HCC.out (three_below w _ _ _) (row_below ((Below.refl w.heap.size w1).setCell (p := ⟨w.heap.size + 1 + 1, 2, none⟩) (by show _ ≤ w.heap.size + 1 + 1; omega) _) (Nat.le_succ _) _ _ _ _) hg⟩
set_option maxRecDepth 100000 in
set_option maxHeartbeats 4000000 in
theorem take_bool (w : World) (B g k N M : Nat) (s : ByteArray) (v : Value) (bad : Bool) (l : List Nat) (h : Rdr w B g v bad l) (hM : M < 18446744073709551616) (hk : k % 5 = 4) :
    Calls Try.prog 16 #[.pointer (some ⟨g, 0, none⟩), .agg #[.int .u8 (k : Int), .int .u64 (N : Int), .string s, .int .u64 (M : Int)]] w fun e w' => e = .returned (.agg #[.int .u8 (k : Int), .int .u64 (((bit (takeBool l).1 : Nat) : Int)), .string ⟨#[]⟩, .int .u64 (M : Int)]) ∧ Took w B g (bad || !(takeBool l).2.2) (takeBool l).2.1 w' := by
  have hg := lt_of_heap h.st
  have hk5 : (k : Int) % 5 = 4 := by omega
  have HC := fun a b c => hide (rbool_any (((w.alloc (.cells a 30)).alloc (.cells b 30)).alloc (.cells c 30)) B g v bad l (h.below (three_below w _ _ _)))
  clear h hk
  obtain ⟨bb, hbb⟩ : ∃ bb, bb = (takeBool l).1 := ⟨_, rfl⟩
  rw [← hbb] at HC ⊢
  clear hbb
  cases bb
  · show Calls _ _ _ _ fun e w' => e = .returned (.agg #[.int .u8 (k : Int), .int .u64 0, .string ⟨#[]⟩, .int .u64 (M : Int)]) ∧ _
    go_enter Try.func16, Try.ntmps16
    go_wp2_with (go_at_call 31; (with_reducible refine (unhide (HC _ _ _)).mono ?_); rintro e w1 ⟨rfl, v1, hR1, hC1⟩; go_loud (
      obtain ⟨z0, z1, z2⟩ := hC1.three hg;
      obtain ⟨a0, a1, a2, a3, a4, a5, a6, a7⟩ := field_facts z1;
      obtain ⟨b0, b1, b2, b3, b4, b5, b6, b7⟩ := field_facts z2;
      have HR := Lib.hid hR1;
      have HCC := Lib.hid hC1;
      have HZ1 := Lib.hid z1;
      have HZ2 := Lib.hid z2;
      clear hR1 hC1 z0 z1 z2))
    exact bodyPost_ret_by (results_cell_row rfl _ _ _ _ _ _ _ rfl (row_set HZ1.out) Try.underlying30 rfl fieldInfo) rfl ⟨rfl, took_below HR.out HCC.out (three_below w _ _ _) (row_below (Below.refl w.heap.size w1) (Nat.le_succ _) _ _ _ _) hg⟩
  · show Calls _ _ _ _ fun e w' => e = .returned (.agg #[.int .u8 (k : Int), .int .u64 1, .string ⟨#[]⟩, .int .u64 (M : Int)]) ∧ _
    go_enter Try.func16, Try.ntmps16
    go_wp2_with (go_at_call 31; (with_reducible refine (unhide (HC _ _ _)).mono ?_); rintro e w1 ⟨rfl, v1, hR1, hC1⟩; go_loud (
      obtain ⟨z0, z1, z2⟩ := hC1.three hg;
      obtain ⟨a0, a1, a2, a3, a4, a5, a6, a7⟩ := field_facts z1;
      obtain ⟨b0, b1, b2, b3, b4, b5, b6, b7⟩ := field_facts z2;
      have HR := Lib.hid hR1;
      have HCC := Lib.hid hC1;
      have HZ1 := Lib.hid z1;
      have HZ2 := Lib.hid z2;
      clear hR1 hC1 z0 z1 z2))
    exact bodyPost_ret_by (results_cell_row rfl _ _ _ _ _ _ _ rfl (row_set ((heap_setCell_other w1 ⟨w.heap.size + 1 + 1, 1, none⟩ (w.heap.size + 1) _ (by simp)).trans HZ1.out)) Try.underlying30 rfl fieldInfo) rfl ⟨rfl, took_below HR.out HCC.out (three_below w _ _ _) (row_below ((Below.refl w.heap.size w1).setCell (p := ⟨w.heap.size + 1 + 1, 1, none⟩) (by show _ ≤ w.heap.size + 1 + 1; omega) _) (Nat.le_succ _) _ _ _ _) hg⟩
theorem take_any (w : World) (B g k N M : Nat) (s : ByteArray) (v : Value) (bad : Bool) (l : List Nat) (h : Rdr w B g v bad l) (hM : M < 18446744073709551616) (hM2 : k % 5 = 2 → M < 1000) :
    Calls Try.prog 16 #[.pointer (some ⟨g, 0, none⟩), .agg #[.int .u8 (k : Int), .int .u64 (N : Int), .string s, .int .u64 (M : Int)]] w fun e w' => e = .returned (.agg #[.int .u8 (k : Int), .int .u64 ((takeF k M l).1 : Int), .string (txt (takeF k M l).2.1), .int .u64 (M : Int)]) ∧ Took w B g (bad || !(takeF k M l).2.2.2) (takeF k M l).2.2.1 w' := by
  unfold takeF
  rcases (show k % 5 = 0 ∨ k % 5 = 1 ∨ k % 5 = 2 ∨ k % 5 = 3 ∨ k % 5 = 4 by omega) with hk | hk | hk | hk | hk
  · rw [if_neg (by omega), if_neg (by omega), if_neg (by omega), if_neg (by omega)]
    exact take_num w B g k N M s v bad l h hM hk
  · rw [if_pos hk]
    exact take_int w B g k N M s v bad l h hM hk
  · rw [if_neg (by omega), if_pos hk]
    have h1 := take_text w B g k N M s v bad l h hM hk
    rw [Nat.mod_eq_of_lt (hM2 hk)] at h1
    exact h1
  · rw [if_neg (by omega), if_neg (by omega), if_pos hk]
    exact take_byte w B g k N M s v bad l h hM hk
  · rw [if_neg (by omega), if_neg (by omega), if_neg (by omega), if_pos hk]
    exact take_bool w B g k N M s v bad l h hM hk
end Go.Proofs.Yteboemoebnlgaaa
