/- TpText, TpRefNum: joined by program (tools/merge.py). -/
import Derived.Test.YtdphpjlhkamadaaZ39
import Derived.Laws.IdiomStrings
import Derived.Deep.RegionLaw
namespace Go.Proofs.Ytdphpjlhkamadaa
open Go.RowKit
set_option linter.unusedSimpArgs false
set_option linter.unusedVariables false

def takeBool (l : List Nat) : Bool × List Nat × Bool := if 1 < (takeByte l).1 then (false, [], false) else ((takeByte l).1 == 1, (takeByte l).2.1, (takeByte l).2.2)
/-- The text that is taken, and what is left. -/
def takeText (l : List Nat) (most : Nat) : List Nat × List Nat × Bool :=
  if (takeNum l most).2.1.length < (takeNum l most).1 then ([], [], false) else ((takeNum l most).2.1.take (takeNum l most).1, (takeNum l most).2.1.drop (takeNum l most).1, (takeNum l most).2.2)
theorem Rdr.texts {w : World} {B g n c k : Nat} {A : Option Addr} {bad : Bool} {l : List Nat} (h : Rdr w B g (.slice A n c) bad l) (hk : k ≤ n) :
    (convert 42 9 (.slice A k c)).run Try.prog w = .ok (.string (txt (l.take k))) w ∧ Bytes w B (.slice (if c = k then A else A.map (·.add k)) (n - k) (c - k)) (l.drop k) ∧ (bad = true → l.drop k = []) :=
  ⟨convert_bytes (h.by_.first hk), h.by_.rest hk, fun e => by rw [h.dead e]; simp⟩
set_option maxRecDepth 100000 in
set_option maxHeartbeats 2000000 in
theorem rtext_any (w : World) (B g most : Nat) (v : Value) (bad : Bool) (l : List Nat) (h : Rdr w B g v bad l) (hm : most < 9223372036854775808) :
    Calls Try.prog 71 #[.pointer (some ⟨g, 0, none⟩), .int .i64 (most : Int)] w fun e w' => e = .returned (.string (txt (takeText l most).1)) ∧ Took w B g (bad || !(takeText l most).2.2) (takeText l most).2.1 w' := by
  have HC := hide (rnum_any w B g most v bad l h (by omega))
  have hlong := h.by_.long
  unfold maxLen at hlong
  have hlen : (takeNum l most).2.1.length ≤ l.length := by
    unfold takeNum
    split
    · simp
    · simp
  clear h
  unfold takeText
  obtain ⟨a, ha⟩ : ∃ n, n = (takeNum l most).1 := ⟨_, rfl⟩
  obtain ⟨b2, hb2⟩ : ∃ n, n = (bad || !(takeNum l most).2.2) := ⟨_, rfl⟩
  obtain ⟨l2, hl2⟩ : ∃ n, n = (takeNum l most).2.1 := ⟨_, rfl⟩
  obtain ⟨o2, ho2⟩ : ∃ n, n = (takeNum l most).2.2 := ⟨_, rfl⟩
  rw [← ha, ← hb2, ← hl2] at HC
  rw [← hl2] at hlen
  rw [← ha, ← hl2, ← ho2]
  have hmx : (if (most : Int) < 0 then (0 : Int) else (most : Int)) = (most : Int) := by rw [if_neg (by omega)]
  by_cases h1 : l2.length < a
  · rw [if_pos h1]
    show Calls _ _ _ _ fun e w' => e = .returned (.string (txt [])) ∧ Took w B g (bad || true) [] w'
    rw [Bool.or_true]
    have hx : decide ((l2.length : Int) < (a : Int)) = true := decide_eq_true (by omega)
    have hx' : decide (l2.length < a) = true := decide_eq_true h1
    have HF := fun (w1 : World) (v1 : Value) (h : Rdr w1 B g v1 b2 l2) => hide (rfail_any w1 B g v1 b2 l2 h)
    have H1 := Lib.hid h1
    clear ha hb2 hl2 ho2 h1
    go_enter Try.func71, Try.ntmps71
    go_wp2_with (first
      | (go_at_call 48; (with_reducible refine (unhide HC).mono ?_); rintro e w1 ⟨rfl, v1, hR1, hC1⟩; go_loud (
          have HC1 := Lib.hid hC1;
          have HF1 := HF w1 v1 hR1;
          obtain ⟨c0, c1, f0, f1⟩ := hR1.cells;
          obtain ⟨A, c, rfl, hc⟩ := hR1.slice;
          clear hR1 hC1))
      | (go_at_call 69; (with_reducible refine (unhide HF1).mono ?_); rintro e w2 ⟨⟨u, rfl⟩, v2, hR2, hC2⟩))
    go_ret
    exact ⟨rfl, v2, hR2, HC1.out.trans (Goes.refl _ _) hC2⟩
  · rw [if_neg h1]
    show Calls _ _ _ _ fun e w' => e = .returned (.string (txt (l2.take a))) ∧ Took w B g (bad || !o2) (l2.drop a) w'
    rw [show (bad || !o2) = b2 by rw [hb2, ho2]]
    obtain ⟨n, hn⟩ : ∃ n, n = l2.length := ⟨_, rfl⟩
    rw [← hn] at h1 hlen
    have hx : decide ((n : Int) < (a : Int)) = false := decide_eq_false (by omega)
    have hx' : decide (n < a) = false := decide_eq_false h1
    have HN := Lib.hid hn
    clear ha hb2 hl2 ho2 hn
    go_enter Try.func71, Try.ntmps71
    go_wp2_with (first
      | (go_at_call 48; (with_reducible refine (unhide HC).mono ?_); rintro e w1 ⟨rfl, v1, hR1, hC1⟩; go_loud (
          have HC1 := Lib.hid hC1;
          obtain ⟨c0, c1, f0, f1⟩ := hR1.cells;
          obtain ⟨A, c, rfl, hc⟩ := hR1.slice;
          rw [← HN.out] at hR1 c0 hc;
          obtain ⟨hcv, hrest, hd⟩ := hR1.texts (k := a) (by omega);
          have HR := Lib.hid hR1;
          have HX := Lib.hid hrest;
          have HD := Lib.hid hd;
          clear hR1 hC1 hrest hd)))
    · have hca : c = a := by assumption
      have hX := HX.out
      rw [if_pos hca, hca, Nat.sub_self] at hX
      go_ret
      exact ⟨rfl, _, HR.out.move hX HD.out, HC1.out.trans (Goes.refl _ _) (Chg.set _ _ _ _ _)⟩
    · have hca : ¬ c = a := by assumption
      have hX := HX.out
      rw [if_neg hca] at hX
      go_ret
      exact ⟨rfl, _, HR.out.move hX HD.out, HC1.out.trans (Goes.refl _ _) (Chg.set _ _ _ _ _)⟩
/-- A nil Reader. -/
theorem rnum_nil (w : World) (n : Int) : Calls Try.prog 48 #[.pointer none, .int .u64 n] w fun e w' => e = .returned (.int .u64 0) ∧ w = w' := by
  go_enter Try.func48, Try.ntmps48
  go_wp2
  go_ret
  exact ⟨rfl, rfl⟩
theorem rint_nil (w : World) : Calls Try.prog 72 #[.pointer none] w fun e w' => e = .returned (.int .i64 0) ∧ w = w' := by
  have hand := u64_and_nat 0 1 (by decide) (by decide)
  rw [show ((1 : Nat) : Int) = 1 from rfl, show ((0 : Nat) : Int) = 0 from rfl, show (0 &&& 1 : Nat) = 0 from rfl, show ((0 : Nat) : Int) = 0 from rfl] at hand
  go_enter Try.func72, Try.ntmps72
  go_wp2_with (go_at_call 48; (with_reducible refine (rnum_nil _ _).mono ?_); rintro e w1 ⟨rfl, rfl⟩)
  go_ret
  exact ⟨rfl, rfl⟩
theorem rtext_nil (w : World) (n : Int) : Calls Try.prog 71 #[.pointer none, .int .i64 n] w fun e w' => e = .returned (.string ⟨#[]⟩) ∧ w = w' := by
  go_enter Try.func71, Try.ntmps71
  go_wp2
  go_ret
  exact ⟨rfl, rfl⟩
theorem rbyte_nil (w : World) : Calls Try.prog 70 #[.pointer none] w fun e w' => e = .returned (.int .u8 0) ∧ w = w' := by
  go_enter Try.func70, Try.ntmps70
  go_wp2
  go_ret
  exact ⟨rfl, rfl⟩
theorem rleft_nil (w : World) : Calls Try.prog 73 #[.pointer none] w fun e w' => e = .returned (.int .i64 0) ∧ w = w' := by
  go_enter Try.func73, Try.ntmps73
  go_wp2
  go_ret
  exact ⟨rfl, rfl⟩
theorem rdone_nil (w : World) : Calls Try.prog 50 #[.pointer none] w fun e w' => e = .returned (.int .i64 2) ∧ w = w' := by
  go_enter Try.func50, Try.ntmps50
  go_wp2
  go_ret
  exact ⟨rfl, rfl⟩
end Go.Proofs.Ytdphpjlhkamadaa
namespace Go.Proofs.Ytdphpjlhkamadaa
open Go.RowKit
set_option linter.unusedSimpArgs false
set_option linter.unusedVariables false
/-- A slice that has just been built of bytes. -/
theorem bytes_new (w : World) (l : List Nat) (n : Nat) (hn : n = l.length) (hs : ∀ b ∈ l, b < 256) (hl : l.length ≤ maxLen) : Bytes (w.alloc (.cells (byt l).toArray 5)) (w.heap.size + 1) (.slice (some ⟨w.heap.size, 0, none⟩) n n) l := by
  subst hn
  refine ⟨⟨_, _, rfl, fun j v hj => ⟨_, rfl, by simp, ?_⟩, Nat.le_refl _, fun h => by cases h⟩, hs, hl⟩
  have hplain : (⟨w.heap.size, 0, none⟩ : Addr).add j = ⟨w.heap.size, j, none⟩ := by unfold Addr.add; split <;> simp_all
  rw [hplain, World.cell?_alloc_at _ _ _ _ rfl]
  simpa using hj

theorem lies_block {w : World} {B g : Nat} {vs : Array Value} {t : TypeId} {z : Nat × Nat} (hb : w.heap[g]? = some (.cells vs t z)) (hB : g < B) : Lies w B (some ⟨g, 0, none⟩) vs.toList := fun j v hj => by
  refine ⟨_, rfl, hB, ?_⟩
  have hplain : (⟨g, 0, none⟩ : Addr).add j = ⟨g, j, none⟩ := by unfold Addr.add; split <;> simp_all
  rw [hplain]
  unfold World.cell?
  rw [hb]
  simpa using hj
theorem parts_block {w : World} {B g : Nat} {vs : Array Value} {t : TypeId} {ls : List (List Nat)} {n c : Nat} (hb : w.heap[g]? = some (.cells vs t (0, 0))) (hB : g < B) (hn : n = ls.length) (hv : vs.size = ls.length)
    (hall : ∀ (j : Nat) (u : Value) (l : List Nat), vs[j]? = some u → ls[j]? = some l → Bytes w B u l) (hl : ls.length ≤ maxLen) :
    Parts w B (.slice (some ⟨g, 0, none⟩) n c) ls := by
  subst hn
  exact ⟨⟨_, c, vs.toList, rfl, by simpa using hv, lies_block hb hB, fun j u l h1 h2 => hall j u l (by simpa using h1) h2⟩, hl⟩
/-- Two slices behind one another, joined. -/
theorem parts_two {y : World} {v u : Value} {l1 l2 : List Nat} {B gx : Nat} (hy : y.heap[gx]? = some (.cells #[v, u] 42 (0, 0))) (h : Bytes y B v l1) (h2 : Bytes y B u l2) (hB : B ≤ y.heap.size) :
    Parts y y.heap.size (.slice (some ⟨gx, 0, none⟩) 2 2) [l1, l2] := by
  refine parts_block hy (lt_of_heap hy) rfl rfl ?_ (by unfold maxLen; simp)
  intro j u l h1 h3
  match j, h1, h3 with
  | 0, h1, h3 =>
    simp at h1 h3
    subst h1 h3
    exact h.up hB
  | 1, h1, h3 =>
    simp at h1 h3
    subst h1 h3
    exact h2.up hB
  | j + 2, h1, h3 => simp at h1
/-- Join of two slices that have just been laid beside one another. -/
theorem join_two (w : World) (v u : Value) (l1 l2 : List Nat) (h1 : Bytes w w.heap.size v l1) (h2 : Bytes w w.heap.size u l2) (hl : l1.length + l2.length ≤ 1048576) :
    Calls Try.prog 24 #[.slice (some ⟨w.heap.size, 0, none⟩) 2 2] (w.alloc (.cells #[v, u] 42)) fun e w' => ∃ A n c, e = .returned (.slice A n c) ∧ Mine w' w.heap.size A n c (l1 ++ l2) ∧ Below w.heap.size w w' := by
  have hb := (Below.refl w.heap.size w).alloc (Nat.le_refl _) (.cells #[v, u] 42)
  have hP := parts_two (Go.heap_alloc_new w (.cells #[v, u] 42)) (h1.below hb) (h2.below hb) (by simp)
  have e : [l1, l2].flatten = l1 ++ l2 := by simp
  have hJ := join_mine _ _ _ hP (by rw [e]; exact small_append h1.small h2.small) (by rw [e, List.length_append]; exact hl)
  rw [e] at hJ
  exact hJ.mono fun e w' ⟨A, n, c, he, hM, hB⟩ => ⟨A, n, c, he, hM.lower (by simp), below_on hb hB⟩
set_option maxRecDepth 100000 in
set_option maxHeartbeats 1000000 in
theorem refNum_any : ∀ (n : Nat) (w : World), n < 18446744073709551616 →
    Calls Try.prog 51 #[.int .u64 (n : Int)] w fun e w' => ∃ A m c, e = .returned (.slice A m c) ∧ Mine w' w.heap.size A m c (num n) ∧ Below w.heap.size w w' := by
  intro n
  induction n using Nat.strongRecOn with
  | _ n ih =>
    intro w hn
    by_cases h : n < 128
    · have hb := bytes_new w [n] 1 rfl (by simp; omega) (by unfold maxLen; simp)
      have e : (n : Int) % 256 = (n : Int) := by omega
      have HM : Hid (Mine (w.alloc (.cells #[.int .u8 (n : Int)] 5)) w.heap.size (some ⟨w.heap.size, 0, none⟩) 1 1 (num n)) := by
        rw [num_lt h]
        exact ⟨⟨by simp [byt], .inr ⟨_, _, _, rfl, Nat.le_refl _, Go.heap_alloc_new w _, Nat.le_refl _, by unfold maxLen; omega, rfl, rfl⟩⟩, rfl, by simp; omega⟩
      have hlt : (n : Int) < 128 := by omega
      clear ih hb
      go_enter Try.func51, Try.ntmps51
      go_wp2
      go_ret
      exact ⟨_, _, _, rfl, HM.out, (Below.refl _ _).alloc (Nat.le_refl _) _⟩
    · have hge : ¬ (n : Int) < 128 := by omega
      have hd : (n : Int) / 128 = ((n / 128 : Nat) : Int) := by omega
      have e1 : (n : Int) % 128 + 128 = ((n % 128 + 128 : Nat) : Int) := by omega
      have HC := hide (ih (n / 128) (by omega) (w.alloc (.cells #[.int .u8 ((n : Int) % 128 + 128)] 5)) (by omega))
      rw [← hd] at HC
      have hb := bytes_new w [n % 128 + 128] 1 rfl (by simp; omega) (by unfold maxLen; simp)
      rw [show (byt [n % 128 + 128]).toArray = #[Value.int .u8 ((n : Int) % 128 + 128)] by rw [e1]; rfl] at hb
      have HB := Lib.hid hb
      have HL := Lib.hid (num_length64 (n := n / 128) (by omega))
      have HNM := Lib.hid (num_ge h)
      clear ih hd e1 hb h
      go_enter Try.func51, Try.ntmps51
      go_wp2_with (first
        | (go_at_call 51; (with_reducible refine (unhide HC).mono ?_); rintro e w1 ⟨A1, m1, c1, rfl, hM1, hb1⟩; go_loud (
             have HJ := hide (join_two w1 _ _ _ _ ((HB.out.up (by simp)).along hb1) hM1.bytes (by have := HL.out; simp; omega));
             rw [show ([n % 128 + 128] ++ num (n / 128) : List Nat) = num n from HNM.out.symm] at HJ;
             have hb2 := ((Below.refl w.heap.size w).alloc (Nat.le_refl _) (.cells #[.int .u8 ((n : Int) % 128 + 128)] 5)).trans (hb1.mono (by simp));
             have HB2 := Lib.hid hb2;
             clear hM1 hb1 hb2))
        | (go_at_call 24; (with_reducible refine (unhide HJ).mono ?_); rintro e w2 ⟨A2, m2, c2, rfl, hM2, hb2⟩))
      go_ret
      exact ⟨A2, m2, c2, rfl, hM2.lower HB2.out.size, HB2.out.trans (hb2.mono HB2.out.size)⟩
end Go.Proofs.Ytdphpjlhkamadaa
