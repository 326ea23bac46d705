/- TpWtr, ATake: joined by program (tools/merge.py). -/
import Derived.Test.YtdphpjlhkamadaaZ26
import Derived.Test.YtdphpjlhkamadaaZ0
import Derived.ProofKit
import Derived.Deep.RegionHeldLaw
namespace Go.Proofs.Ytdphpjlhkamadaa
open Go.RowKit
set_option linter.unusedSimpArgs false
set_option linter.unusedVariables false

/-- The Writer in block g has written l, in a row of the call's own. -/
structure Wtr (w : World) (base g : Nat) (v : Value) (l : List Nat) : Prop where
  st : w.heap[g]? = some (.cells #[v] 85 (0, 0))
  own : w.ownsRow base 5 1 v l.length (byt l)
  small : ∀ b ∈ l, b < 256
theorem Wtr.ne {w : World} {base g : Nat} {v : Value} {l : List Nat} (h : Wtr w base g v l) : v.ownBlock ≠ some g := own_ne h.own h.st (by decide)
theorem Wtr.keep {w w' : World} {base g : Nat} {v : Value} {l : List Nat} (h : Wtr w base g v l) (hk : ∀ k, k = g ∨ v.ownBlock = some k → w'.heap[k]? = w.heap[k]?) : Wtr w' base g v l :=
  ⟨(hk g (.inl rfl)).trans h.st, ownsRow_keep h.own fun k e => hk k (.inr e), h.small⟩
theorem Wtr.below {w w' : World} {base g : Nat} {v : Value} {l : List Nat} (h : Wtr w base g v l) (hb : Below w.heap.size w w') : Wtr w' base g v l :=
  h.keep fun k hk => hb.block k (hk.elim (fun e => e ▸ lt_of_heap h.st) fun e => (own_block_lt h.own e).2)
/-- Behind an append and the store of its row. -/
theorem Wtr.put {w1 : World} {base g : Nat} {v v' : Value} {l m : List Nat} (hg : w1.heap[g]? = some (.cells #[v] 85 (0, 0))) (hown : w1.ownsRow base 5 1 v' (l.length + m.length) (byt l ++ byt m)) (hs : ∀ b ∈ l, b < 256) (hm : ∀ b ∈ m, b < 256) :
    Wtr (w1.setCell ⟨g, 0, none⟩ v') base g v' (l ++ m) := by
  refine ⟨one_setCell hg, ?_, small_append hs hm⟩
  rw [byt_append, List.length_append]
  exact ownsRow_setCell_other hown (a := ⟨g, 0, none⟩) (own_ne hown hg (by decide)) _
/-- What such an append has changed. -/
theorem chg_put {w y w1 : World} {g : Nat} {v : Value} (hb : Below w.heap.size w y) (hg : y.grownBy w1 v.ownBlock) (u : Value) : Chg w (w1.setCell ⟨g, 0, none⟩ u) g v.ownBlock :=
  ((Chg.of_below hb g v.ownBlock).trans (Goes.refl _ _) (Chg.of_grown hg g)).trans (Goes.refl _ _) (Chg.set w1 g 0 u _)

def NumR (W : World) (base g : Nat) (v0 : Value) (l : List Nat) (N : Nat) (t : Value) (wr : World) : Prop :=
  ∃ (n : Nat) (v : Value) (d : List Nat), t = .int .u64 (n : Int) ∧ n < 18446744073709551616 ∧ Wtr wr base g v d ∧ Chg W wr g v0.ownBlock ∧ Goes W v0.ownBlock v.ownBlock ∧ d ++ num n = l ++ num N
/-- What a Writer's method leaves. -/
def Wrote (W : World) (base g : Nat) (v0 : Value) (l : List Nat) (wr : World) : Prop := ∃ v, Wtr wr base g v l ∧ Chg W wr g v0.ownBlock ∧ Goes W v0.ownBlock v.ownBlock
set_option maxRecDepth 10000 in
theorem or_more (n : Nat) : bits .or .u8 ((n % 256 : Nat) : Int) 128 = ((n % 128 + 128 : Nat) : Int) := by
  have h : ∀ b : Fin 256, b.val ||| 128 = b.val % 128 + 128 := by decide
  have h1 := h ⟨n % 256, Nat.mod_lt _ (by decide)⟩
  have h2 := u8_or_nat (n % 256) 128 (Nat.mod_lt _ (by decide)) (by decide)
  rw [show ((128 : Nat) : Int) = 128 from rfl] at h2
  rw [h2, h1]
  congr 1
  show n % 256 % 128 + 128 = n % 128 + 128
  omega

theorem row_slice {w : World} {base n size : Nat} {t : TypeId} {v : Value} {xs : List Value} (h : w.ownsRow base t size v n xs) : ∃ A n c, v = .slice A n c := by
  rcases h.2 with ⟨rfl, _⟩ | ⟨g, cap, cur, rfl, _⟩
  · exact ⟨_, _, _, rfl⟩
  · exact ⟨_, _, _, rfl⟩
/-- Behind an append and its store. -/
theorem wrote_some {W wr y w1 : World} {base g : Nat} {v0 u v' : Value} {d m : List Nat} (hw : Wtr wr base g u d) (hc : Chg W wr g v0.ownBlock) (hg : Goes W v0.ownBlock u.ownBlock) (hb : ∀ b ∈ m, b < 256)
    (hy : Below wr.heap.size wr y) (hown : w1.ownsRow base 5 1 v' (d.length + m.length) (byt d ++ byt m)) (hgr : y.grownBy w1 u.ownBlock) {k : Nat} (hat : v'.ownBlock = u.ownBlock ∨ v'.ownBlock = some k) (hk : wr.heap.size ≤ k) :
    Wtr (w1.setCell ⟨g, 0, none⟩ v') base g v' (d ++ m) ∧ Chg W (w1.setCell ⟨g, 0, none⟩ v') g v0.ownBlock ∧ Goes W v0.ownBlock v'.ownBlock ∧ w1.cell? ⟨g, 0, none⟩ = some u ∧ w1.frozen? ⟨g, 0, none⟩ = false := by
  have hlt := lt_of_heap hw.st
  have hst : w1.heap[g]? = some (.cells #[u] 85 (0, 0)) := (hgr.block g (Nat.lt_of_lt_of_le hlt hy.size) (fun e => hw.ne e.symm)).trans ((hy.block g hlt).trans hw.st)
  refine ⟨Wtr.put hst hown hw.small hb, hc.trans hg (chg_put hy hgr _), hg.trans hc.size ?_, cell_of_one hst, free_of_one hst⟩
  rcases hat with e | e
  · exact .inl e
  · exact .inr ⟨_, e, hk⟩
theorem wrote_one {W wr y w1 : World} {base g b : Nat} {v0 u v' : Value} {d : List Nat} (hw : Wtr wr base g u d) (hc : Chg W wr g v0.ownBlock) (hg : Goes W v0.ownBlock u.ownBlock) (hb : b < 256)
    (hy : Below wr.heap.size wr y) (hown : w1.ownsRow base 5 1 v' (d.length + 1) (byt d ++ [.int .u8 (b : Int)])) (hgr : y.grownBy w1 u.ownBlock) {k : Nat} (hat : v'.ownBlock = u.ownBlock ∨ v'.ownBlock = some k) (hk : wr.heap.size ≤ k) :
    Wtr (w1.setCell ⟨g, 0, none⟩ v') base g v' (d ++ [b]) ∧ Chg W (w1.setCell ⟨g, 0, none⟩ v') g v0.ownBlock ∧ Goes W v0.ownBlock v'.ownBlock ∧ w1.cell? ⟨g, 0, none⟩ = some u ∧ w1.frozen? ⟨g, 0, none⟩ = false :=
  wrote_some (m := [b]) hw hc hg (by simpa using hb) hy hown hgr hat hk

set_option maxRecDepth 100000 in
set_option maxHeartbeats 2000000 in
theorem wnum_any (w : World) (base g N : Nat) (v : Value) (l : List Nat) (hN : N < 18446744073709551616) (hw : Wtr w base g v l) (hl : l.length ≤ 1048576) (hbase : base ≤ w.heap.size) :
    Calls Try.prog 44 #[.pointer (some ⟨g, 0, none⟩), .int .u64 (N : Int)] w fun e w' => e = .returned (.pointer (some ⟨g, 0, none⟩)) ∧ Wrote w base g v (l ++ num N) w' := by
  obtain ⟨i0, hi0, hz0, hz1, hz2⟩ := info_parts infoByte
  have HI := Lib.hid hi0
  have H0 := Lib.hid hz0
  have H1 := Lib.hid hz1
  have H2 := Lib.hid hz2
  have HW := Lib.hid hw
  have HN := Lib.hid hN
  clear hi0 hz0 hz1 hz2 hw hN
  go_enter Try.func44, Try.ntmps44
  go_wp2
  go_loopw [1] (fun t wr => NumR w base g v l N t wr) (fun t _ => (intOf t).toNat)
  case atStart => exact ⟨N, v, l, rfl, HN.out, HW.out, Chg.refl _ _ _, Goes.refl _ _, rfl⟩
  case round =>
    obtain ⟨n, u, d, rfl, hn, hw1, hc1, hg1, he⟩ := hrel
    have hcell := cell_of_one hw1.st
    have hfree := free_of_one hw1.st
    have hdl : d.length ≤ l.length + 10 := by
      have h1 := congrArg List.length he
      have h2 := num_length64 HN.out
      rw [List.length_append, List.length_append] at h1
      omega
    have HO := Lib.hid hw1
    have HC := Lib.hid hc1
    have HG := Lib.hid hg1
    have HE := Lib.hid he
    have hbw : base ≤ wr.heap.size := Nat.le_trans hbase hc1.size
    clear hw1 hc1 hg1 he
    by_cases h128 : n < 128
    · have hmod : (n : Int) % 256 = (n : Int) := by omega
      go_wp2_with (at_builtin; refine wpList_append_own_at _ rfl (.tmp 27) (.tmp 30) 42 rfl base 5 i0 (.int .u8 0) 1 1 Try.underlying42 HI.out H0.out H1.out H2.out rfl (by decide) _ _ _ rfl (World.ownsRow.alloc HO.out.own _) ⟨_, 0, none⟩ 1 1 [.int .u8 (n : Int)] rfl rfl ?c1 ?c2 ?c3 ?c4 ?c5 ?_)
      case c1 => exact cell_one_new _ _
      case c2 => simp [Value.oneCell']
      case c3 => unfold maxLen; omega
      case c4 => omega
      case c5 => simp; omega
      intro v' w1 hown1 hg1 _ hat1
      obtain ⟨A1, n1, k1, rfl⟩ := row_slice hown1
      obtain ⟨h1, h2, h3, h4, h5⟩ := wrote_one HO.out HC.out HG.out (b := n) (by omega) ((Below.refl _ _).alloc (Nat.le_refl _) _) hown1 hg1 hat1 (by omega)
      have K1 := Lib.hid h1
      have K2 := Lib.hid h2
      have K3 := Lib.hid h3
      clear h1 h2 h3 hown1 hg1 hat1
      go_wp2
      go_ret
      refine ⟨rfl, _, ?_, K2.out, K3.out⟩
      rw [← HE.out, num_lt h128]
      exact K1.out
    · have hor := or_more n
      have hcast : ((n % 256 : Nat) : Int) = (n : Int) % 256 := by omega
      rw [hcast] at hor
      clear hcast
      go_wp2_with (at_builtin; refine wpList_append_own_at _ rfl (.tmp 13) (.tmp 17) 42 rfl base 5 i0 (.int .u8 0) 1 1 Try.underlying42 HI.out H0.out H1.out H2.out rfl (by decide) _ _ _ rfl (World.ownsRow.alloc HO.out.own _) ⟨_, 0, none⟩ 1 1 [.int .u8 ((n % 128 + 128 : Nat) : Int)] rfl rfl ?d1 ?d2 ?d3 ?d4 ?d5 ?_)
      case d1 => exact cell_one_new _ _
      case d2 => simp [Value.oneCell']
      case d3 => unfold maxLen; omega
      case d4 => omega
      case d5 => simp; omega
      intro v' w1 hown1 hg1 _ hat1
      obtain ⟨A1, n1, k1, rfl⟩ := row_slice hown1
      obtain ⟨h1, h2, h3, h4, h5⟩ := wrote_one HO.out HC.out HG.out (b := n % 128 + 128) (by omega) ((Below.refl _ _).alloc (Nat.le_refl _) _) hown1 hg1 hat1 (by omega)
      have K1 := Lib.hid h1
      have K2 := Lib.hid h2
      have K3 := Lib.hid h3
      clear h1 h2 h3 hown1 hg1 hat1 hor
      go_wp2
      go_roundw
      case rel => exact ⟨n / 128, _, d ++ [n % 128 + 128], by go_num, by omega, K1.out, K2.out, K3.out, by rw [← HE.out, num_ge h128]; simp⟩
      case measure => simp [intOf]; omega

theorem not64 (x : Nat) (h : x < 18446744073709551616) : bits .xor .u64 IntKind.u64.max (x : Int) = ((18446744073709551615 - x : Nat) : Int) := by
  have h1 := u64_xor_nat 18446744073709551615 x (by decide) h
  rw [xor_ones64 x h] at h1
  exact h1
theorem zig_neg {n : Int} (h1 : -9223372036854775808 ≤ n) (h0 : n < 0) : bits .xor .u64 IntKind.u64.max (IntKind.u64.wrap (IntKind.u64.wrap n * 2)) = ((zig n : Nat) : Int) := by
  have e : IntKind.u64.wrap (IntKind.u64.wrap n * 2) = ((2 * n + 18446744073709551616).toNat : Int) := by
    rw [IntKind.wrap_u64, IntKind.wrap_u64]
    omega
  rw [e, not64 _ (by omega)]
  unfold zig
  rw [if_pos h0]
  omega
theorem zig_pos {n : Int} (h0 : ¬ n < 0) : n * 2 = ((zig n : Nat) : Int) := by
  unfold zig
  rw [if_neg h0]
  omega
set_option maxRecDepth 100000 in
set_option maxHeartbeats 1000000 in
theorem wint_any (w : World) (base g : Nat) (n : Int) (v : Value) (l : List Nat) (h1 : -9223372036854775808 ≤ n) (h2 : n < 9223372036854775808) (hw : Wtr w base g v l) (hl : l.length ≤ 1048576) (hbase : base ≤ w.heap.size) :
    Calls Try.prog 66 #[.pointer (some ⟨g, 0, none⟩), .int .i64 n] w fun e w' => e = .returned (.pointer (some ⟨g, 0, none⟩)) ∧ Wrote w base g v (l ++ num (zig n)) w' := by
  have HC := hide (wnum_any w base g (zig n) v l (zig_lt h1 h2) hw hl hbase)
  clear hw
  by_cases h0 : n < 0
  · have HZ := hide (zig_neg h1 h0)
    go_enter Try.func66, Try.ntmps66
    go_wp2_with (go_at_call 44; rw [HZ.out]; (with_reducible refine (unhide HC).mono ?_); rintro e w1 ⟨rfl, hW⟩)
    go_ret
    exact ⟨rfl, hW⟩
  · have HZ := hide (zig_pos h0)
    go_enter Try.func66, Try.ntmps66
    go_wp2_with (go_at_call 44; rw [HZ.out]; (with_reducible refine (unhide HC).mono ?_); rintro e w1 ⟨rfl, hW⟩)
    go_ret
    exact ⟨rfl, hW⟩
set_option maxRecDepth 100000 in
set_option maxHeartbeats 1000000 in
theorem wtext_any (w : World) (base g : Nat) (s : ByteArray) (v : Value) (l : List Nat) (hs : s.size ≤ 1048576) (hw : Wtr w base g v l) (hl : l.length ≤ 1048576) (hbase : base ≤ w.heap.size) :
    Calls Try.prog 65 #[.pointer (some ⟨g, 0, none⟩), .string s] w fun e w' => e = .returned (.pointer (some ⟨g, 0, none⟩)) ∧ Wrote w base g v (l ++ (num s.size ++ str s)) w' := by
  have HC := hide (wnum_any w base g s.size v l (by omega) hw hl hbase)
  have HS := hide (num_length64 (n := s.size) (by omega))
  obtain ⟨i0, hi0, hz0, hz1, hz2⟩ := info_parts infoByte
  have HI := Lib.hid hi0
  have H0 := Lib.hid hz0
  have H1 := Lib.hid hz1
  have H2 := Lib.hid hz2
  clear hi0 hz0 hz1 hz2 hw
  have hcv : (s.size : Int) % 18446744073709551616 = (s.size : Int) := by omega
  go_enter Try.func65, Try.ntmps65
  go_wp2_with (first
    | (go_at_call 44; (with_reducible refine (unhide HC).mono ?_); rintro e w1 ⟨rfl, v1, hW1, hC1, hG1⟩; go_loud (
       have hcell := cell_of_one hW1.st;
       have hlen := HS.out;
       have hll : (l ++ num s.size).length ≤ 2097152 := by rw [List.length_append]; omega;
       have KL := Lib.hid hll;
       have KW := Lib.hid hW1;
       have KC := Lib.hid hC1;
       have KG := Lib.hid hG1;
       clear hW1 hC1 hG1 hlen hll))
    | (at_builtin; refine wpList_append_str rfl (.tmp 16) (.tmp 17) 42 9 rfl base 5 i0 Try.underlying42 Try.underlying9 HI.out H0.out H1.out H2.out _ _ _ rfl KW.out.own s rfl ?c1 ?c2 ?_))
  case c1 => have := KL.out; omega
  case c2 => exact Nat.le_trans hbase KC.out.size
  intro v' w2 hown2 hg2 hat2
  obtain ⟨A1, n1, k1, rfl⟩ := row_slice hown2
  obtain ⟨j1, j2, j3, j4, j5⟩ := wrote_some KW.out KC.out KG.out (str_small s) (Below.refl _ _) (by rw [str_length, List.length_append]; exact hown2) hg2 hat2 (Nat.le_refl _)
  have K1 := Lib.hid j1
  have K2 := Lib.hid j2
  have K3 := Lib.hid j3
  clear j1 j2 j3 hown2 hg2 hat2 hcell
  go_wp2
  go_ret
  refine ⟨rfl, _, ?_, K2.out, K3.out⟩
  rw [← List.append_assoc]
  exact K1.out
set_option maxRecDepth 100000 in
set_option maxHeartbeats 1000000 in
theorem wbyte_any (w : World) (base g b : Nat) (v : Value) (l : List Nat) (hb : b < 256) (hw : Wtr w base g v l) (hl : l.length ≤ 1048576) (hbase : base ≤ w.heap.size) :
    Calls Try.prog 64 #[.pointer (some ⟨g, 0, none⟩), .int .u8 (b : Int)] w fun e w' => e = .returned (.pointer (some ⟨g, 0, none⟩)) ∧ Wrote w base g v (l ++ [b]) w' := by
  obtain ⟨i0, hi0, hz0, hz1, hz2⟩ := info_parts infoByte
  have HI := Lib.hid hi0
  have H0 := Lib.hid hz0
  have H1 := Lib.hid hz1
  have H2 := Lib.hid hz2
  have hcell := cell_of_one hw.st
  have HO := Lib.hid hw
  clear hi0 hz0 hz1 hz2 hw
  go_enter Try.func64, Try.ntmps64
  go_wp2_with (at_builtin; refine wpList_append_own_at _ rfl (.tmp 11) (.tmp 13) 42 rfl base 5 i0 (.int .u8 0) 1 1 Try.underlying42 HI.out H0.out H1.out H2.out rfl (by decide) _ _ _ rfl (World.ownsRow.alloc HO.out.own _) ⟨_, 0, none⟩ 1 1 [.int .u8 (b : Int)] rfl rfl ?c1 ?c2 ?c3 ?c4 ?c5 ?_)
  case c1 => exact cell_one_new _ _
  case c2 => simp [Value.oneCell']
  case c3 => unfold maxLen; omega
  case c4 => omega
  case c5 => simp; omega
  intro v' w1 hown1 hg1 _ hat1
  obtain ⟨A1, n1, k1, rfl⟩ := row_slice hown1
  obtain ⟨h1, h2, h3, h4, h5⟩ := wrote_one HO.out (Chg.refl _ _ _) (Goes.refl _ _) hb ((Below.refl _ _).alloc (Nat.le_refl _) _) hown1 hg1 hat1 (by omega)
  have K1 := Lib.hid h1
  have K2 := Lib.hid h2
  have K3 := Lib.hid h3
  clear h1 h2 h3 hown1 hg1 hat1 hcell
  go_wp2
  go_ret
  exact ⟨rfl, _, K1.out, K2.out, K3.out⟩
def bit (b : Bool) : Nat := if b then 1 else 0
set_option maxRecDepth 100000 in
set_option maxHeartbeats 1000000 in
theorem wbytes_any (w : World) (base g : Nat) (v : Value) (l : List Nat) (hw : Wtr w base g v l) (hl : l.length ≤ 1048576) :
    Calls Try.prog 46 #[.pointer (some ⟨g, 0, none⟩)] w fun e w' => ∃ A n c, e = .returned (.slice A n c) ∧ Mine w' w.heap.size A n c l ∧ Below w.heap.size w w' := by
  have hcell := cell_of_one hw.st
  have HC := hide (tp_clone_any w v l (Own.bytes hw.own hw.small) (by omega))
  obtain ⟨A1, n1, k1, rfl⟩ := row_slice hw.own
  clear hw
  go_enter Try.func46, Try.ntmps46
  go_wp2_with (go_at_call 67; (with_reducible refine (unhide HC).mono ?_); rintro e w1 ⟨A, n, c, rfl, hM, hB⟩)
  go_ret
  exact ⟨A, n, c, rfl, hM, hB⟩
/-- Over a nil Writer. -/
theorem wnum_nil (w : World) (n : Int) : Calls Try.prog 44 #[.pointer none, .int .u64 n] w fun e w' => e = .returned (.pointer none) ∧ w = w' := by
  go_enter Try.func44, Try.ntmps44
  go_wp2
  go_ret
  exact ⟨rfl, rfl⟩
set_option maxHeartbeats 1000000 in
theorem wint_nil (w : World) (n : Int) : Calls Try.prog 66 #[.pointer none, .int .i64 n] w fun e w' => e = .returned (.pointer none) ∧ w = w' := by
  go_enter Try.func66, Try.ntmps66
  go_wp2_with (go_at_call 44; (with_reducible refine (wnum_nil _ _).mono ?_); rintro e w1 ⟨rfl, rfl⟩)
  all_goals
    go_ret
    exact ⟨rfl, rfl⟩
theorem wtext_nil (w : World) (s : ByteArray) : Calls Try.prog 65 #[.pointer none, .string s] w fun e w' => e = .returned (.pointer none) ∧ w = w' := by
  go_enter Try.func65, Try.ntmps65
  go_wp2
  go_ret
  exact ⟨rfl, rfl⟩
theorem wbyte_nil (w : World) (n : Int) : Calls Try.prog 64 #[.pointer none, .int .u8 n] w fun e w' => e = .returned (.pointer none) ∧ w = w' := by
  go_enter Try.func64, Try.ntmps64
  go_wp2
  go_ret
  exact ⟨rfl, rfl⟩
theorem wbytes_nil (w : World) : Calls Try.prog 46 #[.pointer none] w fun e w' => e = .returned (.slice none 0 0) ∧ w = w' := by
  go_enter Try.func46, Try.ntmps46
  go_wp2
  go_ret
  exact ⟨rfl, rfl⟩
end Go.Proofs.Ytdphpjlhkamadaa
namespace Go.Proofs.Ytdphpjlhkamadaa
open Go.RowKit
set_option linter.unusedSimpArgs false
set_option linter.unusedVariables false
theorem take_at {P : Program} {ops : Array Oper} {Q : Exit → Act → World → Prop} {md : Region.Mode} {S : World → Prop} {i : Nat} {oi : Oper} {v : Value} {fuel : Nat} {listed : Array Bool} {a : Act} {w : World} (d : Option Tmp)
    (hi : ops[i]? = some oi) (hd : oi.dst = d) (hs : Region.noSelect ops = true) (hf : Region.free md ops listed i = true) (hr : (Region.ready md ops listed).contains i = true)
    (hQ : ∀ c a w, Q (.panic c) (a.put d v) w → Q (.panic c) a w) (hy : YieldsIf P ops S oi v a) (hS : S w)
    (h : wpAnyH P md ops Q S fuel (listed.setIfInBounds i true) (a.put d v) w) : wpAnyH P md ops Q S (fuel + 1) listed a w := by
  subst hd
  exact wpAnyH_take hi hs hf hr hQ hy hS h
theorem wp_any_world {c : Code} {P : Program} {Q : Exit → Act → World → Prop} {a : Act} {w : World} (h : ∀ wy, wy = w → c.wp P Q a wy) : c.wp P Q a w := h w rfl
end Go.Proofs.Ytdphpjlhkamadaa
