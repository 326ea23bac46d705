/- Words, ACmp: joined by program (tools/merge.py). -/
import Derived.Below
import Derived.Laws.OwnMore
import Derived.Laws.AppendOwn
import Derived.Deep.Draws
import Derived.Laws.Rows
import Derived.Test.YtdphpjlhkamadaaZ0
import Derived.WalkKit
import Derived.OwnWalk
import Derived.OneCell
import Derived.Laws.BitsAllLaws
import Derived.Laws.Bits64
import Derived.Lib.Hide
namespace Go.Proofs.Ytdphpjlhkamadaa
open Go.RowKit

theorem addr_add_block (a : Addr) (n : Nat) : (a.add n).block = a.block := by unfold Addr.add; split <;> rfl
theorem addr_add_add (a : Addr) (i j : Nat) : (a.add i).add j = a.add (i + j) := by
  unfold Addr.add
  rcases Nat.eq_zero_or_pos i with rfl | hi
  · simp
  · rcases Nat.eq_zero_or_pos j with rfl | hj
    · simp
    · rw [if_neg (by omega), if_neg (by omega), if_neg (by omega), Nat.add_assoc]

/-- Each place of the list is a cell behind the address, in a block below B. -/
def Lies (w : World) (B : Nat) (A : Option Addr) (vs : List Value) : Prop :=
  ∀ j v, vs[j]? = some v → ∃ ad, A = some ad ∧ ad.block < B ∧ w.cell? (ad.add j) = some v

section
variable {w w' : World} {B B' : Nat} {A : Option Addr} {vs : List Value}
theorem Lies.nil (w : World) (B : Nat) (A : Option Addr) : Lies w B A [] := fun j v h => by simp at h
theorem Lies.of_cells (h : Lies w B A vs) (hk : ∀ p : Addr, p.block < B → w'.cell? p = w.cell? p) : Lies w' B A vs := fun j v hj => by
  obtain ⟨ad, rfl, hb, hc⟩ := h j v hj
  exact ⟨ad, rfl, hb, (hk _ (by rw [addr_add_block]; exact hb)).trans hc⟩
theorem Lies.up (h : Lies w B A vs) (hB : B ≤ B') : Lies w B' A vs := fun j v hj => by
  obtain ⟨ad, rfl, hb, hc⟩ := h j v hj
  exact ⟨ad, rfl, Nat.lt_of_lt_of_le hb hB, hc⟩
theorem Lies.below (h : Lies w B A vs) (hb : Below B w w') : Lies w' B A vs := h.of_cells fun _ hp => hb.cell hp
theorem Lies.alloc (h : Lies w B A vs) (hB : B ≤ w.heap.size) (o : Obj) : Lies (w.alloc o) B A vs := h.below ((Below.refl B w).alloc hB o)
theorem Lies.drewN (h : Lies w B A vs) (k : Nat) : Lies (w.drewN k) B A vs := h
theorem Lies.first (h : Lies w B A vs) (k : Nat) : Lies w B A (vs.take k) := fun j v hj => by
  rw [List.getElem?_take] at hj
  split at hj
  · exact h j v hj
  · cases hj
theorem Lies.rest (h : Lies w B A vs) {k n cap : Nat} (hn : n = vs.length) (hk : k ≤ n) (hc : n ≤ cap) : Lies w B (if cap = k then A else A.map (·.add k)) (vs.drop k) := fun j v hj => by
  rw [List.getElem?_drop] at hj
  have hl : k + j < vs.length := by
    rcases Nat.lt_or_ge (k + j) vs.length with h1 | h1
    · exact h1
    · rw [List.getElem?_eq_none h1] at hj; cases hj
  obtain ⟨ad, rfl, hb, hcell⟩ := h _ v hj
  rw [if_neg (by omega)]
  exact ⟨ad.add k, rfl, by rw [addr_add_block]; exact hb, by rw [addr_add_add]; exact hcell⟩
theorem Lies.of_own {base : Nat} {e : TypeId} {c n : Nat} (h : w.ownsRow base e 1 (.slice A n c) n vs) : Lies w w.heap.size A vs := fun j v hj => by
  have hl : j < vs.length := by
    rcases Nat.lt_or_ge j vs.length with h1 | h1
    · exact h1
    · rw [List.getElem?_eq_none h1] at hj; cases hj
  obtain ⟨hlen, ⟨_, hn⟩ | ⟨g, cap, cur, hv, _, hh, _⟩⟩ := id h
  · omega
  · have hA : A = some ⟨g, 0, none⟩ := by injection hv
    subst hA
    have hlt : g < w.heap.size := by
      rcases Nat.lt_or_ge g w.heap.size with h1 | h1
      · exact h1
      · rw [Array.getElem?_eq_none h1] at hh; cases hh
    exact ⟨_, rfl, hlt, h.cells (g := g) rfl j v hj⟩
end

/-- Bytes as cells. -/
def byt (l : List Nat) : List Value := l.map fun (b : Nat) => Value.int .u8 (b : Int)
theorem byt_length (l : List Nat) : (byt l).length = l.length := by simp [byt]
theorem byt_at (l : List Nat) (j : Nat) : (byt l)[j]? = (l[j]?).map fun (b : Nat) => Value.int .u8 (b : Int) := by simp [byt]
theorem byt_append (l m : List Nat) : byt (l ++ m) = byt l ++ byt m := by simp [byt]
theorem byt_take (l : List Nat) (k : Nat) : byt (l.take k) = (byt l).take k := by simp [byt]
theorem byt_drop (l : List Nat) (k : Nat) : byt (l.drop k) = (byt l).drop k := by simp [byt]

/-- The slice value v reads, below B, as the bytes l. -/
structure Bytes (w : World) (B : Nat) (v : Value) (l : List Nat) : Prop where
  form : ∃ A c, v = .slice A l.length c ∧ Lies w B A (byt l) ∧ l.length ≤ c ∧ (A = none → c = 0)
  small : ∀ b ∈ l, b < 256
  long : l.length ≤ maxLen
/-- The slice value v reads, below B, as a list of such slices. -/
structure Parts (w : World) (B : Nat) (v : Value) (ls : List (List Nat)) : Prop where
  form : ∃ (A : Option Addr) (c : Nat) (vs : List Value), v = .slice A ls.length c ∧ vs.length = ls.length ∧ Lies w B A vs ∧ ∀ (j : Nat) (u : Value) (l : List Nat), vs[j]? = some u → ls[j]? = some l → Bytes w B u l
  long : ls.length ≤ maxLen
section
variable {w w' : World} {B B' : Nat} {v : Value} {l : List Nat} {ls : List (List Nat)}
theorem Bytes.of_cells (h : Bytes w B v l) (hk : ∀ p : Addr, p.block < B → w'.cell? p = w.cell? p) : Bytes w' B v l := by
  obtain ⟨⟨A, c, rfl, hl, hc⟩, hs, hn⟩ := h
  exact ⟨⟨A, c, rfl, hl.of_cells hk, hc⟩, hs, hn⟩
theorem Bytes.up (h : Bytes w B v l) (hB : B ≤ B') : Bytes w B' v l := by
  obtain ⟨⟨A, c, rfl, hl, hc⟩, hs, hn⟩ := h
  exact ⟨⟨A, c, rfl, hl.up hB, hc⟩, hs, hn⟩
theorem Bytes.below (h : Bytes w B v l) (hb : Below B w w') : Bytes w' B v l := h.of_cells fun _ hp => hb.cell hp
theorem Parts.of_cells (h : Parts w B v ls) (hk : ∀ p : Addr, p.block < B → w'.cell? p = w.cell? p) : Parts w' B v ls := by
  obtain ⟨⟨A, c, vs, rfl, hv, hl, hb⟩, hn⟩ := h
  exact ⟨⟨A, c, vs, rfl, hv, hl.of_cells hk, fun j u l h1 h2 => (hb j u l h1 h2).of_cells hk⟩, hn⟩
theorem Parts.below (h : Parts w B v ls) (hb : Below B w w') : Parts w' B v ls := h.of_cells fun _ hp => hb.cell hp
theorem Parts.up (h : Parts w B v ls) (hB : B ≤ B') : Parts w B' v ls := by
  obtain ⟨⟨A, c, vs, rfl, hv, hl, hb⟩, hn⟩ := h
  exact ⟨⟨A, c, vs, rfl, hv, hl.up hB, fun j u l h1 h2 => (hb j u l h1 h2).up hB⟩, hn⟩
theorem Parts.none_ (w : World) (B : Nat) : Parts w B (.slice none 0 0) [] :=
  ⟨⟨none, 0, [], rfl, rfl, Lies.nil _ _ _, fun j u l h _ => by simp at h⟩, by simp⟩
theorem Bytes.none_ (w : World) (B : Nat) : Bytes w B (.slice none 0 0) [] :=
  ⟨⟨none, 0, rfl, Lies.nil _ _ _, by simp⟩, by simp, by simp⟩
theorem below_drewN {B : Nat} {a w : World} (h : Below B a w) (n : Nat) : Below B a (w.drewN n) := ⟨h.os, h.tape, h.output, h.size, h.block⟩
end
end Go.Proofs.Ytdphpjlhkamadaa
namespace Go.Proofs.Ytdphpjlhkamadaa
open Go.RowKit
set_option linter.unusedSimpArgs false
set_option linter.unusedVariables false
set_option maxRecDepth 100000
theorem isNaN_any (w : World) (k : Nat) : Calls Try.prog 101 #[.int .u64 (k : Int)] w fun e w' => e = .returned (.bool false) ∧ w = w' := by
  go_enter Try.func101, Try.ntmps101
  go_wp2
  go_ret
  simp
def cmpN (a b : Nat) : Int := if a < b then -1 else if b < a then 1 else 0
theorem compare_any (w : World) (a b : Nat) : Calls Try.prog 86 #[.int .u64 (a : Int), .int .u64 (b : Int)] w fun e w' => e = .returned (.int .i64 (cmpN a b)) ∧ w = w' := by
  have h1 := isNaN_any w a
  have h2 := isNaN_any w b
  have H1 := Lib.hid h1
  have H2 := Lib.hid h2
  clear h1 h2
  rcases Nat.lt_trichotomy a b with h | h | h
  · have e1 : (a : Int) < (b : Int) := by omega
    have e2 : cmpN a b = -1 := by unfold cmpN; rw [if_pos h]
    rw [e2]
    clear h e2
    go_enter Try.func86, Try.ntmps86
    go_wp2_with (first
      | (go_at_call 101; (with_reducible refine (H1.out).mono ?_); rintro e w1 ⟨rfl, rfl⟩)
      | (go_at_call 101; (with_reducible refine (H2.out).mono ?_); rintro e w1 ⟨rfl, rfl⟩))
    go_ret
    exact ⟨rfl, rfl⟩
  · subst h
    have e2 : cmpN a a = 0 := by unfold cmpN; rw [if_neg (Nat.lt_irrefl _), if_neg (Nat.lt_irrefl _)]
    rw [e2]
    clear e2
    go_enter Try.func86, Try.ntmps86
    go_wp2_with (first
      | (go_at_call 101; (with_reducible refine (H1.out).mono ?_); rintro e w1 ⟨rfl, rfl⟩)
      | (go_at_call 101; (with_reducible refine (H2.out).mono ?_); rintro e w1 ⟨rfl, rfl⟩))
    go_ret
    exact ⟨rfl, rfl⟩
  · have e1 : ¬ (a : Int) < (b : Int) := by omega
    have e3 : (a : Int) > (b : Int) := by omega
    have e2 : cmpN a b = 1 := by unfold cmpN; rw [if_neg (by omega), if_pos h]
    rw [e2]
    clear h e2
    go_enter Try.func86, Try.ntmps86
    go_wp2_with (first
      | (go_at_call 101; (with_reducible refine (H1.out).mono ?_); rintro e w1 ⟨rfl, rfl⟩)
      | (go_at_call 101; (with_reducible refine (H2.out).mono ?_); rintro e w1 ⟨rfl, rfl⟩))
    go_ret
    exact ⟨rfl, rfl⟩
theorem closure_any (w : World) (p c b : Nat) : Calls Try.prog 85 #[.agg #[.int .u64 (p : Int), .int .i64 (c : Int)], .int .u64 (b : Int)] w fun e w' => e = .returned (.int .i64 (cmpN p b)) ∧ Below w.heap.size w w' := by
  go_enter Try.func85, Try.ntmps85
  go_wp2_with (first
    | (go_at_call 86; (with_reducible refine (compare_any _ p b).mono ?_); rintro e w1 ⟨rfl, rfl⟩))
  go_ret
  exact ⟨rfl, by first | exact Below.refl _ _ | exact (Below.refl _ _).alloc (Nat.le_refl _) _⟩
end Go.Proofs.Ytdphpjlhkamadaa
