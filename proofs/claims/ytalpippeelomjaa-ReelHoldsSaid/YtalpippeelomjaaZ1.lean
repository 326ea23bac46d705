/- Step, Make, Words: joined by program (tools/merge.py). -/
import Derived.Test.YtalpippeelomjaaRows
import Derived.Test.YtalpippeelomjaaZ0
import Derived.WalkKit
import Derived.Below
import Derived.Laws.BitsAllLaws
import Derived.Lib.Hide
import Derived.Laws.OwnMore
import Derived.Laws.Rows
import Derived.Laws.ResultCell
import Derived.Deep.Draws
import Derived.Deep.AppendLies
import Derived.OwnWalk
import Derived.Laws.CopyOwn
import Derived.Laws.AppendOwn
namespace Go.Proofs.Ytalpippeelomjaa
open Go.RowKit

theorem u32_and_one (n : Nat) (h : n < 4294967296) : bits .and .u32 (n : Int) 1 = ((n % 2 : Nat) : Int) := by
  have := u32_and_nat n 1 h (by omega)
  rw [show ((1 : Nat) : Int) = 1 from rfl] at this
  rw [this, Nat.and_one_is_mod]

theorem int_u32 {a b : Int} (h : a = b) : Value.int .u32 a = Value.int .u32 b := by rw [h]
theorem ret_u32 {a b : Int} (h : a = b) : Ending.returned (.int .u32 a) = .returned (.int .u32 b) := by rw [h]
theorem zk_yes {k x : Nat} (hz : zk k x < 4294967296) (h : (((zk k x : Nat) : Int) % 2 == 1) = true) :
    Value.int .u32 (bits .xor .u32 (((zk k x : Nat) : Int) / 2) 3988292384) = .int .u32 ((zk (k + 1) x : Nat) : Int) := by
  have h1 : zk k x % 2 = 1 := by
    have h2 : ((zk k x : Nat) : Int) % 2 = 1 := by simpa using h
    omega
  apply int_u32
  rw [show ((zk k x : Nat) : Int) / 2 = ((zk k x / 2 : Nat) : Int) by omega, show (3988292384 : Int) = ((3988292384 : Nat) : Int) from rfl, u32_xor_nat _ _ (by omega) (by omega)]
  rw [zk, z1, if_pos h1]
theorem zk_no {k x : Nat} (h : (((zk k x : Nat) : Int) % 2 == 1) = false) :
    Value.int .u32 (((zk k x : Nat) : Int) / 2) = .int .u32 ((zk (k + 1) x : Nat) : Int) := by
  have h1 : ¬ zk k x % 2 = 1 := by
    have h2 : ¬ ((zk k x : Nat) : Int) % 2 = 1 := by simpa using h
    omega
  apply int_u32
  rw [zk, z1, if_neg h1]
  omega

set_option maxHeartbeats 400000 in
theorem step_any (s b : Nat) (hs : s < 4294967296) (hb : b < 256) (w : World) :
    Calls Try.prog 99 #[.int .u32 (s : Int), .int .u8 (b : Int)] w fun e w' => e = .returned (.int .u32 (stp s b : Int)) ∧ w = w' := by
  have hx : bits .xor .u32 (s : Int) (b : Int) = ((s ^^^ b : Nat) : Int) := u32_xor_nat s b hs (by omega)
  go_enter Try.func99, Try.ntmps99
  go_wp2
  clear hx
  have hX : s ^^^ b < 4294967296 := Nat.xor_lt_two_pow (n := 32) (by omega) (by omega)
  have hst : stp s b = zk 8 (s ^^^ b) := rfl
  have Hst := Lib.hid hst
  clear hst
  obtain ⟨x, hxx⟩ : ∃ x, x = s ^^^ b := ⟨_, rfl⟩
  rw [← hxx] at hX Hst ⊢
  clear hxx
  go_loop [0, 10] (fun t i => ∃ k : Nat, k ≤ 8 ∧ i = .int .i64 k ∧ t = .int .u32 (zk k x : Int)) (fun _ i => 8 - (intOf i).toNat)
  case atStart => exact ⟨0, by omega, rfl, rfl⟩
  case round =>
    obtain ⟨k, hk, rfl, rfl⟩ := hrel
    have hz := zk_lt k hX
    by_cases hlt : k < 8
    · have hand := u32_and_one (zk k x) hz
      go_wp2
      all_goals
        go_round
        case rel => exact ⟨k + 1, by omega, by go_num, by first | exact zk_yes hz ‹_› | exact zk_no ‹_›⟩
        case measure => simp [intOf]; omega
    · go_wp2
      go_ret
      obtain rfl : k = 8 := by omega
      exact ⟨ret_u32 (by rw [Hst.out]), rfl⟩
end Go.Proofs.Ytalpippeelomjaa
namespace Go.Proofs.Ytalpippeelomjaa
open Go.RowKit

/-- The table's first cells, so many; behind them noughts. -/
def tabTo (k : Nat) : Array Value := Array.ofFn (n := 256) fun i => .int .u32 (if i.val < k then (zk 8 i.val : Nat) else (0 : Nat))
theorem tabTo_at {k : Nat} (h : k < 256) : (tabTo k)[k]? = some (.int .u32 0) := by
  unfold tabTo
  rw [Array.getElem?_ofFn, dif_pos h]
  simp
theorem tabTo_get (k i : Nat) (h : i < 256) : (tabTo k)[i]? = some (.int .u32 ((if i < k then (zk 8 i : Nat) else (0 : Nat) : Nat) : Int)) := by
  unfold tabTo
  rw [Array.getElem?_ofFn, dif_pos h]
  by_cases hi : i < k
  · rw [if_pos hi, if_pos hi]
  · rw [if_neg hi, if_neg hi]
theorem tabTo_size (k : Nat) : (tabTo k).size = 256 := by unfold tabTo; exact Array.size_ofFn
theorem tabTo_next {k : Nat} (h : k < 256) : (tabTo k).setIfInBounds k (.int .u32 ((zk 8 k : Nat) : Int)) = tabTo (k + 1) := by
  apply Array.ext_getElem?
  intro i
  rw [Array.getElem?_setIfInBounds]
  by_cases hi : i < 256
  · rw [tabTo_get k i hi, tabTo_get (k + 1) i hi, tabTo_size]
    by_cases e : k = i
    · subst e
      rw [if_pos rfl, if_pos h, if_pos (by omega)]
    · rw [if_neg e]
      by_cases h2 : i < k
      · rw [if_pos h2, if_pos (by omega)]
      · rw [if_neg h2, if_neg (by omega)]
  · rw [if_neg (by omega), Array.getElem?_eq_none (by rw [tabTo_size]; omega), Array.getElem?_eq_none (by rw [tabTo_size]; omega)]
theorem zero_tab (w : World) : (zeroValue 141).run Try.prog w = .ok (.agg (tabTo 0)) w := by kernel_rfl

set_option maxRecDepth 100000 in
/-- Over any row of tables that begin with noughts and bear one step more each. -/
theorem make_core (T : Nat → Array Value) (z0 : ∀ w, (zeroValue 141).run Try.prog w = .ok (.agg (T 0)) w)
    (hsz : ∀ k, (T k).size = 256) (h1 : ∀ k, (T k).all (·.oneCell') = true)
    (hat : ∀ k, k < 256 → (T k)[k]? = some (.int .u32 0)) (hnx : ∀ k, k < 256 → (T k).setIfInBounds k (.int .u32 ((zk 8 k : Nat) : Int)) = T (k + 1)) (w : World) :
    Calls Try.prog 90 #[] w fun e w' => e = .returned (.agg (T 256)) ∧ Below w.heap.size w w' := by
  have Hat := Lib.hid hat
  have Hnx := Lib.hid hnx
  have Hsz := Lib.hid hsz
  have H1 := Lib.hid h1
  clear hat hnx hsz h1
  go_enter Try.func90, Try.ntmps90
  go_wp2
  clear z0
  go_loopw [3] (fun i wr => ∃ k : Nat, k ≤ 256 ∧ i = .int .i64 k ∧ wr = (w.alloc (.cells (T 0) 141)).alloc (.cells (T k) 141)) (fun i _ => 256 - (intOf i).toNat)
  case atStart => exact ⟨0, by omega, rfl, rfl⟩
  case round =>
    obtain ⟨k, hk, rfl, rfl⟩ := hrel
    by_cases hlt : k < 256
    · have hc := Hat.out k hlt
      go_wp2_with (go_at_call 99; refine (step_any 0 k (by omega) hlt _).mono ?_; rintro e w' ⟨rfl, rfl⟩)
      have hn := Hnx.out k hlt
      go_roundw
      case rel => exact ⟨k + 1, by omega, by go_num, by rw [stp_zero, hn]⟩
      case measure => simp [intOf]; omega
    · have hi : (Try.prog.info? 141).map (·.size) = some (T k).size := by rw [Hsz.out]; kernel_rfl
      have HI := Lib.hid hi
      clear hi
      have hs : (T 0).size = (T k).size := by rw [Hsz.out, Hsz.out]
      have HS := Lib.hid hs
      clear hs
      go_wp2_with (first
        | refine wpList_load_row rfl 141 _ rfl (w.heap.size + 1) rfl 141 (T k) (0, 0) _ (heap_alloc2_new w _ _) Try.underlying141 rfl HI.out ?_
        | refine wpList_store_row rfl 141 _ _ rfl w.heap.size (T k) rfl rfl 141 (T 0) (heap_alloc2_old w _ _) HI.out HS.out (H1.out k) ?_)
      refine bodyPost_ret (v := .agg (T k)) (results_cell_row Try.results90 _ _ w.heap.size 141 (T k) (0, 0) _ rfl (setRow_heap _ _ _ _ _ _ (heap_alloc2_old w _ _)) Try.underlying141 rfl HI.out) rfl ⟨?_, ?_⟩
      · obtain rfl : k = 256 := by omega
        rfl
      · exact below_setRow (((Below.refl _ _).alloc (Nat.le_refl _) _).alloc (by simp) _) (Nat.le_refl _) _

theorem tabTo_one (k : Nat) : (tabTo k).all (·.oneCell') = true := by
  rw [Array.all_eq_true]
  intro i h
  have h2 : (tabTo k)[i]? = some ((tabTo k)[i]) := Array.getElem?_eq_getElem h
  have h3 := Option.some.inj ((tabTo_get k i (by rw [tabTo_size] at h; exact h)).symm.trans h2)
  rw [← h3]
  rfl
theorem make_any (w : World) : Calls Try.prog 90 #[] w fun e w' => e = .returned (.agg (tabTo 256)) ∧ Below w.heap.size w w' := by
  have hat : ∀ k, k < 256 → (tabTo k)[k]? = some (.int .u32 0) := fun _ h => tabTo_at h
  have hnx : ∀ k, k < 256 → (tabTo k).setIfInBounds k (.int .u32 ((zk 8 k : Nat) : Int)) = tabTo (k + 1) := fun _ h => tabTo_next h
  have h := make_core tabTo zero_tab tabTo_size tabTo_one hat hnx w
  exact h
end Go.Proofs.Ytalpippeelomjaa
namespace Go.Proofs.Ytalpippeelomjaa
open Go.RowKit

theorem addr_add_block (a : Addr) (n : Nat) : (a.add n).block = a.block := by unfold Addr.add; split <;> rfl
theorem addr_add_add (a : Addr) (i j : Nat) : (a.add i).add j = a.add (i + j) := by
  unfold Addr.add
  rcases Nat.eq_zero_or_pos i with rfl | hi
  · simp
  · rcases Nat.eq_zero_or_pos j with rfl | hj
    · simp
    · rw [if_neg (by omega), if_neg (by omega), if_neg (by omega), Nat.add_assoc]

/-- Each place of the list is a cell behind the address, in a block below B. -/
def Lies (w : World) (B : Nat) (A : Option Addr) (vs : List Value) : Prop :=
  ∀ j v, vs[j]? = some v → ∃ ad, A = some ad ∧ ad.block < B ∧ w.cell? (ad.add j) = some v

section
variable {w w' : World} {B B' : Nat} {A : Option Addr} {vs : List Value}
theorem Lies.nil (w : World) (B : Nat) (A : Option Addr) : Lies w B A [] := fun j v h => by simp at h
theorem Lies.of_cells (h : Lies w B A vs) (hk : ∀ p : Addr, p.block < B → w'.cell? p = w.cell? p) : Lies w' B A vs := fun j v hj => by
  obtain ⟨ad, rfl, hb, hc⟩ := h j v hj
  exact ⟨ad, rfl, hb, (hk _ (by rw [addr_add_block]; exact hb)).trans hc⟩
theorem Lies.up (h : Lies w B A vs) (hB : B ≤ B') : Lies w B' A vs := fun j v hj => by
  obtain ⟨ad, rfl, hb, hc⟩ := h j v hj
  exact ⟨ad, rfl, Nat.lt_of_lt_of_le hb hB, hc⟩
theorem Lies.below (h : Lies w B A vs) (hb : Below B w w') : Lies w' B A vs := h.of_cells fun _ hp => hb.cell hp
theorem Lies.alloc (h : Lies w B A vs) (hB : B ≤ w.heap.size) (o : Obj) : Lies (w.alloc o) B A vs := h.below ((Below.refl B w).alloc hB o)
theorem Lies.drewN (h : Lies w B A vs) (k : Nat) : Lies (w.drewN k) B A vs := h
theorem Lies.first (h : Lies w B A vs) (k : Nat) : Lies w B A (vs.take k) := fun j v hj => by
  rw [List.getElem?_take] at hj
  split at hj
  · exact h j v hj
  · cases hj
theorem Lies.rest (h : Lies w B A vs) {k n cap : Nat} (hn : n = vs.length) (hk : k ≤ n) (hc : n ≤ cap) : Lies w B (if cap = k then A else A.map (·.add k)) (vs.drop k) := fun j v hj => by
  rw [List.getElem?_drop] at hj
  have hl : k + j < vs.length := by
    rcases Nat.lt_or_ge (k + j) vs.length with h1 | h1
    · exact h1
    · rw [List.getElem?_eq_none h1] at hj; cases hj
  obtain ⟨ad, rfl, hb, hcell⟩ := h _ v hj
  rw [if_neg (by omega)]
  exact ⟨ad.add k, rfl, by rw [addr_add_block]; exact hb, by rw [addr_add_add]; exact hcell⟩
theorem Lies.of_own {base : Nat} {e : TypeId} {c n : Nat} (h : w.ownsRow base e 1 (.slice A n c) n vs) : Lies w w.heap.size A vs := fun j v hj => by
  have hl : j < vs.length := by
    rcases Nat.lt_or_ge j vs.length with h1 | h1
    · exact h1
    · rw [List.getElem?_eq_none h1] at hj; cases hj
  obtain ⟨hlen, ⟨_, hn⟩ | ⟨g, cap, cur, hv, _, hh, _⟩⟩ := id h
  · omega
  · have hA : A = some ⟨g, 0, none⟩ := by injection hv
    subst hA
    have hlt : g < w.heap.size := by
      rcases Nat.lt_or_ge g w.heap.size with h1 | h1
      · exact h1
      · rw [Array.getElem?_eq_none h1] at hh; cases hh
    exact ⟨_, rfl, hlt, h.cells (g := g) rfl j v hj⟩
end

/-- Bytes as cells. -/
def byt (l : List Nat) : List Value := l.map fun (b : Nat) => Value.int .u8 (b : Int)
theorem byt_length (l : List Nat) : (byt l).length = l.length := by simp [byt]
theorem byt_at (l : List Nat) (j : Nat) : (byt l)[j]? = (l[j]?).map fun (b : Nat) => Value.int .u8 (b : Int) := by simp [byt]
theorem byt_append (l m : List Nat) : byt (l ++ m) = byt l ++ byt m := by simp [byt]
theorem byt_take (l : List Nat) (k : Nat) : byt (l.take k) = (byt l).take k := by simp [byt]
theorem byt_drop (l : List Nat) (k : Nat) : byt (l.drop k) = (byt l).drop k := by simp [byt]

/-- The slice value v reads, below B, as the bytes l. -/
structure Bytes (w : World) (B : Nat) (v : Value) (l : List Nat) : Prop where
  form : ∃ A c, v = .slice A l.length c ∧ Lies w B A (byt l) ∧ l.length ≤ c ∧ (A = none → c = 0)
  small : ∀ b ∈ l, b < 256
  long : l.length ≤ maxLen
/-- The slice value v reads, below B, as a list of such slices. -/
structure Parts (w : World) (B : Nat) (v : Value) (ls : List (List Nat)) : Prop where
  form : ∃ (A : Option Addr) (c : Nat) (vs : List Value), v = .slice A ls.length c ∧ vs.length = ls.length ∧ Lies w B A vs ∧ ∀ (j : Nat) (u : Value) (l : List Nat), vs[j]? = some u → ls[j]? = some l → Bytes w B u l
  long : ls.length ≤ maxLen
section
variable {w w' : World} {B B' : Nat} {v : Value} {l : List Nat} {ls : List (List Nat)}
theorem Bytes.of_cells (h : Bytes w B v l) (hk : ∀ p : Addr, p.block < B → w'.cell? p = w.cell? p) : Bytes w' B v l := by
  obtain ⟨⟨A, c, rfl, hl, hc⟩, hs, hn⟩ := h
  exact ⟨⟨A, c, rfl, hl.of_cells hk, hc⟩, hs, hn⟩
theorem Bytes.up (h : Bytes w B v l) (hB : B ≤ B') : Bytes w B' v l := by
  obtain ⟨⟨A, c, rfl, hl, hc⟩, hs, hn⟩ := h
  exact ⟨⟨A, c, rfl, hl.up hB, hc⟩, hs, hn⟩
theorem Bytes.below (h : Bytes w B v l) (hb : Below B w w') : Bytes w' B v l := h.of_cells fun _ hp => hb.cell hp
theorem Parts.of_cells (h : Parts w B v ls) (hk : ∀ p : Addr, p.block < B → w'.cell? p = w.cell? p) : Parts w' B v ls := by
  obtain ⟨⟨A, c, vs, rfl, hv, hl, hb⟩, hn⟩ := h
  exact ⟨⟨A, c, vs, rfl, hv, hl.of_cells hk, fun j u l h1 h2 => (hb j u l h1 h2).of_cells hk⟩, hn⟩
theorem Parts.below (h : Parts w B v ls) (hb : Below B w w') : Parts w' B v ls := h.of_cells fun _ hp => hb.cell hp
theorem Parts.up (h : Parts w B v ls) (hB : B ≤ B') : Parts w B' v ls := by
  obtain ⟨⟨A, c, vs, rfl, hv, hl, hb⟩, hn⟩ := h
  exact ⟨⟨A, c, vs, rfl, hv, hl.up hB, fun j u l h1 h2 => (hb j u l h1 h2).up hB⟩, hn⟩
theorem Parts.none_ (w : World) (B : Nat) : Parts w B (.slice none 0 0) [] :=
  ⟨⟨none, 0, [], rfl, rfl, Lies.nil _ _ _, fun j u l h _ => by simp at h⟩, by simp⟩
theorem Bytes.none_ (w : World) (B : Nat) : Bytes w B (.slice none 0 0) [] :=
  ⟨⟨none, 0, rfl, Lies.nil _ _ _, by simp⟩, by simp, by simp⟩
theorem below_drewN {B : Nat} {a w : World} (h : Below B a w) (n : Nat) : Below B a (w.drewN n) := ⟨h.os, h.tape, h.output, h.size, h.block⟩
end
end Go.Proofs.Ytalpippeelomjaa
