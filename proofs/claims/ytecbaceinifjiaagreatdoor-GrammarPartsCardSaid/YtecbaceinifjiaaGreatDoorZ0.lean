/- KMath, Words, KStep, KBa: joined by program (tools/merge.py). -/
import Derived.Below
import Derived.Laws.OwnMore
import Derived.Laws.AppendOwn
import Derived.Deep.Draws
import Derived.Laws.Rows
import Derived.Test.YtecbaceinifjiaaGreatDoorRows
import Derived.WalkKit
import Derived.OwnWalk
import Derived.OneCell
import Derived.Laws.BitsAllLaws
import Derived.Laws.Bits64
import Derived.Lib.Hide
namespace Go.Proofs.YtecbaceinifjiaaGreatDoor

def isLet (c : Nat) : Bool := decide (97 ≤ c ∧ c ≤ 122) || decide (65 ≤ c ∧ c ≤ 90) || decide (c = 95)
def isDig (c : Nat) : Bool := decide (48 ≤ c ∧ c ≤ 57)
def isLD (c : Nat) : Bool := isLet c || isDig c
/-- How many bytes at the front may stand in a name. -/
def runL : List Nat → Nat
  | [] => 0
  | b :: l => if isLD b then runL l + 1 else 0
/-- How many bytes stand ahead of the first token; in a comment first, or not. -/
def gapC : Bool → List Nat → Nat
  | _, [] => 0
  | true, b :: l => gapC (decide (b ≠ 10)) l + 1
  | false, b :: l => if b = 32 ∨ b = 9 ∨ b = 10 then gapC false l + 1 else if b = 35 then gapC true l + 1 else 0
def gapL (l : List Nat) : Nat := gapC false l
def wordsL : List (List Nat) := [[98, 111, 111, 108], [100, 111], [101, 108, 115, 101], [102, 97, 108, 115, 101], [102, 117, 110, 99], [105, 102], [105, 110, 116], [108, 101, 116], [109, 111, 100, 117, 108, 101], [112, 114, 105, 110, 116], [114, 101, 97, 100], [114, 101, 116, 117, 114, 110], [116, 114, 117, 101], [119, 104, 105, 108, 101]]
def signsL : List (List Nat) := [[40], [41], [123], [125], [46], [44], [59], [61], [33], [43], [45], [42], [47], [37], [60], [60, 61], [62], [62, 61], [61, 61], [33, 61], [38, 38], [124, 124]]
/-- How long the sign at the front is; 0: there is none. -/
def signL (l : List Nat) : Nat := if l.take 2 ∈ signsL ∧ 2 ≤ l.length then 2 else if l.take 1 ∈ signsL then 1 else 0
def nameL (s : List Nat) : Bool := decide (1 ≤ s.length) && decide (s.length ≤ 64) && isLet (s.headD 0) && decide (runL s = s.length)
/-- A number's value, digit by digit. -/
def valL (s : List Nat) : Nat := s.foldl (fun n b => 10 * n + (b - 48)) 0
def digL (s : List Nat) : Bool := s.all isDig
def numL (s : List Nat) : Bool := decide (1 ≤ s.length) && decide (s.length ≤ 19) && !(decide (s.headD 0 = 48) && decide (1 < s.length)) && digL s && decide (valL s ≤ 9223372036854775807)
/-- What the token at the front is, and how long: 0: there is none. -/
def firstL (l : List Nat) : Nat × Nat :=
  if runL l = 0 then (if signL l = 0 then (0, 0) else (4, signL l))
  else if l.take (runL l) ∈ wordsL then (3, runL l)
  else if nameL (l.take (runL l)) then (1, runL l)
  else if numL (l.take (runL l)) then (2, runL l)
  else (0, 0)
structure Tok where
  kind : Nat
  text : List Nat
  at_ : Nat
deriving DecidableEq
def scanF : Nat → List Nat → Nat → Option (List Tok)
  | 0, _, _ => some []
  | f + 1, l, at_ =>
    if l.length ≤ gapL l then some []
    else if (firstL (l.drop (gapL l))).1 = 0 then none
    else (scanF f (l.drop (gapL l + (firstL (l.drop (gapL l))).2)) (at_ + gapL l + (firstL (l.drop (gapL l))).2)).map (⟨(firstL (l.drop (gapL l))).1, (l.drop (gapL l)).take (firstL (l.drop (gapL l))).2, at_ + gapL l⟩ :: ·)
/-- The tokens of a text that begins at a place; none: it is refused. -/
def scan (l : List Nat) (at_ : Nat) : Option (List Tok) := scanF l.length l at_

theorem gapC_le : ∀ (c : Bool) (l : List Nat), gapC c l ≤ l.length
  | c, [] => by simp [gapC]
  | true, b :: l => by have := gapC_le (decide (b ≠ 10)) l; simp only [gapC, List.length_cons]; omega
  | false, b :: l => by
    have h1 := gapC_le false l
    have h2 := gapC_le true l
    simp only [gapC, List.length_cons]
    split
    · omega
    · split <;> omega
theorem gapL_le (l : List Nat) : gapL l ≤ l.length := gapC_le _ l
theorem runL_le : ∀ l : List Nat, runL l ≤ l.length
  | [] => by simp [runL]
  | b :: l => by
    have := runL_le l
    simp only [runL, List.length_cons]
    split <;> omega
theorem signL_le (l : List Nat) : signL l ≤ l.length := by
  unfold signL
  split
  · omega
  · split
    · rename_i h
      rcases l with _ | ⟨b, l⟩
      · simp [signsL] at h
      · simp
    · omega
theorem firstL_le (l : List Nat) : (firstL l).2 ≤ l.length := by
  have h1 := runL_le l
  have h2 := signL_le l
  unfold firstL
  repeat' split
  all_goals first | exact h1 | exact h2 | exact Nat.zero_le _
theorem firstL_pos (l : List Nat) (h : (firstL l).1 ≠ 0) : 1 ≤ (firstL l).2 := by
  revert h
  unfold firstL
  repeat' split
  all_goals first | (intro h; exact absurd rfl h) | (intro _; show 1 ≤ signL l; omega) | (intro _; show 1 ≤ runL l; omega)
theorem scanF_up : ∀ (f : Nat) (l : List Nat) (a g : Nat), l.length ≤ f → f ≤ g → scanF g l a = scanF f l a
  | 0, l, a, g, h, _ => by
    obtain rfl : l = [] := List.length_eq_zero_iff.1 (by omega)
    cases g with
    | zero => rfl
    | succ g => simp [scanF]
  | f + 1, l, a, 0, h, hg => by omega
  | f + 1, l, a, g + 1, h, hg => by
    unfold scanF
    by_cases h1 : l.length ≤ gapL l
    · rw [if_pos h1, if_pos h1]
    · rw [if_neg h1, if_neg h1]
      by_cases h2 : (firstL (l.drop (gapL l))).1 = 0
      · rw [if_pos h2, if_pos h2]
      · rw [if_neg h2, if_neg h2]
        have hp := firstL_pos _ h2
        rw [scanF_up f _ _ g (by rw [List.length_drop]; omega) (by omega)]
theorem scanF_succ (n : Nat) (l : List Nat) (a : Nat) : scanF (n + 1) l a = if l.length ≤ gapL l then some []
    else if (firstL (l.drop (gapL l))).1 = 0 then none
    else (scanF n (l.drop (gapL l + (firstL (l.drop (gapL l))).2)) (a + gapL l + (firstL (l.drop (gapL l))).2)).map (⟨(firstL (l.drop (gapL l))).1, (l.drop (gapL l)).take (firstL (l.drop (gapL l))).2, a + gapL l⟩ :: ·) := rfl
/-- One step. -/
theorem scan_end {l : List Nat} {a : Nat} (h : l.length ≤ gapL l) : scan l a = some [] := by
  unfold scan
  cases hl : l.length with
  | zero => rfl
  | succ n => unfold scanF; rw [if_pos h]
theorem scan_bad {l : List Nat} {a : Nat} (h : gapL l < l.length) (h2 : (firstL (l.drop (gapL l))).1 = 0) : scan l a = none := by
  unfold scan
  cases hl : l.length with
  | zero => omega
  | succ n => unfold scanF; rw [if_neg (by omega), if_pos h2]
theorem scan_next {l : List Nat} {a : Nat} (h : gapL l < l.length) (h2 : (firstL (l.drop (gapL l))).1 ≠ 0) :
    scan l a = (scan (l.drop (gapL l + (firstL (l.drop (gapL l))).2)) (a + gapL l + (firstL (l.drop (gapL l))).2)).map (⟨(firstL (l.drop (gapL l))).1, (l.drop (gapL l)).take (firstL (l.drop (gapL l))).2, a + gapL l⟩ :: ·) := by
  have hp := firstL_pos _ h2
  unfold scan
  cases hl : l.length with
  | zero => omega
  | succ n =>
    rw [scanF_succ, if_neg (by omega), if_neg h2, scanF_up _ _ _ n (Nat.le_refl _) (by rw [List.length_drop]; omega)]
/-- A gap's bytes may be left out, one by one. -/
theorem gapC_true {l : List Nat} {k : Nat} (h : ∀ j, j < k → ∃ b, l[j]? = some b ∧ b ≠ 10) : gapC true l = k + gapC true (l.drop k) := by
  induction k generalizing l with
  | zero => simp
  | succ k ih =>
    obtain ⟨b, hb, hne⟩ := h 0 (by omega)
    rcases l with _ | ⟨c, l⟩
    · cases hb
    · simp at hb
      subst hb
      simp only [gapC, List.drop_succ_cons]
      rw [show decide (c ≠ 10) = true from decide_eq_true hne, ih (fun j hj => by simpa using h (j + 1) (by omega))]
      omega
end Go.Proofs.YtecbaceinifjiaaGreatDoor
namespace Go.Proofs.YtecbaceinifjiaaGreatDoor
open Go.RowKit

theorem addr_add_block (a : Addr) (n : Nat) : (a.add n).block = a.block := by unfold Addr.add; split <;> rfl
theorem addr_add_add (a : Addr) (i j : Nat) : (a.add i).add j = a.add (i + j) := by
  unfold Addr.add
  rcases Nat.eq_zero_or_pos i with rfl | hi
  · simp
  · rcases Nat.eq_zero_or_pos j with rfl | hj
    · simp
    · rw [if_neg (by omega), if_neg (by omega), if_neg (by omega), Nat.add_assoc]

/-- Each place of the list is a cell behind the address, in a block below B. -/
def Lies (w : World) (B : Nat) (A : Option Addr) (vs : List Value) : Prop :=
  ∀ j v, vs[j]? = some v → ∃ ad, A = some ad ∧ ad.block < B ∧ w.cell? (ad.add j) = some v

section
variable {w w' : World} {B B' : Nat} {A : Option Addr} {vs : List Value}
theorem Lies.nil (w : World) (B : Nat) (A : Option Addr) : Lies w B A [] := fun j v h => by simp at h
theorem Lies.of_cells (h : Lies w B A vs) (hk : ∀ p : Addr, p.block < B → w'.cell? p = w.cell? p) : Lies w' B A vs := fun j v hj => by
  obtain ⟨ad, rfl, hb, hc⟩ := h j v hj
  exact ⟨ad, rfl, hb, (hk _ (by rw [addr_add_block]; exact hb)).trans hc⟩
theorem Lies.up (h : Lies w B A vs) (hB : B ≤ B') : Lies w B' A vs := fun j v hj => by
  obtain ⟨ad, rfl, hb, hc⟩ := h j v hj
  exact ⟨ad, rfl, Nat.lt_of_lt_of_le hb hB, hc⟩
theorem Lies.below (h : Lies w B A vs) (hb : Below B w w') : Lies w' B A vs := h.of_cells fun _ hp => hb.cell hp
theorem Lies.alloc (h : Lies w B A vs) (hB : B ≤ w.heap.size) (o : Obj) : Lies (w.alloc o) B A vs := h.below ((Below.refl B w).alloc hB o)
theorem Lies.drewN (h : Lies w B A vs) (k : Nat) : Lies (w.drewN k) B A vs := h
theorem Lies.first (h : Lies w B A vs) (k : Nat) : Lies w B A (vs.take k) := fun j v hj => by
  rw [List.getElem?_take] at hj
  split at hj
  · exact h j v hj
  · cases hj
theorem Lies.rest (h : Lies w B A vs) {k n cap : Nat} (hn : n = vs.length) (hk : k ≤ n) (hc : n ≤ cap) : Lies w B (if cap = k then A else A.map (·.add k)) (vs.drop k) := fun j v hj => by
  rw [List.getElem?_drop] at hj
  have hl : k + j < vs.length := by
    rcases Nat.lt_or_ge (k + j) vs.length with h1 | h1
    · exact h1
    · rw [List.getElem?_eq_none h1] at hj; cases hj
  obtain ⟨ad, rfl, hb, hcell⟩ := h _ v hj
  rw [if_neg (by omega)]
  exact ⟨ad.add k, rfl, by rw [addr_add_block]; exact hb, by rw [addr_add_add]; exact hcell⟩
theorem Lies.of_own {base : Nat} {e : TypeId} {c n : Nat} (h : w.ownsRow base e 1 (.slice A n c) n vs) : Lies w w.heap.size A vs := fun j v hj => by
  have hl : j < vs.length := by
    rcases Nat.lt_or_ge j vs.length with h1 | h1
    · exact h1
    · rw [List.getElem?_eq_none h1] at hj; cases hj
  obtain ⟨hlen, ⟨_, hn⟩ | ⟨g, cap, cur, hv, _, hh, _⟩⟩ := id h
  · omega
  · have hA : A = some ⟨g, 0, none⟩ := by injection hv
    subst hA
    have hlt : g < w.heap.size := by
      rcases Nat.lt_or_ge g w.heap.size with h1 | h1
      · exact h1
      · rw [Array.getElem?_eq_none h1] at hh; cases hh
    exact ⟨_, rfl, hlt, h.cells (g := g) rfl j v hj⟩
end

/-- Bytes as cells. -/
def byt (l : List Nat) : List Value := l.map fun (b : Nat) => Value.int .u8 (b : Int)
theorem byt_length (l : List Nat) : (byt l).length = l.length := by simp [byt]
theorem byt_at (l : List Nat) (j : Nat) : (byt l)[j]? = (l[j]?).map fun (b : Nat) => Value.int .u8 (b : Int) := by simp [byt]
theorem byt_append (l m : List Nat) : byt (l ++ m) = byt l ++ byt m := by simp [byt]
theorem byt_take (l : List Nat) (k : Nat) : byt (l.take k) = (byt l).take k := by simp [byt]
theorem byt_drop (l : List Nat) (k : Nat) : byt (l.drop k) = (byt l).drop k := by simp [byt]

/-- The slice value v reads, below B, as the bytes l. -/
structure Bytes (w : World) (B : Nat) (v : Value) (l : List Nat) : Prop where
  form : ∃ A c, v = .slice A l.length c ∧ Lies w B A (byt l) ∧ l.length ≤ c ∧ (A = none → c = 0)
  small : ∀ b ∈ l, b < 256
  long : l.length ≤ maxLen
/-- The slice value v reads, below B, as a list of such slices. -/
structure Parts (w : World) (B : Nat) (v : Value) (ls : List (List Nat)) : Prop where
  form : ∃ (A : Option Addr) (c : Nat) (vs : List Value), v = .slice A ls.length c ∧ vs.length = ls.length ∧ Lies w B A vs ∧ ∀ (j : Nat) (u : Value) (l : List Nat), vs[j]? = some u → ls[j]? = some l → Bytes w B u l
  long : ls.length ≤ maxLen
section
variable {w w' : World} {B B' : Nat} {v : Value} {l : List Nat} {ls : List (List Nat)}
theorem Bytes.of_cells (h : Bytes w B v l) (hk : ∀ p : Addr, p.block < B → w'.cell? p = w.cell? p) : Bytes w' B v l := by
  obtain ⟨⟨A, c, rfl, hl, hc⟩, hs, hn⟩ := h
  exact ⟨⟨A, c, rfl, hl.of_cells hk, hc⟩, hs, hn⟩
theorem Bytes.up (h : Bytes w B v l) (hB : B ≤ B') : Bytes w B' v l := by
  obtain ⟨⟨A, c, rfl, hl, hc⟩, hs, hn⟩ := h
  exact ⟨⟨A, c, rfl, hl.up hB, hc⟩, hs, hn⟩
theorem Bytes.below (h : Bytes w B v l) (hb : Below B w w') : Bytes w' B v l := h.of_cells fun _ hp => hb.cell hp
theorem Parts.of_cells (h : Parts w B v ls) (hk : ∀ p : Addr, p.block < B → w'.cell? p = w.cell? p) : Parts w' B v ls := by
  obtain ⟨⟨A, c, vs, rfl, hv, hl, hb⟩, hn⟩ := h
  exact ⟨⟨A, c, vs, rfl, hv, hl.of_cells hk, fun j u l h1 h2 => (hb j u l h1 h2).of_cells hk⟩, hn⟩
theorem Parts.below (h : Parts w B v ls) (hb : Below B w w') : Parts w' B v ls := h.of_cells fun _ hp => hb.cell hp
theorem Parts.up (h : Parts w B v ls) (hB : B ≤ B') : Parts w B' v ls := by
  obtain ⟨⟨A, c, vs, rfl, hv, hl, hb⟩, hn⟩ := h
  exact ⟨⟨A, c, vs, rfl, hv, hl.up hB, fun j u l h1 h2 => (hb j u l h1 h2).up hB⟩, hn⟩
theorem Parts.none_ (w : World) (B : Nat) : Parts w B (.slice none 0 0) [] :=
  ⟨⟨none, 0, [], rfl, rfl, Lies.nil _ _ _, fun j u l h _ => by simp at h⟩, by simp⟩
theorem Bytes.none_ (w : World) (B : Nat) : Bytes w B (.slice none 0 0) [] :=
  ⟨⟨none, 0, rfl, Lies.nil _ _ _, by simp⟩, by simp, by simp⟩
theorem below_drewN {B : Nat} {a w : World} (h : Below B a w) (n : Nat) : Below B a (w.drewN n) := ⟨h.os, h.tape, h.output, h.size, h.block⟩
end
end Go.Proofs.YtecbaceinifjiaaGreatDoor
namespace Go.Proofs.YtecbaceinifjiaaGreatDoor
open Go.RowKit

theorem unhide {p : Prop} (h : Hid p) : p := h
theorem hide {p : Prop} (h : p) : Hid p := h
theorem below_on {a w w' : World} (h : Below a.heap.size a w) (k : Below w.heap.size w w') : Below a.heap.size a w' := h.trans (k.mono h.size)
theorem lt_of_heap {w : World} {k : Nat} {o : Obj} (h : w.heap[k]? = some o) : k < w.heap.size := by
  rcases Nat.lt_or_ge k w.heap.size with h1 | h1
  · exact h1
  · rw [Array.getElem?_eq_none h1] at h; cases h
/-- A string's bytes. -/
def str (s : ByteArray) : List Nat := s.data.toList.map UInt8.toNat
theorem str_length (s : ByteArray) : (str s).length = s.size := by unfold str; rw [List.length_map, Array.length_toList]; rfl
theorem str_small (s : ByteArray) : ∀ b ∈ str s, b < 256 := fun b hb => by
  obtain ⟨u, _, rfl⟩ := List.mem_map.1 hb
  exact u.toNat_lt
theorem str_inj {s t : ByteArray} (h : str s = str t) : s = t := by
  unfold str at h
  have h2 : s.data.toList = t.data.toList := by
    refine List.map_inj_right ?_ |>.1 h
    intro x y hxy
    exact UInt8.toNat_inj.1 hxy
  cases s
  cases t
  congr 1
  exact Array.toList_inj.1 h2
theorem str_extract (s : ByteArray) (a b : Nat) : str (s.extract a b) = ((str s).drop a).take (b - a) := by
  unfold str
  rw [ByteArray.data_extract, Array.toList_extract, List.extract_eq_take_drop, List.map_take, List.map_drop]
theorem str_append (s t : ByteArray) : str (s ++ t) = str s ++ str t := by
  unfold str
  rw [ByteArray.data_append, Array.toList_append, List.map_append]
theorem str_get (s : ByteArray) (k : Nat) (h : k < s.size) : (str s)[k]? = some (s[k]'h).toNat := by
  unfold str
  rw [List.getElem?_map, Array.getElem?_toList, Array.getElem?_eq_getElem (show k < s.data.size from h)]
  rfl
end Go.Proofs.YtecbaceinifjiaaGreatDoor
namespace Go.Proofs.YtecbaceinifjiaaGreatDoor
open Go.RowKit
/-- A list of bytes as a string. -/
def ba (l : List Nat) : ByteArray := ⟨(l.map UInt8.ofNat).toArray⟩
theorem str_ba {l : List Nat} (h : ∀ b ∈ l, b < 256) : str (ba l) = l := by
  unfold str ba
  rw [List.map_map]
  refine (List.map_congr_left fun b hb => ?_).trans (List.map_id l)
  have := h b hb
  simp
  omega
theorem ba_str (s : ByteArray) : ba (str s) = s := str_inj (str_ba (str_small s))
end Go.Proofs.YtecbaceinifjiaaGreatDoor
