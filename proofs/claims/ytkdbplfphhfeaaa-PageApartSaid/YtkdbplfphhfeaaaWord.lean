/- Contracts: four bytes as a word, the highest first: what putWord writes, what word answers; whether bytes are all noughts. -/
import Derived.Test.YtkdbplfphhfeaaaRefSeal
import Derived.Laws.CopyOwn
namespace Go.Proofs.Ytkdbplfphhfeaaa
open Go.RowKit
set_option linter.unusedSimpArgs false
set_option linter.unusedVariables false

/-- A number's four bytes, the highest first. -/
def be4 (v : Nat) : List Nat := [v / 16777216 % 256, v / 65536 % 256, v / 256 % 256, v % 256]
/-- Bytes as a number, the highest first. -/
def be (l : List Nat) : Nat := l.foldl (fun a b => 256 * a + b) 0
theorem be_snoc (l : List Nat) (b : Nat) : be (l ++ [b]) = 256 * be l + b := by simp [be]
theorem be_lt {l : List Nat} (h : ∀ b ∈ l, b < 256) : be l < 256 ^ l.length := by
  suffices hh : ∀ n (l : List Nat), l.length = n → (∀ b ∈ l, b < 256) → be l < 256 ^ n from hh _ l rfl h
  intro n
  induction n with
  | zero => intro l hl _; rw [List.eq_nil_of_length_eq_zero hl]; decide
  | succ n ih =>
    intro l hl hb
    obtain ⟨m, x, rfl⟩ : ∃ m x, l = m ++ [x] := ⟨l.dropLast, l.getLast (by intro e; rw [e] at hl; simp at hl), (List.dropLast_concat_getLast _).symm⟩
    rw [be_snoc]
    have h1 := ih m (by simp at hl; omega) (fun b hb' => hb b (by simp [hb']))
    have h2 := hb x (by simp)
    rw [Nat.pow_succ]
    omega
theorem be_be4 (v : Nat) (h : v < 4294967296) : be (be4 v) = v := by
  unfold be be4
  simp
  omega
theorem be4_small (v : Nat) : ∀ b ∈ be4 v, b < 256 := by
  intro b hb
  simp [be4] at hb
  rcases hb with h | h | h | h <;> rw [h] <;> exact Nat.mod_lt _ (by decide)
theorem be4_length (v : Nat) : (be4 v).length = 4 := rfl

theorem buf_set {w : World} {g i b : Nat} {L : List Nat} (h : w.heap[g]? = some (.cells (byt L).toArray 5 (0, 0))) :
    (w.setCell ⟨g, i, none⟩ (.int .u8 (b : Int))).heap[g]? = some (.cells (byt (L.set i b)).toArray 5 (0, 0)) := by
  rw [heap_setCell_same w g i _ _ _ h]
  have e : (byt L).toArray.setIfInBounds i (.int .u8 (b : Int)) = (byt (L.set i b)).toArray := by
    rw [List.setIfInBounds_toArray]
    congr 1
    unfold byt
    rw [List.map_set]
  rw [e]
theorem buf_cell {w : World} {g i b : Nat} {L : List Nat} (h : w.heap[g]? = some (.cells (byt L).toArray 5 (0, 0))) (hb : L[i]? = some b) : w.cell? ⟨g, i, none⟩ = some (.int .u8 (b : Int)) := by
  rw [cell_of_row w g i _ _ _ h]
  simp [byt_at, hb]
theorem buf_fz {w : World} {g i : Nat} {L : List Nat} (h : w.heap[g]? = some (.cells (byt L).toArray 5 (0, 0))) : w.frozen? ⟨g, i, none⟩ = false := frozen_of_row w g i _ _ h
theorem splice_next {L M : List Nat} {off k b : Nat} (hk : M[k]? = some b) (hl : off + M.length ≤ L.length) : (splice L off (M.take k)).set (off + k) b = splice L off (M.take (k + 1)) := by
  have hkl := (List.getElem?_eq_some_iff.1 hk).1
  unfold splice
  have h1 : (L.take off).length = off := by rw [List.length_take]; omega
  have h2 : (M.take k).length = k := by rw [List.length_take]; omega
  have h3 : (M.take (k + 1)).length = k + 1 := by rw [List.length_take]; omega
  rw [h2, h3, List.set_append_right _ _ (by omega), h1, show off + k - off = k by omega, List.set_append_right _ _ (by omega), h2, Nat.sub_self, List.take_add_one, hk]
  obtain ⟨x, hx⟩ : ∃ x, L[off + k]? = some x := ⟨_, List.getElem?_eq_getElem (by omega)⟩
  have h4 : L.drop (off + k) = x :: L.drop (off + (k + 1)) := by
    obtain ⟨h5, h6⟩ := List.getElem?_eq_some_iff.1 hx
    rw [List.drop_eq_getElem_cons h5, h6]
    rfl
  rw [h4, List.set_cons_zero]
  simp
def PutR (w : World) (g off v : Nat) (L : List Nat) (t : Value) (x : World) : Prop :=
  ∃ k : Nat, k ≤ 4 ∧ t = .int .i64 (k : Int) ∧ x.heap[g]? = some (.cells (byt (splice L off ((be4 v).take k))).toArray 5 (0, 0)) ∧ Below g w x
theorem put_next {x : World} {g off k b o2 : Nat} {L M : List Nat} {t : Int} (hX : x.heap[g]? = some (.cells (byt (splice L off (M.take k))).toArray 5 (0, 0))) (hM : M[k]? = some b) (hl : off + M.length ≤ L.length) (ho : o2 = off + k) (ht : t = (b : Int)) :
    (x.setCell ⟨g, o2, none⟩ (.int .u8 t)).heap[g]? = some (.cells (byt (splice L off (M.take (k + 1)))).toArray 5 (0, 0)) := by
  rw [ho, ht, ← splice_next hM hl]
  exact buf_set hX
theorem splice_nil (L : List Nat) (off : Nat) : splice L off [] = L := by simp [splice]

set_option maxRecDepth 100000 in
set_option maxHeartbeats 2000000 in
theorem putWord_any (w : World) (g off n c v : Nat) (L : List Nat) (hv : v < 4294967296) (hg : w.heap[g]? = some (.cells (byt L).toArray 5 (0, 0))) (hoff : off + 4 ≤ L.length) (hn : 4 ≤ n) (hL : L.length ≤ 1048576) :
    Calls Try.prog 16 #[.slice (some ⟨g, off, none⟩) n c, .int .u32 (v : Int)] w fun e w' => (∃ u, e = .returned u) ∧ w'.heap[g]? = some (.cells (byt (splice L off (be4 v))).toArray 5 (0, 0)) ∧ Below g w w' := by
  have HG := Lib.hid hg
  clear hg
  go_enter Try.func16, Try.ntmps16
  go_wp2
  go_loopw [5] (fun t x => PutR w g off v L t x) (fun t _ => 4 - (intOf t).toNat)
  case atStart => exact ⟨0, by omega, rfl, by rw [List.take_zero, splice_nil]; exact HG.out, Below.refl _ _⟩
  case round =>
    obtain ⟨k, hk, rfl, hX, hB⟩ := hrel
    have hlen : (splice L off ((be4 v).take k)).length = L.length := length_splice _ _ _ (by rw [List.length_take, be4_length]; omega)
    have HX := Lib.hid hX
    have HB := Lib.hid hB
    rcases Nat.lt_or_ge k 4 with h4 | h4
    · obtain ⟨b, hb⟩ : ∃ b, (splice L off ((be4 v).take k))[off + k]? = some b := ⟨_, List.getElem?_eq_getElem (by rw [hlen]; omega)⟩
      have hc := buf_cell hX hb
      have hf := buf_fz (i := off + k) hX
      clear hX hB hb hlen
      have hk4 : k = 0 ∨ k = 1 ∨ k = 2 ∨ k = 3 := by omega
      rcases hk4 with rfl | rfl | rfl | rfl
      all_goals
        try simp only [Nat.add_zero] at hc hf
        go_wp2
        go_roundw
        case rel =>
          first
            | exact ⟨1, by omega, by go_num, put_next (k := 0) (b := v / 16777216 % 256) HX.out rfl hoff rfl (by omega), HB.out.setCell (Nat.le_refl _) _⟩
            | exact ⟨2, by omega, by go_num, put_next (k := 1) (b := v / 65536 % 256) HX.out rfl hoff rfl (by omega), HB.out.setCell (Nat.le_refl _) _⟩
            | exact ⟨3, by omega, by go_num, put_next (k := 2) (b := v / 256 % 256) HX.out rfl hoff rfl (by omega), HB.out.setCell (Nat.le_refl _) _⟩
            | exact ⟨4, by omega, by go_num, put_next (k := 3) (b := v % 256) HX.out rfl hoff rfl (by omega), HB.out.setCell (Nat.le_refl _) _⟩
        case measure => simp [intOf]
    · have hk4 : ¬ (k : Int) < 4 := by omega
      have hk5 : k = 4 := by omega
      have Hk5 := Lib.hid hk5
      clear hX hB hlen hk5 hk h4
      go_wp2
      have hx := HX.out
      rw [Hk5.out] at hx
      exact bodyPost_end (results_none rfl _ _ _) rfl ⟨⟨_, rfl⟩, hx, HB.out⟩

def WordR (w : World) (l : List Nat) (s t : Value) (x : World) : Prop :=
  ∃ k : Nat, k ≤ 4 ∧ t = .int .i64 (k : Int) ∧ s = .int .u32 ((be (l.take k) : Nat) : Int) ∧ x = w
theorem word_step (n b : Nat) (hn : n < 16777216) (hb : b < 256) : bits .or .u32 (n * 256) b = ((256 * n + b : Nat) : Int) := by
  have h := Nat.two_pow_add_eq_or_of_lt (i := 8) (b := b) (by omega) n
  have h2 := u32_or_nat (n * 256) b (by omega) (by omega)
  have e : ((n * 256 : Nat) : Int) = (n : Int) * 256 := by omega
  rw [← e, h2]
  have e2 : n * 256 ||| b = 256 * n + b := by
    rw [Nat.mul_comm n 256]
    exact h.symm
  rw [e2]
set_option maxRecDepth 100000 in
set_option maxHeartbeats 2000000 in
theorem word_any (w : World) (v : Value) (l : List Nat) (hp : Bytes w w.heap.size v l) (h4 : 4 ≤ l.length) :
    Calls Try.prog 21 #[v] w fun e w' => e = .returned (.int .u32 ((be (l.take 4) : Nat) : Int)) ∧ w = w' := by
  obtain ⟨⟨A, c, rfl, hlies, _⟩, hsm, hlong⟩ := hp
  unfold maxLen at hlong
  have HL := Lib.hid hlies
  have HS := Lib.hid hsm
  clear hlies hsm
  obtain ⟨n, hn⟩ : ∃ n, n = l.length := ⟨_, rfl⟩
  rw [← hn] at hlong h4 ⊢
  have HN := Lib.hid hn
  clear hn
  go_enter Try.func21, Try.ntmps21
  go_wp2
  go_loopw [3, 5] (fun s t x => WordR w l s t x) (fun _ t _ => 4 - (intOf t).toNat)
  case atStart => exact ⟨0, by omega, rfl, rfl, rfl⟩
  case round =>
    obtain ⟨k, hk, rfl, rfl, rfl⟩ := hrel
    by_cases hlt : k < 4
    · obtain ⟨b, hb⟩ : ∃ b, l[k]? = some b := ⟨_, List.getElem?_eq_getElem (by rw [← HN.out]; omega)⟩
      obtain ⟨ad, hA, hbb, hc0⟩ := HL.out k (.int .u8 (b : Int)) (by rw [byt_at, hb]; rfl)
      subst hA
      have hkn : (k : Int) < (n : Int) := by omega
      have hb256 : b < 256 := HS.out b (List.mem_of_getElem? hb)
      obtain ⟨q, hq⟩ : ∃ q, q = be (l.take k) := ⟨_, rfl⟩
      have hq2 : q < 16777216 := by
        have h1 := be_lt (l := l.take k) (fun b hb => HS.out b (List.mem_of_mem_take hb))
        have h2 : (l.take k).length ≤ 3 := by rw [List.length_take]; omega
        have h3 := Nat.pow_le_pow_right (n := 256) (by omega) h2
        omega
      have hnext : 256 * q + b = be (l.take (k + 1)) := by rw [List.take_add_one, hb, hq]; exact (be_snoc _ _).symm
      have HNX := Lib.hid hnext
      have hstep := word_step q b hq2 hb256
      rw [← hq]
      clear hq hnext hb
      go_wp2
      go_roundw
      case rel => exact ⟨k + 1, by omega, by go_num, by rw [← HNX.out]; congr 1, rfl⟩
      case measure => simp [intOf]; omega
    · obtain rfl : k = 4 := by omega
      have hk4 : ¬ ((4 : Nat) : Int) < 4 := by omega
      go_wp2
      go_ret
      exact ⟨rfl, rfl⟩
end Go.Proofs.Ytkdbplfphhfeaaa
