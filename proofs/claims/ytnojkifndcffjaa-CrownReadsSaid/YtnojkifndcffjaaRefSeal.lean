/- Contracts: what the reference's low, Seal and Open answer. Of texts of at most a million bytes. -/
import Derived.Test.YtnojkifndcffjaaOpen
namespace Go.Proofs.Ytnojkifndcffjaa
open Go.RowKit

theorem low_any (w : World) (s : Nat) (h : s < 4294967296) :
    Calls Try.prog 43 #[.int .u32 (s : Int)] w fun e w' => e = .returned (.slice (some ⟨w.heap.size, 0, none⟩) 4 4) ∧ w' = w.alloc (.cells (byt (le4 s)).toArray 5) := by
  go_enter Try.func43, Try.ntmps43
  go_wp2
  go_ret
  refine ⟨rfl, ?_⟩
  have e : (s : Int) / 16777216 = (s : Int) / 16777216 % 256 := by omega
  rw [e]
  simp [byt, le4]
/-- Two slices behind one another, joined. -/
theorem parts_two {y : World} {v u : Value} {l1 l2 : List Nat} {B gx : Nat} (hy : y.heap[gx]? = some (.cells #[v, u] 25 (0, 0))) (h : Bytes y B v l1) (h2 : Bytes y B u l2) (hB : B ≤ y.heap.size) :
    Parts y y.heap.size (.slice (some ⟨gx, 0, none⟩) 2 2) [l1, l2] := by
  refine parts_block hy ?_ rfl rfl ?_ (by unfold maxLen; simp)
  · rcases Nat.lt_or_ge gx y.heap.size with h1 | h1
    · exact h1
    · rw [Array.getElem?_eq_none h1] at hy; cases hy
  intro j u l h1 h3
  match j, h1, h3 with
  | 0, h1, h3 =>
    simp at h1 h3
    subst h1 h3
    exact h.up hB
  | 1, h1, h3 =>
    simp at h1 h3
    subst h1 h3
    exact h2.up hB
  | j + 2, h1, h3 => simp at h1
theorem unhide {p : Prop} (h : Hid p) : p := h
theorem hide {p : Prop} (h : p) : Hid p := h
theorem Mine.lower {w : World} {base base' n c : Nat} {A : Option Addr} {l : List Nat} (h : Mine w base A n c l) (hb : base' ≤ base) : Mine w base' A n c l := by
  have h1 := h.own
  have hl := h.len
  subst hl
  exact ⟨own_lower (l := l) h1 hb, rfl, h.small⟩
theorem seal_small {l : List Nat} (h : ∀ b ∈ l, b < 256) : ∀ b ∈ l ++ le4 (crc l), b < 256 := fun b hb => by
  rcases List.mem_append.1 hb with h1 | h1
  · exact h b h1
  · exact le4_small _ b h1
theorem le4_length (s : Nat) : (le4 s).length = 4 := rfl
/-- What low leaves, read as bytes. -/
theorem low_bytes (w : World) (s : Nat) : Bytes (w.alloc (.cells (byt (le4 s)).toArray 5)) (w.heap.size + 1) (.slice (some ⟨w.heap.size, 0, none⟩) 4 4) (le4 s) :=
  bytes_block (Go.heap_alloc_new w _) (by omega) rfl (by omega) (le4_small s) (by rw [le4_length]; unfold maxLen; omega)

set_option maxRecDepth 100000 in
set_option maxHeartbeats 1000000 in
theorem refSeal_any (w : World) (A : Option Addr) (n c : Nat) (l : List Nat) (hp : Bytes w w.heap.size (.slice A n c) l) (hlong : l.length ≤ 1048000) :
    Calls Try.prog 31 #[.slice A n c] w fun e w' => ∃ A2 n2 c2, e = .returned (.slice A2 n2 c2) ∧ Mine w' w.heap.size A2 n2 c2 (l ++ le4 (crc l)) ∧ Below w.heap.size w w' := by
  have hcr := crc_lt l
  have HP := Lib.hid hp
  clear hp
  obtain ⟨L, hL⟩ : ∃ L, L = w.alloc (.cells (byt (le4 (crc l))).toArray 5) := ⟨_, rfl⟩
  have hLs : L.heap.size = w.heap.size + 1 := by rw [hL]; simp
  have hbL : Below w.heap.size w L := by rw [hL]; exact (Below.refl _ _).alloc (Nat.le_refl _) _
  have hLB : Bytes L (w.heap.size + 1) (.slice (some ⟨w.heap.size, 0, none⟩) 4 4) (le4 (crc l)) := by rw [hL]; exact low_bytes w (crc l)
  have h1 := (Below.refl (w.heap.size + 1) L).alloc (by omega) (.cells #[.slice A n c, .slice (some ⟨w.heap.size, 0, none⟩) 4 4] 25)
  have hPP : Parts (L.alloc (.cells #[.slice A n c, .slice (some ⟨w.heap.size, 0, none⟩) 4 4] 25)) (L.alloc (.cells #[.slice A n c, .slice (some ⟨w.heap.size, 0, none⟩) 4 4] 25)).heap.size (.slice (some ⟨L.heap.size, 0, none⟩) 2 2) [l, le4 (crc l)] :=
    parts_two (B := w.heap.size + 1) (Go.heap_alloc_new L _) (((HP.out.below hbL).up (by omega)).below h1) (hLB.below h1) (by simp; omega)
  have e : [l, le4 (crc l)].flatten = l ++ le4 (crc l) := by simp
  have hJ := join_mine _ _ _ hPP (by rw [e]; exact seal_small HP.out.small) (by rw [e, List.length_append, le4_length]; omega)
  rw [e] at hJ
  have HJ := hide hJ
  have HbL := Lib.hid hbL
  have HLs := Lib.hid (Nat.le_of_eq hLs.symm)
  have HL := Lib.hid hL
  clear hLs hbL hLB h1 hPP e hJ hL
  go_enter Try.func31, Try.ntmps31
  go_wp2_with (first
    | (go_at_call 44; (with_reducible refine (refSum_any w _ l HP.out).mono ?_); rintro e w' ⟨rfl, rfl⟩)
    | (go_at_call 43; (with_reducible refine (low_any _ _ hcr).mono ?_); rintro e w' ⟨rfl, hw'⟩; obtain rfl := hw'.trans HL.out.symm; clear hw')
    | (go_at_call 29; (with_reducible refine (unhide HJ).mono ?_); rintro e w2 ⟨A2, n2, c2, rfl, hM, hb⟩))
  go_ret
  have hs : w.heap.size ≤ (w'.alloc (.cells #[.slice A n c, .slice (some ⟨w.heap.size, 0, none⟩) 4 4] 25)).heap.size := by have := HbL.out.size; simp; omega
  exact ⟨A2, n2, c2, rfl, hM.lower hs, (HbL.out.alloc HbL.out.size _).trans (hb.mono hs)⟩

theorem refOpen_short (w : World) (A : Option Addr) (n c : Nat) (hn : n < 4) :
    Calls Try.prog 48 #[.slice A n c] w fun e w' => e = .returned (.bool false) ∧ Below w.heap.size w w' := by
  have hd : decide ((n : Int) - 4 ≥ 0) = false := by simp; omega
  have hd2 : decide ((0 : Int) ≤ (n : Int) - 4) = false := by simp; omega
  have hd3 : decide ((4 : Int) ≤ (n : Int)) = false := by simp; omega
  have hd4 : ¬ (4 : Int) ≤ (n : Int) := by omega
  go_enter Try.func48, Try.ntmps48
  go_wp2
  go_quiet (fail)
  go_wp2
  go_ret
  exact ⟨rfl, below_drewN (Below.refl _ _) _⟩

def OpenSays (w : World) (b : Bool) (e : Ending) (w' : World) : Prop := e = .returned (.bool b) ∧ Below w.heap.size w w'

set_option maxRecDepth 100000 in
set_option maxHeartbeats 1000000 in
theorem refOpen_core (w : World) (A : Option Addr) (n m c : Nat) (l : List Nat) (hp : Bytes w w.heap.size (.slice A n c) l) (hm : n = m + 4) (hlong : n ≤ 1048576) :
    Calls Try.prog 48 #[.slice A n c] w (OpenSays w (decide (l.drop m = le4 (crc (l.take m))))) := by
  have hmc : m + 4 ≤ c := by have := hp.cap; omega
  have h1 := hp.first (k := m) (by omega)
  have h2 := hp.rest (k := m) (by omega)
  have hnm : n - m = 4 := by omega
  have hcm : ¬ c = m := by omega
  rw [if_neg hcm, hnm] at h2
  have hn4 : (n : Int) - 4 = (m : Int) := by omega
  have h0m : (0 : Int) ≤ (m : Int) := by omega
  have hmc2 : (m : Int) ≤ (c : Int) := by omega
  have hmn2 : (m : Int) ≤ (n : Int) := by omega
  obtain ⟨bd, hbd⟩ : ∃ bd, bd = l.take m := ⟨_, rfl⟩
  obtain ⟨d, hd⟩ : ∃ d, d = l.drop m := ⟨_, rfl⟩
  rw [← hbd] at h1 ⊢
  rw [← hd] at h2 ⊢
  have H1 := Lib.hid h1
  have H2 := Lib.hid h2
  have hcr := crc_lt bd
  have hbA : Below w.heap.size w (w.alloc (.cells (byt (le4 (crc bd))).toArray 5)) := (Below.refl _ _).alloc (Nat.le_refl _) _
  have HY1 : Hid (Bytes (w.alloc (.cells (byt (le4 (crc bd))).toArray 5)).drew (w.alloc (.cells (byt (le4 (crc bd))).toArray 5)).drew.heap.size (.slice (Option.map (fun a => a.add m) A) 4 (c - m)) d) :=
    ((h2.below hbA).up hbA.size).of_cells fun _ _ => rfl
  have HY2 : Hid (Bytes (w.alloc (.cells (byt (le4 (crc bd))).toArray 5)).drew (w.alloc (.cells (byt (le4 (crc bd))).toArray 5)).drew.heap.size (.slice (some ⟨w.heap.size, 0, none⟩) 4 4) (le4 (crc bd))) :=
    ((low_bytes w (crc bd)).up (by simp [World.drew])).of_cells fun _ _ => rfl
  clear hbd hd h1 h2 hp hm hbA
  go_enter Try.func48, Try.ntmps48
  go_wp2
  go_region_held3 (fun w' => Below w.heap.size w w')
    (first
      | exact (Below.refl _ _).drew
      | exact (by assumption : Below _ _ _)
      | exact Below.alloc (by assumption) (Below.size (by assumption)) _
      | exact below_drewN ((Below.refl _ _).alloc (Nat.le_refl _) _) _
      | exact below_drewN (by assumption) _)
    ((first
      | ((go_at_call 44)
         (with_reducible refine (refSum_any _ _ bd ((H1.out.below (by assumption)).up (Below.size (by assumption)))).mono ?_)
         rintro e w' ⟨rfl, rfl⟩)
      | ((go_at_call 43)
         (with_reducible refine (low_any _ _ hcr).mono ?_)
         rintro e w' ⟨rfl, rfl⟩)
      | ((go_at_call 24)
         (with_reducible refine (same_any _ _ _ d (le4 (crc bd)) HY1.out HY2.out).mono ?_)
         rintro e w' ⟨rfl, nq, rfl⟩)))
  go_wp2
  go_ret
  exact ⟨rfl, below_drewN ((Below.refl _ _).alloc (Nat.le_refl _) _) _⟩
theorem same_yes (w : World) (v u : Value) (l : List Nat) (hp : Bytes w w.heap.size v l) (hq : Bytes w w.heap.size u l) : Calls Try.prog 24 #[v, u] w (Quietly w (.bool true)) := by
  have h := same_any w v u l l hp hq
  have e : decide (l = l) = true := decide_eq_true rfl
  rw [e] at h
  exact h
theorem Bytes.along {w w' : World} {v : Value} {l : List Nat} (h : Bytes w w.heap.size v l) (hb : Below w.heap.size w w') : Bytes w' w'.heap.size v l := (h.below hb).up hb.size
theorem Bytes.quiet {w : World} {v : Value} {l : List Nat} (h : Bytes w w.heap.size v l) (k : Nat) : Bytes (w.drewN k) (w.drewN k).heap.size v l := h.of_cells fun _ _ => rfl
theorem below_on {a w w' : World} (h : Below a.heap.size a w) (k : Below w.heap.size w w') : Below a.heap.size a w' := h.trans (k.mono h.size)
end Go.Proofs.Ytnojkifndcffjaa
