/- Contracts: what a table's Seal answers: the text with its sum behind it, the lowest byte first, in memory of its own. Of texts of at most a million bytes. -/
import Derived.Test.YtkdbplfphhfeaaaLaw
namespace Go.Proofs.Ytkdbplfphhfeaaa
open Go.RowKit

/-- A sum's four bytes, the lowest first. -/
def le4 (s : Nat) : List Nat := [s % 256, s / 256 % 256, s / 65536 % 256, s / 16777216 % 256]
theorem le4_small (s : Nat) : ∀ b ∈ le4 s, b < 256 := by
  intro b hb
  simp [le4] at hb
  omega
theorem le4_next (s k : Nat) (hk : k < 4) : (le4 s).take (k + 1) = (le4 s).take k ++ [s / 2 ^ (8 * k) % 256] := by
  match k, hk with
  | 0, _ => simp [le4]
  | 1, _ => simp [le4]
  | 2, _ => simp [le4]
  | 3, _ => simp [le4]

theorem crc_lt (l : List Nat) : crc l < 4294967296 := by unfold crc; omega
def SealR (w : World) (l : List Nat) (s : Nat) (v i : Value) (wr : World) : Prop :=
  ∃ k : Nat, k ≤ 4 ∧ i = .int .i64 (k : Int) ∧ Own wr (w.heap.size + 1) v (l ++ (le4 s).take k) ∧ Below w.heap.size w wr
theorem seal_next {w : World} {base N k s : Nat} {v : Value} {l : List Nat} (hk : k < 4)
    (h : w.ownsRow base 5 1 v N (byt (l ++ (le4 s).take k) ++ [.int .u8 ((s : Int) / 2 ^ (8 * k) % 256)])) : Own w base v (l ++ (le4 s).take (k + 1)) := by
  have e : byt (l ++ (le4 s).take k) ++ [.int .u8 ((s : Int) / 2 ^ (8 * k) % 256)] = byt (l ++ (le4 s).take (k + 1)) := by
    rw [le4_next s k hk, ← List.append_assoc, byt_append (l ++ (le4 s).take k)]
    congr 1
  rw [e] at h
  exact own_of_row h
theorem own_lower {w : World} {base base' : Nat} {v : Value} {l : List Nat} (h : Own w base v l) (hb : base' ≤ base) : Own w base' v l := by
  obtain ⟨hl, hv⟩ := id h
  refine ⟨hl, ?_⟩
  rcases hv with hv | ⟨g, cap, cur, rfl, h1, h2⟩
  · exact .inl hv
  · exact .inr ⟨g, cap, cur, rfl, Nat.le_trans hb h1, h2⟩

set_option maxRecDepth 100000 in
set_option maxHeartbeats 1000000 in
theorem seal_core {C : List Value} (hC : Table C) (w : World) (A : Option Addr) (n c : Nat) (l : List Nat) (hp : Bytes w w.heap.size (.slice A n c) l) (hlong : l.length ≤ 1048576) :
    Calls Try.prog 18 #[.agg C.toArray, .slice A n c] w fun e w' => ∃ u, e = .returned u ∧ Own w' w.heap.size u (l ++ le4 (crc l)) ∧ Below w.heap.size w w' := by
  obtain ⟨i0, hi0, hz0, hz1, hz2⟩ := info_parts infoByte
  have hn : n = l.length := by
    obtain ⟨⟨A1, c1, hv, _⟩, _, _⟩ := hp
    injection hv
  have hn3 : n ≤ 1048576 := by omega
  have HN := Lib.hid hn
  have HI := Lib.hid hi0
  have H0 := Lib.hid hz0
  have H1 := Lib.hid hz1
  have H2 := Lib.hid hz2
  have hR := range_new w C 45
  have hP : Bytes (w.alloc (.cells C.toArray 45)) w.heap.size (.slice A n c) l := hp.below ((Below.refl _ _).alloc (Nat.le_refl _) _)
  have hbW : Below w.heap.size w (w.alloc (.cells C.toArray 45)) := (Below.refl _ _).alloc (Nat.le_refl _) _
  have HP := Lib.hid hP
  have HR := Lib.hid hR
  have HbW := Lib.hid hbW
  have hund := Lib.hid tabL_under
  have hC2 := hC
  clear hn hi0 hz0 hz1 hz2 hp hR hP hbW
  go_enter Try.func18, Try.ntmps18
  go_wp2_with (at_make; refine wpList_make_own _ rfl _ _ 23 rfl (w.heap.size + 1) 5 i0 (.int .u8 0) 1 Try.underlying23 HI.out H0.out H1.out _ _ _ (n + 4) rfl rfl (by omega) ?b1 ?b2 ?b3 ?_)
  case b1 => rw [H2.out]; omega
  case b2 => unfold maxLen; omega
  case b3 => simp
  intro w1 hown1 hg1
  have hb1 : Below (w.heap.size + 1) (w.alloc (.cells C.toArray 45)) w1 := (Below.refl _ _).grown hg1 (by simp) (fun _ h => by cases h)
  have HR1 := Lib.hid (range_below HR.out hb1 (by omega))
  have HP1 := Lib.hid (HP.out.below (hb1.mono (by omega)))
  have HB1 := Lib.hid (HbW.out.trans (hb1.mono (by omega)))
  have HS1 : w.heap.size + 1 ≤ w1.heap.size := by have := hb1.size; simpa using this
  clear HR HP HbW hb1 hg1
  go_wp2_with (at_builtin; refine wpList_append_bytes rfl _ _ 23 rfl (w.heap.size + 1) 5 i0 (.int .u8 0) Try.underlying23 HI.out H0.out H1.out H2.out rfl _ 0 [] rfl hown1 A n c w.heap.size l rfl HP1.out ?d3 HS1 ?_)
  case d3 => omega
  intro v2 w2 hown2 hg2
  have hb2 := (Below.refl (w.heap.size + 1) w1).grown hg2 HS1 (fun g hg => (World.ownsRow.lt hown1 g hg).1)
  have HR2 := range_below HR1.out hb2 (by omega)
  have HP2 := HP1.out.below (hb2.mono (by omega))
  have HB2 := HB1.out.trans (hb2.mono (by omega))
  have HS2 : w.heap.size + 1 ≤ w2.heap.size := Nat.le_trans HS1 hb2.size
  have HO2 := Lib.hid (own_of_row hown2)
  clear hown2 hown1 hg2 hb2 HR1 HP1 HB1
  have HPA := Lib.hid ((HP2.below ((Below.refl _ _).alloc (Nat.le_trans (by omega) HS2) (.cells #[.slice A n c] 23))))
  have HSA : w.heap.size ≤ (w2.alloc (.cells #[.slice A n c] 23)).heap.size := by simp; omega
  go_wp2_with (first
    | refine wpList_load_mid rfl 45 _ rfl w.heap.size 0 rfl C _ HR2 hund.out rfl hC2.info ?_
    | (go_at_call 25; (with_reducible refine (sum_one (v := .slice A n c) (q := l) (B := w.heap.size) hC2 (Go.heap_alloc_new w2 _) HPA.out HSA).mono ?_); rintro e w' ⟨rfl, rfl⟩))
  have hO3 : Own ((w2.alloc (.cells #[.slice A n c] 23)).alloc (.cells C.toArray 45)) (w.heap.size + 1) v2 l := World.ownsRow.alloc (World.ownsRow.alloc HO2.out _) _
  have hB3 : Below w.heap.size w ((w2.alloc (.cells #[.slice A n c] 23)).alloc (.cells C.toArray 45)) := (HB2.alloc (by omega) _).alloc HSA _
  have HO3 := Lib.hid hO3
  have HB3 := Lib.hid hB3
  have hs := crc_lt l
  clear HB2 hO3 hB3 HR2 HP2 HPA HSA HO2 HS2 HS1 hC2
  obtain ⟨s, hs2⟩ : ∃ s, s = crc l := ⟨_, rfl⟩
  rw [← hs2] at hs ⊢
  have HSC := Lib.hid hs2
  clear hs2
  go_loopw [5, 19] (fun v i wr => SealR w l s v i wr) (fun _ i _ => 4 - (intOf i).toNat)
  case atStart => exact ⟨0, by omega, rfl, by rw [List.take_zero, List.append_nil]; exact HO3.out, HB3.out⟩
  case round =>
    obtain ⟨k, hk, rfl, hown, hb⟩ := hrel
    by_cases hlt : k < 4
    · go_wp2_with (at_builtin; refine wpList_append_own _ rfl _ _ 23 rfl (w.heap.size + 1) 5 i0 (.int .u8 0) 1 1 Try.underlying23 HI.out H0.out H1.out H2.out rfl (by decide) _ _ _ rfl (World.ownsRow.alloc hown _) ⟨_, 0, none⟩ 1 1 [.int .u8 ((s : Int) / 2 ^ (8 * k) % 256)] rfl rfl ?c1 ?c2 ?c3 ?c4 ?c5 ?_)
      case c1 => exact cell_one_new _ _
      case c2 => simp [Value.oneCell']
      case c3 => rw [List.length_append, List.length_take]; unfold maxLen; omega
      case c4 => rw [List.length_append, List.length_take]; omega
      case c5 => have := (World.ownsRow.alloc hown (.cells #[.int .u8 ((s : Int) / 2 ^ (8 * k) % 256)] 5)); have := hb.size; simp; omega
      intro v' w1 hown1 hg1 _
      have hbel := (hb.alloc hb.size _).grown hg1 (by have := hb.size; simp; omega) (fun g hg => by have := (World.ownsRow.lt hown g hg).1; omega)
      have HO2 := Lib.hid (seal_next hlt hown1)
      have HB := Lib.hid hbel
      clear hown1 hbel hg1 hown hb
      go_wp2
      go_roundw
      case rel => exact ⟨k + 1, by omega, by go_num, HO2.out, HB.out⟩
      case measure => simp [intOf]; omega
    · go_wp2
      go_ret
      refine ⟨_, rfl, ?_, hb⟩
      obtain rfl : k = 4 := by omega
      rw [← HSC.out]
      exact own_lower hown (by omega)
theorem seal_any {C : List Value} (hC : Table C) (w : World) (A : Option Addr) (n c : Nat) (l : List Nat) (hp : Bytes w w.heap.size (.slice A n c) l) (hlong : l.length ≤ 1048576) :
    Calls Try.prog 18 #[.agg C.toArray, .slice A n c] w fun e w' => ∃ A2 n2 c2, e = .returned (.slice A2 n2 c2) ∧ Mine w' w.heap.size A2 n2 c2 (l ++ le4 (crc l)) ∧ Below w.heap.size w w' :=
  (seal_core hC w A n c l hp hlong).mono fun e w' ⟨u, he, ho, hb⟩ => by
    obtain ⟨A2, n2, c2, rfl, hM⟩ := Mine.of_own ho (fun b hb => by
      rcases List.mem_append.1 hb with h | h
      · exact hp.small b h
      · exact le4_small _ b h)
    exact ⟨A2, n2, c2, he, hM, hb⟩
end Go.Proofs.Ytkdbplfphhfeaaa
