/- Awake, RefSum: joined by program (tools/merge.py). -/
import Derived.Test.YtalpippeelomjaaZ2
import Derived.Lib.SlBytesConst
import Derived.Test.YtalpippeelomjaaZ1
import Derived.Laws.Bits64
namespace Go.Proofs.Ytalpippeelomjaa
open Go.RowKit

theorem lies_block {w : World} {B g : Nat} {cs : Array Value} {t : TypeId} {fr : Nat × Nat} (hb : w.heap[g]? = some (.cells cs t fr)) (hB : g < B) : Lies w B (some ⟨g, 0, none⟩) cs.toList := fun j v hj => by
  refine ⟨⟨g, 0, none⟩, rfl, hB, ?_⟩
  have h1 : (⟨g, 0, none⟩ : Addr).add j = ⟨g, j, none⟩ := by
    unfold Addr.add
    split
    · simp_all
    · simp
  rw [h1, cell_of_row w g j cs t fr hb]
  simpa using hj

/-- The slice value that a block known whole makes. -/
theorem bytes_block {w : World} {B g : Nat} {l : List Nat} {n c : Nat} {fr : Nat × Nat} (hb : w.heap[g]? = some (.cells (byt l).toArray 5 fr)) (hB : g < B) (hn : n = l.length) (hc : n ≤ c) (hs : ∀ b ∈ l, b < 256) (hl : l.length ≤ maxLen) :
    Bytes w B (.slice (some ⟨g, 0, none⟩) n c) l := by
  subst hn
  have h := lies_block (B := B) hb hB
  simp only [] at h
  exact ⟨⟨_, c, rfl, h, hc, fun h => by cases h⟩, hs, hl⟩

/-- A list of slices in a block known whole. -/
theorem parts_block {w : World} {B g : Nat} {vs : Array Value} {t : TypeId} {ls : List (List Nat)} {n c : Nat} (hb : w.heap[g]? = some (.cells vs t (0, 0))) (hB : g < B) (hn : n = ls.length) (hv : vs.size = ls.length)
    (hall : ∀ (j : Nat) (u : Value) (l : List Nat), vs[j]? = some u → ls[j]? = some l → Bytes w B u l) (hl : ls.length ≤ maxLen) :
    Parts w B (.slice (some ⟨g, 0, none⟩) n c) ls := by
  subst hn
  exact ⟨⟨_, c, vs.toList, rfl, by simpa using hv, lies_block hb hB, fun j u l h1 h2 => hall j u l (by simpa using h1) h2⟩, hl⟩
end Go.Proofs.Ytalpippeelomjaa
namespace Go.Proofs.Ytalpippeelomjaa
open Go.RowKit

def RefOut (n : Nat) (l : List Nat) (st i : Value) : Prop :=
  ∃ k s : Nat, k ≤ n ∧ i = .int .i64 (k : Int) ∧ st = .int .u64 (s : Int) ∧ s < 4294967296 ∧ s = reg 4294967295 (l.take k)
def RefIn (s b : Nat) (st i : Value) : Prop :=
  ∃ j : Nat, j ≤ 8 ∧ i = .int .i64 (j : Int) ∧ st = .int .u64 ((mix s b j : Nat) : Int)

theorem bit_of {s b j : Nat} (hb : b < 256) (c : Bool) (h : ((IntKind.u64.wrap (((mix s b j : Nat) : Int) % 2 + (b : Int) / 2 ^ j)).tmod 2 == 1) = c) : decide ((mix s b j % 2 + b / 2 ^ j) % 2 = 1) = c := by
  have e : ((mix s b j : Nat) : Int) % 2 + (b : Int) / 2 ^ j = ((mix s b j % 2 + b / 2 ^ j : Nat) : Int) := by
    have h2 : (b : Int) / 2 ^ j = ((b / 2 ^ j : Nat) : Int) := by simp
    rw [h2]
    omega
  have hd := Nat.div_le_self b (2 ^ j)
  rw [e] at h
  clear e
  generalize b / 2 ^ j = q at h hd ⊢
  rw [IntKind.wrap_u64, Int.emod_eq_of_lt (by omega) (by omega), Int.tmod_eq_emod_of_nonneg (by omega)] at h
  rw [← h, Bool.eq_iff_iff]
  simp
  omega
theorem refIn_yes {s b j : Nat} (hj : j < 8) (hm : mix s b j < 4294967296) (hb : b < 256) (h : ((IntKind.u64.wrap (((mix s b j : Nat) : Int) % 2 + (b : Int) / 2 ^ j)).tmod 2 == 1) = true) :
    RefIn s b (.int .u64 (bits .xor .u64 (((mix s b j : Nat) : Int) / 2) 3988292384)) (.int .i64 ((j : Int) + 1)) := by
  refine ⟨j + 1, by omega, by go_num, ?_⟩
  rw [mix_one s b j (of_decide_eq_true (bit_of hb true h)), ← bits_xor_u64_nat _ _ (by omega) (by omega)]
  rw [show ((mix s b j : Nat) : Int) / 2 = ((mix s b j / 2 : Nat) : Int) by omega]
  rfl
theorem refIn_no {s b j : Nat} (hj : j < 8) (hb : b < 256) (h : ((IntKind.u64.wrap (((mix s b j : Nat) : Int) % 2 + (b : Int) / 2 ^ j)).tmod 2 == 1) = false) :
    RefIn s b (.int .u64 (((mix s b j : Nat) : Int) / 2)) (.int .i64 ((j : Int) + 1)) := by
  refine ⟨j + 1, by omega, by go_num, ?_⟩
  rw [mix_nought s b j (of_decide_eq_false (bit_of hb false h)), show ((mix s b j : Nat) : Int) / 2 = ((mix s b j / 2 : Nat) : Int) by omega]
theorem refOut_next {n k s b j : Nat} {l : List Nat} (hk : k < n) (hs : s < 4294967296) (hb : b < 256) (hl : l[k]? = some b) (hr : s = reg 4294967295 (l.take k)) (hj : j ≤ 8) (h8 : ¬ j < 8) :
    RefOut n l (.int .u64 ((mix s b j : Nat) : Int)) (.int .i64 ((k : Int) + 1)) := by
  obtain rfl : j = 8 := by omega
  rw [mix_eight s b hb]
  refine ⟨k + 1, stp s b, by omega, by go_num, rfl, stp_lt hs hb, ?_⟩
  rw [List.take_add_one, hl, reg_append, ← hr]
  rfl

set_option maxRecDepth 100000 in
set_option maxHeartbeats 1000000 in
theorem refSum_any (w : World) (v : Value) (l : List Nat) (hp : Bytes w w.heap.size v l) :
    Calls Try.prog 83 #[v] w fun e w' => e = .returned (.int .u32 (crc l : Int)) ∧ w = w' := by
  obtain ⟨⟨A, c, rfl, hlies, _⟩, hsm, hlong⟩ := hp
  unfold maxLen at hlong
  have HL := Lib.hid hlies
  have HS := Lib.hid hsm
  clear hlies hsm
  obtain ⟨n, hn⟩ : ∃ n, n = l.length := ⟨_, rfl⟩
  rw [← hn] at hlong ⊢
  have HN := Lib.hid hn
  clear hn
  go_enter Try.func83, Try.ntmps83
  go_wp2
  go_loop [3, 10] (fun st i => RefOut n l st i) (fun _ i => n - (intOf i).toNat)
  case atStart => exact ⟨0, 4294967295, by omega, rfl, rfl, by omega, rfl⟩
  case round =>
    obtain ⟨k, s, hk, rfl, rfl, hs, hreg⟩ := hrel
    have HR := Lib.hid hreg
    clear hreg
    by_cases hlt : k < n
    · obtain ⟨b, hb1⟩ : ∃ b, l[k]? = some b := ⟨_, List.getElem?_eq_getElem (by rw [← HN.out]; exact hlt)⟩
      have hb2 : b < 256 := HS.out b (List.mem_of_getElem? hb1)
      obtain ⟨ad, hA, hbb, hc⟩ := HL.out k (.int .u8 (b : Int)) (by rw [byt_at, hb1]; rfl)
      subst hA
      have Hb1 := Lib.hid hb1
      clear hb1 hbb
      go_wp2
      go_loop [3, 6] (fun st i => RefIn s b st i) (fun _ i => 8 - (intOf i).toNat)
      case atStart => exact ⟨0, by omega, rfl, by rw [mix_zero]⟩
      case round =>
        obtain ⟨j, hj, rfl, rfl⟩ := hrel
        have hm := mix_lt (s := s) (b := b) j hs hb2
        by_cases hjl : j < 8
        · go_wp2
          all_goals
            go_round
            case rel => first | exact refIn_yes hjl hm hb2 ‹_› | exact refIn_no hjl hb2 ‹_›
            case measure => simp [intOf]; omega
        · go_wp2
          go_round
          case rel => exact refOut_next hlt hs hb2 Hb1.out HR.out hj hjl
          case measure => simp [intOf]; omega
    · go_wp2
      go_ret
      refine ⟨ret_u32 ?_, rfl⟩
      obtain rfl : k = n := by omega
      unfold crc
      rw [← List.take_length (l := l), ← HN.out, ← HR.out]
      omega
end Go.Proofs.Ytalpippeelomjaa
