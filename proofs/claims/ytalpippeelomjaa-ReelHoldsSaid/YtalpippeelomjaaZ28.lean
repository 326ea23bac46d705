/- RPage, RVal: joined by program (tools/merge.py). -/
import Derived.Test.YtalpippeelomjaaZ23
import Derived.Test.YtalpippeelomjaaZ13
import Derived.Test.YtalpippeelomjaaZ11
import Derived.Test.YtalpippeelomjaaZ3
namespace Go.Proofs.Ytalpippeelomjaa
open Go.RowKit
set_option linter.unusedSimpArgs false
set_option linter.unusedVariables false
theorem beN_two (n : Nat) : beN 2 n = [n / 256 % 256, n % 256] := by
  simp [beN]
theorem rparts_flat (gen ser num kind : Nat) (d : List Nat) : (rparts gen ser num kind d.length d).flatten = [104, 103] ++ be4 gen ++ be4 ser ++ be4 num ++ [kind, d.length / 256 % 256, d.length % 256] ++ d := by
  unfold rparts
  rw [beN_four, beN_four, beN_four, beN_two]
  simp
theorem rbody_pg {gen ser num kind : Nat} {d : List Nat} (h : d.length ≤ 491) : rbody gen ser num kind d.length d = pg gen ser num kind d := by
  unfold rbody pg
  rw [rparts_flat]
  have hl : ([104, 103] ++ be4 gen ++ be4 ser ++ be4 num ++ [kind, d.length / 256 % 256, d.length % 256] ++ d).length = 17 + d.length := by simp [be4]; omega
  rw [List.take_append, List.take_of_length_le (by rw [hl]; omega), hl, List.take_replicate, show min (508 - (17 + d.length)) 508 = 491 - d.length by omega]
/-- The reference's bytes of a page. -/
theorem refPage_any (w : World) (gen ser num kind : Nat) (A : Option Addr) (n c : Nat) (d : List Nat) (hg : gen < 4294967296) (hs : ser < 4294967296) (hu : num < 4294967296) (hk : kind < 256) (hd : Bytes w w.heap.size (.slice A n c) d) (hn : n ≤ 491) (hnd : n = d.length) (hds : ∀ b ∈ d, b < 256) :
    Calls Try.prog 30 #[.agg #[.int .u32 (gen : Int), .int .u32 (ser : Int), .int .u32 (num : Int), .int .u8 (kind : Int), .slice A n c]] w fun e w' => ∃ A2 n2 c2, e = .returned (.slice A2 n2 c2) ∧ Mine w' w.heap.size A2 n2 c2 (page gen ser num kind d) ∧ Below w.heap.size w w' := by
  have h := refBytes_any w gen ser num kind A n c d hg hs hu hk hd hn hnd hds
  subst hnd
  rw [rbody_pg hn] at h
  exact h
end Go.Proofs.Ytalpippeelomjaa
namespace Go.Proofs.Ytalpippeelomjaa
open Go.RowKit
set_option linter.unusedSimpArgs false
set_option linter.unusedVariables false
def ValR (w : World) (n : Nat) (l : List Nat) (s t : Value) (x : World) : Prop :=
  ∃ k q : Nat, k ≤ n ∧ t = .int .i64 (k : Int) ∧ q = be (l.take k) ∧ s = .int .u64 (q : Int) ∧ x = w
theorem be_take_lt {l : List Nat} (hs : ∀ b ∈ l, b < 256) {k : Nat} (hk : k ≤ 7) : be (l.take k) < 72057594037927936 := by
  have h1 := be_lt (l := l.take k) (fun b hb => hs b (List.mem_of_mem_take hb))
  have h2 : (l.take k).length ≤ 7 := by rw [List.length_take]; omega
  have h3 := Nat.pow_le_pow_right (n := 256) (by omega) h2
  omega
set_option maxRecDepth 100000 in
set_option maxHeartbeats 2000000 in
theorem value_any (w : World) (v : Value) (l : List Nat) (hp : Bytes w w.heap.size v l) (h8 : l.length ≤ 8) :
    Calls Try.prog 56 #[v] w fun e w' => e = .returned (.int .u64 ((be l : Nat) : Int)) ∧ w = w' := by
  obtain ⟨⟨A, c, rfl, hlies, _⟩, hsm, hlong⟩ := hp
  unfold maxLen at hlong
  have HL := Lib.hid hlies
  have HS := Lib.hid hsm
  clear hlies hsm
  obtain ⟨n, hn⟩ : ∃ n, n = l.length := ⟨_, rfl⟩
  rw [← hn] at hlong h8 ⊢
  have HN := Lib.hid hn
  clear hn
  go_enter Try.func56, Try.ntmps56
  go_wp2
  go_loopw [3, 8] (fun s t x => ValR w n l s t x) (fun _ t _ => n - (intOf t).toNat)
  case atStart => exact ⟨0, 0, by omega, rfl, rfl, rfl, rfl⟩
  case round =>
    obtain ⟨k, q, hk, rfl, hq, rfl, rfl⟩ := hrel
    by_cases hlt : k < n
    · obtain ⟨b, hb⟩ : ∃ b, l[k]? = some b := ⟨_, List.getElem?_eq_getElem (by rw [← HN.out]; omega)⟩
      obtain ⟨ad, hA, hbb, hc0⟩ := HL.out k (.int .u8 (b : Int)) (by rw [byt_at, hb]; rfl)
      subst hA
      have hb256 : b < 256 := HS.out b (List.mem_of_getElem? hb)
      have hq2 : q < 72057594037927936 := by rw [hq]; exact be_take_lt HS.out (by omega)
      have hnext : 256 * q + b = be (l.take (k + 1)) := by rw [List.take_add_one, hb, hq]; exact (be_snoc _ _).symm
      have HNX := Lib.hid hnext
      clear hq hnext hb
      go_wp2
      go_roundw
      case rel => exact ⟨k + 1, 256 * q + b, by omega, by go_num, HNX.out, by go_num, rfl⟩
      case measure => simp [intOf]; omega
    · have hall : be (l.take k) = be l := by rw [List.take_of_length_le (by rw [← HN.out]; omega)]
      rw [hall] at hq
      have HQ := Lib.hid hq
      clear hq hall
      go_wp2
      go_ret
      exact ⟨congrArg (fun x : Nat => Ending.returned (.int .u64 (x : Int))) HQ.out, rfl⟩
end Go.Proofs.Ytalpippeelomjaa
