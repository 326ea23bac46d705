/- The reference's bytes of a page are the page's own. -/
import Derived.Test.YtnojkifndcffjaaRBytes
import Derived.Test.YtnojkifndcffjaaPages
namespace Go.Proofs.Ytnojkifndcffjaa
open Go.RowKit
set_option linter.unusedSimpArgs false
set_option linter.unusedVariables false
theorem beN_two (n : Nat) : beN 2 n = [n / 256 % 256, n % 256] := by
  simp [beN]
theorem rparts_flat (gen ser num kind : Nat) (d : List Nat) : (rparts gen ser num kind d.length d).flatten = [104, 103] ++ be4 gen ++ be4 ser ++ be4 num ++ [kind, d.length / 256 % 256, d.length % 256] ++ d := by
  unfold rparts
  rw [beN_four, beN_four, beN_four, beN_two]
  simp
theorem rbody_pg {gen ser num kind : Nat} {d : List Nat} (h : d.length ≤ 491) : rbody gen ser num kind d.length d = pg gen ser num kind d := by
  unfold rbody pg
  rw [rparts_flat]
  have hl : ([104, 103] ++ be4 gen ++ be4 ser ++ be4 num ++ [kind, d.length / 256 % 256, d.length % 256] ++ d).length = 17 + d.length := by simp [be4]; omega
  rw [List.take_append, List.take_of_length_le (by rw [hl]; omega), hl, List.take_replicate, show min (508 - (17 + d.length)) 508 = 491 - d.length by omega]
/-- The reference's bytes of a page. -/
theorem refPage_any (w : World) (gen ser num kind : Nat) (A : Option Addr) (n c : Nat) (d : List Nat) (hg : gen < 4294967296) (hs : ser < 4294967296) (hu : num < 4294967296) (hk : kind < 256) (hd : Bytes w w.heap.size (.slice A n c) d) (hn : n ≤ 491) (hnd : n = d.length) (hds : ∀ b ∈ d, b < 256) :
    Calls Try.prog 11 #[.agg #[.int .u32 (gen : Int), .int .u32 (ser : Int), .int .u32 (num : Int), .int .u8 (kind : Int), .slice A n c]] w fun e w' => ∃ A2 n2 c2, e = .returned (.slice A2 n2 c2) ∧ Mine w' w.heap.size A2 n2 c2 (page gen ser num kind d) ∧ Below w.heap.size w w' := by
  have h := refBytes_any w gen ser num kind A n c d hg hs hu hk hd hn hnd hds
  subst hnd
  rw [rbody_pg hn] at h
  exact h
end Go.Proofs.Ytnojkifndcffjaa
