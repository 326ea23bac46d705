/- Contracts: the document's example of the sums holds: awake answers true. -/
import Derived.Test.YtmjmldnehgefiaaSum
import Derived.Test.YtmjmldnehgefiaaCut
import Derived.Lib.SlBytesConst
namespace Go.Proofs.Ytmjmldnehgefiaa
open Go.RowKit

theorem crc_nine : crc [49, 50, 51, 52, 53, 54, 55, 56, 57] = 3421780262 := by kernel_rfl
theorem lies_block {w : World} {B g : Nat} {cs : Array Value} {t : TypeId} {fr : Nat × Nat} (hb : w.heap[g]? = some (.cells cs t fr)) (hB : g < B) : Lies w B (some ⟨g, 0, none⟩) cs.toList := fun j v hj => by
  refine ⟨⟨g, 0, none⟩, rfl, hB, ?_⟩
  have h1 : (⟨g, 0, none⟩ : Addr).add j = ⟨g, j, none⟩ := by
    unfold Addr.add
    split
    · simp_all
    · simp
  rw [h1, cell_of_row w g j cs t fr hb]
  simpa using hj

/-- The slice value that a block known whole makes. -/
theorem bytes_block {w : World} {B g : Nat} {l : List Nat} {n c : Nat} {fr : Nat × Nat} (hb : w.heap[g]? = some (.cells (byt l).toArray 5 fr)) (hB : g < B) (hn : n = l.length) (hc : n ≤ c) (hs : ∀ b ∈ l, b < 256) (hl : l.length ≤ maxLen) :
    Bytes w B (.slice (some ⟨g, 0, none⟩) n c) l := by
  subst hn
  have h := lies_block (B := B) hb hB
  simp only [] at h
  exact ⟨⟨_, c, rfl, h, hc, fun h => by cases h⟩, hs, hl⟩

/-- A list of slices in a block known whole. -/
theorem parts_block {w : World} {B g : Nat} {vs : Array Value} {t : TypeId} {ls : List (List Nat)} {n c : Nat} (hb : w.heap[g]? = some (.cells vs t (0, 0))) (hB : g < B) (hn : n = ls.length) (hv : vs.size = ls.length)
    (hall : ∀ (j : Nat) (u : Value) (l : List Nat), vs[j]? = some u → ls[j]? = some l → Bytes w B u l) (hl : ls.length ≤ maxLen) :
    Parts w B (.slice (some ⟨g, 0, none⟩) n c) ls := by
  subst hn
  exact ⟨⟨_, c, vs.toList, rfl, by simpa using hv, lies_block hb hB, fun j u l h1 h2 => hall j u l (by simpa using h1) h2⟩, hl⟩

def nineA : Obj := .cells #[.int .u8 49, .int .u8 50, .int .u8 51, .int .u8 52, .int .u8 53] 5 (5, 6)
def nineB : Obj := .cells #[.int .u8 54, .int .u8 55, .int .u8 56, .int .u8 57] 5 (4, 5)
theorem awake_parts (w : World) (o : Obj) (ho : o = .cells #[.slice (some ⟨w.heap.size, 0, none⟩) 5 5, .slice (some ⟨w.heap.size + 1, 0, none⟩) 4 4] 22) :
    Parts (((w.alloc nineA).alloc nineB).alloc o) (((w.alloc nineA).alloc nineB).alloc o).heap.size (.slice (some ⟨w.heap.size + 1 + 1, 0, none⟩) 2 2) [[49, 50, 51, 52, 53], [54, 55, 56, 57]] := by
  have s1 : (w.alloc nineA).heap.size = w.heap.size + 1 := by simp
  have s2 : ((w.alloc nineA).alloc nineB).heap.size = w.heap.size + 1 + 1 := by simp
  have s3 : (((w.alloc nineA).alloc nineB).alloc o).heap.size = w.heap.size + 3 := by simp
  have hA : (((w.alloc nineA).alloc nineB).alloc o).heap[w.heap.size]? = some nineA := by
    rw [Go.heap_alloc_old _ _ (by omega), Go.heap_alloc_old _ _ (by omega), Go.heap_alloc_new]
  have hB : (((w.alloc nineA).alloc nineB).alloc o).heap[w.heap.size + 1]? = some nineB := by
    rw [Go.heap_alloc_old _ _ (by omega), ← s1, Go.heap_alloc_new]
  have hC : (((w.alloc nineA).alloc nineB).alloc o).heap[w.heap.size + 1 + 1]? = some o := by
    rw [← s2, Go.heap_alloc_new]
  rw [ho] at hC ⊢
  refine parts_block (ls := [[49, 50, 51, 52, 53], [54, 55, 56, 57]]) hC (by rw [← ho]; omega) rfl rfl ?_ (by unfold maxLen; simp)
  rw [← ho]
  intro j u l h1 h2
  match j, h1, h2 with
  | 0, h1, h2 =>
    simp at h1 h2
    subst h1 h2
    exact bytes_block (l := [49, 50, 51, 52, 53]) hA (by omega) rfl (by omega) (by decide) (by unfold maxLen; simp)
  | 1, h1, h2 =>
    simp at h1 h2
    subst h1 h2
    exact bytes_block (l := [54, 55, 56, 57]) hB (by omega) rfl (by omega) (by decide) (by unfold maxLen; simp)
  | j + 2, h1, h2 => simp at h1

set_option maxRecDepth 100000 in
set_option maxHeartbeats 1000000 in
theorem awake_any (w : World) : Calls Try.prog 7 #[] w fun e w' => e = .returned (.bool true) ∧ Below w.heap.size w w' := by
  have kcv : ∀ (W : World) (C : Array Value) (n c b : Nat), b = W.heap.size → (convert 22 22 (.slice (some ⟨b, 0, none⟩) n c)).run Try.prog (W.alloc (.cells C 5)) = .ok (.slice (some ⟨b, 0, none⟩) n c) (W.alloc (.cells C 5 (C.size, C.size + 1))) :=
    fun W C n c b hb => by subst hb; exact Lib.run_convert_bytes_const (P := Try.prog) W 22 5 C n c Try.underlying22 Try.underlying5
  go_enter Try.func7, Try.ntmps7
  go_wp2_with (first
    | (go_at_call 9; refine (make_any _).mono ?_; rintro e w1 ⟨rfl, hb1⟩)
    | (go_at_call 12; refine (sum_any _ _ _ (awake_parts w1 _ rfl)).mono ?_; rintro e w2 ⟨rfl, rfl⟩))
  go_ret
  refine ⟨congrArg Ending.returned (congrArg Value.bool ?_), ?_⟩
  · rw [crc_nine]
    rfl
  · exact (((hb1.alloc hb1.size _).alloc (by have := hb1.size; simp; omega) _).alloc (by have := hb1.size; simp; omega) _).alloc (by have := hb1.size; simp; omega) _
end Go.Proofs.Ytmjmldnehgefiaa
