/- DDisk, DNew: joined by program (tools/merge.py). -/
import Derived.Test.YtalpippeelomjaaZ15
import Derived.Laws.MakeOwn
namespace Go.Proofs.Ytalpippeelomjaa
open Go.RowKit

/-- A pending write as cells: where, and its bytes. -/
def wcell (p : Nat × List Nat) : List Value := .int .i64 (p.1 : Int) :: byt p.2
def wcells (l : List (Nat × List Nat)) : List Value := (l.map wcell).flatten
/-- Sectors as cells. -/
def scells (l : List (List Nat)) : List Value := byt l.flatten
def ints (l : List Nat) : List Value := l.map fun (n : Nat) => Value.int .i64 (n : Int)
/-- Of each sector one more than the place of its last pending write; nought for none. -/
def lats (n : Nat) : List (Nat × List Nat) → List Nat := fun l => (l.zipIdx).foldl (fun a x => a.set x.1.1 (x.2 + 1)) (List.replicate n 0)
theorem lats_snoc (n : Nat) (l : List (Nat × List Nat)) (p : Nat × List Nat) : lats n (l ++ [p]) = (lats n l).set p.1 (l.length + 1) := by
  unfold lats
  rw [List.zipIdx_append, List.foldl_append]
  simp
theorem lats_length (n : Nat) (l : List (Nat × List Nat)) : (lats n l).length = n := by
  have h : ∀ (xs : List ((Nat × List Nat) × Nat)) (a : List Nat), (xs.foldl (fun a x => a.set x.1.1 (x.2 + 1)) a).length = a.length := by
    intro xs
    induction xs with
    | nil => intro a; rfl
    | cons x xs ih => intro a; rw [List.foldl_cons, ih, List.length_set]
  unfold lats
  rw [h, List.length_replicate]

/-- Where a disk lies: its rows' blocks and capacities, and its slice of pending writes. -/
structure DB where
  gd : Nat
  cd : Nat
  gl : Nat
  cl : Nat
  pv : Value
/-- A sector of 512 bytes. -/
def IsSec (s : List Nat) : Prop := s.length = 512 ∧ ∀ b ∈ s, b < 256
def stcells (b : DB) (n : Nat) (wr bud : Int) : Array Value := #[.slice (some ⟨b.gd, 0, none⟩) n b.cd, b.pv, .slice (some ⟨b.gl, 0, none⟩) n b.cl, .int .i64 wr, .int .i64 bud]
structure Disk (w : World) (gs : Nat) (b : DB) (dur : List (List Nat)) (pend : List (Nat × List Nat)) (wr bud : Int) : Prop where
  st : w.heap[gs]? = some (.cells (stcells b dur.length wr bud) 95 (0, 0))
  du : w.ownsRow 0 92 512 (.slice (some ⟨b.gd, 0, none⟩) dur.length b.cd) dur.length (scells dur)
  pe : w.ownsRow 0 97 513 b.pv pend.length (wcells pend)
  la : w.ownsRow 0 3 1 (.slice (some ⟨b.gl, 0, none⟩) dur.length b.cl) dur.length (ints (lats dur.length pend))
  sec : ∀ s ∈ dur, IsSec s
  wri : ∀ p ∈ pend, p.1 < dur.length ∧ IsSec p.2
  few : 1 ≤ dur.length ∧ dur.length ≤ 4096
  many : pend.length ≤ 1048576

theorem infoSec : (Try.prog.info? 92).map (fun i => (i.zero, i.size, i.bytes)) = some (some (.agg (byt noughts).toArray), 512, 512) := by kernel_rfl
theorem infoInt : (Try.prog.info? 3).map (fun i => (i.zero, i.size, i.bytes)) = some (some (.int .i64 0), 1, 8) := by kernel_rfl
theorem infoWri : (Try.prog.info? 97).map (fun i => (i.zero, i.size, i.bytes)) = some (some (.agg (.int .i64 0 :: byt noughts).toArray), 513, 520) := by kernel_rfl

theorem byt_rep (n k : Nat) : byt (List.replicate n (List.replicate k 0)).flatten = List.replicate (n * k) (Value.int .u8 0) := by
  unfold byt
  rw [List.flatten_replicate_replicate, List.map_replicate]
  rfl
set_option maxRecDepth 100000 in
theorem made_noughts (n : Nat) : (madeCells (byt noughts).toArray (n * 512)).toList = scells (List.replicate n noughts) := by
  have hz : ∀ i, (byt noughts).toArray[i % (byt noughts).toArray.size]! = Value.int .u8 0 := by
    intro i
    have hs : (byt noughts).toArray.size = 512 := by rw [List.size_toArray, byt_length, noughts_length]
    have hi : i % (byt noughts).toArray.size < (byt noughts).toArray.size := Nat.mod_lt _ (by rw [hs]; omega)
    rw [getElem!_pos (byt noughts).toArray (i % (byt noughts).toArray.size) hi]
    have h2 : (byt noughts).toArray[i % (byt noughts).toArray.size]? = some (Value.int .u8 0) := by
      have h3 : noughts[i % (byt noughts).toArray.size]? = some 0 := by
        rw [hs]
        unfold noughts
        rw [List.getElem?_replicate]
        exact if_pos (Nat.mod_lt _ (by omega))
      rw [List.getElem?_toArray, byt_at, h3]
      rfl
    rw [Array.getElem?_eq_getElem hi] at h2
    exact Option.some.inj h2
  unfold madeCells
  have h1 : (Array.range (n * 512)).map (fun i => (byt noughts).toArray[i % (byt noughts).toArray.size]!) = (Array.range (n * 512)).map (fun _ => Value.int .u8 0) := by
    congr 1
    funext i
    exact hz i
  rw [h1]
  have h3 : scells (List.replicate n noughts) = List.replicate (n * 512) (Value.int .u8 0) := by
    unfold scells
    rw [show noughts = List.replicate 512 0 from rfl, byt_rep]
  rw [h3]
  simp [List.map_const']
theorem made_ints (n : Nat) : (madeCells #[Value.int .i64 0] (n * 1)).toList = ints (lats n []) := by
  rw [Nat.mul_one, toList_madeCells_one]
  unfold ints lats
  simp
end Go.Proofs.Ytalpippeelomjaa
namespace Go.Proofs.Ytalpippeelomjaa
open Go.RowKit

set_option maxRecDepth 100000 in
set_option maxHeartbeats 1000000 in
theorem start_any (w : World) (gd cd n : Nat) (dur : List (List Nat)) (hn : n = dur.length) (hd : w.ownsRow 0 92 512 (.slice (some ⟨gd, 0, none⟩) dur.length cd) dur.length (scells dur)) (hs : ∀ s ∈ dur, IsSec s) (hf : 1 ≤ dur.length ∧ dur.length ≤ 4096) :
    Calls Try.prog 44 #[.slice (some ⟨gd, 0, none⟩) n cd] w fun e w' => ∃ gs b, e = .returned (.pointer (some ⟨gs, 0, none⟩)) ∧ Disk w' gs b dur [] 0 (-1) ∧ w.heap.size ≤ gs ∧ b.gd = gd ∧ b.cd = cd ∧ w.heap.size ≤ b.gl ∧ b.pv = .slice none 0 0 ∧ Below w.heap.size w w' := by
  obtain ⟨i0, hi0, hz0, hz1, hz2⟩ := info_parts infoInt
  have HI := Lib.hid hi0
  have H0 := Lib.hid hz0
  have H1 := Lib.hid hz1
  have H2 := Lib.hid hz2
  have HN := Lib.hid hn
  have hn2 : n ≤ 4096 := by omega
  clear hi0 hz0 hz1 hz2 hn
  go_enter Try.func44, Try.ntmps44
  go_wp2_with (at_make; refine wpList_make_full _ rfl _ _ 63 rfl 0 3 i0 (.int .i64 0) 1 Try.underlying63 HI.out H0.out H1.out _ _ _ _ n rfl rfl rfl rfl ?b1 ?b2 (Nat.zero_le _) ?_)
  case b1 => rw [H2.out]; omega
  case b2 => unfold maxLen; omega
  intro w1 hown1 hg1
  go_wp2
  go_ret
  have hb1 : Below w.heap.size w w1 := (Below.refl _ _).grown hg1 (Nat.le_refl _) (fun _ h => by cases h)
  refine ⟨w1.heap.size, ⟨gd, cd, w.heap.size, n, .slice none 0 0⟩, rfl, ⟨?_, ?_, ?_, ?_, hs, by simp, hf, by simp⟩, hb1.size, rfl, rfl, Nat.le_refl _, rfl, hb1.alloc hb1.size _⟩
  · rw [← HN.out]
    exact Go.heap_alloc_new w1 _
  · exact World.ownsRow.alloc (World.ownsRow.kept hd hg1 (.inr (by simp [Value.ownBlock]))) _
  · exact World.ownsRow_nil _ _ _ _
  · rw [← HN.out, ← made_ints n, Nat.mul_one]
    exact World.ownsRow.alloc hown1 _

set_option maxRecDepth 100000 in
set_option maxHeartbeats 1000000 in
theorem new_good (w : World) (n : Nat) (h1 : 1 ≤ n) (h2 : n ≤ 4096) :
    Calls Try.prog 11 #[.int .i64 (n : Int)] w fun e w' => ∃ gs b, e = .returned (.tuple #[.pointer (some ⟨gs, 0, none⟩), .int .i64 0]) ∧ Disk w' gs b (List.replicate n noughts) [] 0 (-1) ∧ w.heap.size ≤ gs ∧ w.heap.size ≤ b.gd ∧ w.heap.size ≤ b.gl ∧ b.pv = .slice none 0 0 ∧ Below w.heap.size w w' := by
  obtain ⟨i0, hi0, hz0, hz1, hz2⟩ := info_parts infoSec
  have HI := Lib.hid hi0
  have H0 := Lib.hid hz0
  have H1 := Lib.hid hz1
  have H2 := Lib.hid hz2
  have t1 : ¬ (n : Int) < 1 := by omega
  have t2 : ¬ (4096 : Int) < (n : Int) := by omega
  have t3 : decide ((4096 : Int) < (n : Int)) = false := decide_eq_false t2
  have t4 : decide ((n : Int) < 1) = false := decide_eq_false t1
  clear hi0 hz0 hz1 hz2
  go_enter Try.func11, Try.ntmps11
  go_wp2_with (at_make; refine wpList_make_full _ rfl _ _ 80 rfl 0 92 i0 (.agg (byt noughts).toArray) 512 Try.underlying80 HI.out H0.out H1.out _ _ _ _ n rfl rfl rfl rfl ?b1 ?b2 (Nat.zero_le _) ?_)
  case b1 => rw [H2.out]; omega
  case b2 => unfold maxLen; omega
  intro w1 hown1 hg1
  have hb1 : Below w.heap.size w w1 := (Below.refl _ _).grown hg1 (Nat.le_refl _) (fun _ h => by cases h)
  rw [made_noughts n] at hown1
  have HO := Lib.hid hown1
  have hl : (List.replicate n noughts).length = n := List.length_replicate
  have hdu : w1.ownsRow 0 92 512 (.slice (some ⟨w.heap.size, 0, none⟩) (List.replicate n noughts).length n) (List.replicate n noughts).length (scells (List.replicate n noughts)) := by rw [hl]; exact HO.out
  have HS := hide (start_any w1 w.heap.size n n (List.replicate n noughts) hl.symm hdu (fun s hs => by rw [List.eq_of_mem_replicate hs]; exact ⟨noughts_length, noughts_small⟩) (by rw [hl]; exact ⟨h1, h2⟩))
  clear hown1 hg1 hl hdu
  go_wp2_with (go_at_call 44; (with_reducible refine (unhide HS).mono ?_); rintro e w2 ⟨gs, b, rfl, hD, hgs, hgd, hcd, hgl, hpv, hb2⟩)
  go_ret2
  have h3 := hb1.size
  exact ⟨gs, b, rfl, hD, by omega, by omega, by omega, hpv, hb1.trans (hb2.mono h3)⟩
theorem new_bad (w : World) (n : Int) (h : n < 1 ∨ 4096 < n) :
    Calls Try.prog 11 #[.int .i64 n] w fun e w' => e = .returned (.tuple #[.pointer none, .int .i64 1]) ∧ w = w' := by
  by_cases h1 : n < 1
  · go_enter Try.func11, Try.ntmps11
    go_wp2
    go_ret2
    exact ⟨rfl, rfl⟩
  · have h2 : 4096 < n := by omega
    go_enter Try.func11, Try.ntmps11
    go_wp2
    go_ret2
    exact ⟨rfl, rfl⟩
end Go.Proofs.Ytalpippeelomjaa
