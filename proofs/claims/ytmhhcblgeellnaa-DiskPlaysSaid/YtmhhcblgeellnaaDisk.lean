/- Words of this seat's own: what a disk's five fields and its three rows hold. -/
import Derived.Test.YtmhhcblgeellnaaFull
import Derived.Laws.MakeOwn
namespace Go.Proofs.Ytmhhcblgeellnaa
open Go.RowKit

/-- A pending write as cells: where, and its bytes. -/
def wcell (p : Nat × List Nat) : List Value := .int .i64 (p.1 : Int) :: byt p.2
def wcells (l : List (Nat × List Nat)) : List Value := (l.map wcell).flatten
/-- Sectors as cells. -/
def scells (l : List (List Nat)) : List Value := byt l.flatten
def ints (l : List Nat) : List Value := l.map fun (n : Nat) => Value.int .i64 (n : Int)
/-- Of each sector one more than the place of its last pending write; nought for none. -/
def lats (n : Nat) : List (Nat × List Nat) → List Nat := fun l => (l.zipIdx).foldl (fun a x => a.set x.1.1 (x.2 + 1)) (List.replicate n 0)
theorem lats_snoc (n : Nat) (l : List (Nat × List Nat)) (p : Nat × List Nat) : lats n (l ++ [p]) = (lats n l).set p.1 (l.length + 1) := by
  unfold lats
  rw [List.zipIdx_append, List.foldl_append]
  simp
theorem lats_length (n : Nat) (l : List (Nat × List Nat)) : (lats n l).length = n := by
  have h : ∀ (xs : List ((Nat × List Nat) × Nat)) (a : List Nat), (xs.foldl (fun a x => a.set x.1.1 (x.2 + 1)) a).length = a.length := by
    intro xs
    induction xs with
    | nil => intro a; rfl
    | cons x xs ih => intro a; rw [List.foldl_cons, ih, List.length_set]
  unfold lats
  rw [h, List.length_replicate]

/-- Where a disk lies: its rows' blocks and capacities, and its slice of pending writes. -/
structure DB where
  gd : Nat
  cd : Nat
  gl : Nat
  cl : Nat
  pv : Value
/-- A sector of 512 bytes. -/
def IsSec (s : List Nat) : Prop := s.length = 512 ∧ ∀ b ∈ s, b < 256
def stcells (b : DB) (n : Nat) (wr bud : Int) : Array Value := #[.slice (some ⟨b.gd, 0, none⟩) n b.cd, b.pv, .slice (some ⟨b.gl, 0, none⟩) n b.cl, .int .i64 wr, .int .i64 bud]
structure Disk (w : World) (gs : Nat) (b : DB) (dur : List (List Nat)) (pend : List (Nat × List Nat)) (wr bud : Int) : Prop where
  st : w.heap[gs]? = some (.cells (stcells b dur.length wr bud) 69 (0, 0))
  du : w.ownsRow 0 72 512 (.slice (some ⟨b.gd, 0, none⟩) dur.length b.cd) dur.length (scells dur)
  pe : w.ownsRow 0 75 513 b.pv pend.length (wcells pend)
  la : w.ownsRow 0 3 1 (.slice (some ⟨b.gl, 0, none⟩) dur.length b.cl) dur.length (ints (lats dur.length pend))
  sec : ∀ s ∈ dur, IsSec s
  wri : ∀ p ∈ pend, p.1 < dur.length ∧ IsSec p.2
  few : 1 ≤ dur.length ∧ dur.length ≤ 4096
  many : pend.length ≤ 1048576

theorem infoSec : (Try.prog.info? 72).map (fun i => (i.zero, i.size, i.bytes)) = some (some (.agg (byt noughts).toArray), 512, 512) := by kernel_rfl
theorem infoInt : (Try.prog.info? 3).map (fun i => (i.zero, i.size, i.bytes)) = some (some (.int .i64 0), 1, 8) := by kernel_rfl
theorem infoWri : (Try.prog.info? 75).map (fun i => (i.zero, i.size, i.bytes)) = some (some (.agg (.int .i64 0 :: byt noughts).toArray), 513, 520) := by kernel_rfl

theorem byt_rep (n k : Nat) : byt (List.replicate n (List.replicate k 0)).flatten = List.replicate (n * k) (Value.int .u8 0) := by
  unfold byt
  rw [List.flatten_replicate_replicate, List.map_replicate]
  rfl
set_option maxRecDepth 100000 in
theorem made_noughts (n : Nat) : (madeCells (byt noughts).toArray (n * 512)).toList = scells (List.replicate n noughts) := by
  have hz : ∀ i, (byt noughts).toArray[i % (byt noughts).toArray.size]! = Value.int .u8 0 := by
    intro i
    have hs : (byt noughts).toArray.size = 512 := by rw [List.size_toArray, byt_length, noughts_length]
    have hi : i % (byt noughts).toArray.size < (byt noughts).toArray.size := Nat.mod_lt _ (by rw [hs]; omega)
    rw [getElem!_pos (byt noughts).toArray (i % (byt noughts).toArray.size) hi]
    have h2 : (byt noughts).toArray[i % (byt noughts).toArray.size]? = some (Value.int .u8 0) := by
      have h3 : noughts[i % (byt noughts).toArray.size]? = some 0 := by
        rw [hs]
        unfold noughts
        rw [List.getElem?_replicate]
        exact if_pos (Nat.mod_lt _ (by omega))
      rw [List.getElem?_toArray, byt_at, h3]
      rfl
    rw [Array.getElem?_eq_getElem hi] at h2
    exact Option.some.inj h2
  unfold madeCells
  have h1 : (Array.range (n * 512)).map (fun i => (byt noughts).toArray[i % (byt noughts).toArray.size]!) = (Array.range (n * 512)).map (fun _ => Value.int .u8 0) := by
    congr 1
    funext i
    exact hz i
  rw [h1]
  have h3 : scells (List.replicate n noughts) = List.replicate (n * 512) (Value.int .u8 0) := by
    unfold scells
    rw [show noughts = List.replicate 512 0 from rfl, byt_rep]
  rw [h3]
  simp [List.map_const']
theorem made_ints (n : Nat) : (madeCells #[Value.int .i64 0] (n * 1)).toList = ints (lats n []) := by
  rw [Nat.mul_one, toList_madeCells_one]
  unfold ints lats
  simp
end Go.Proofs.Ytmhhcblgeellnaa
