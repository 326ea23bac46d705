/- An argument that is a row of the reference's nodes, as memory has it. -/
import Derived.Test.YtdphpjlhkamadaaArenaSameWalk
import Derived.ProofKit
import Derived.OpenShut
import Derived.WalkKit
import Derived.Deep.Slices
namespace Go.Proofs.Ytdphpjlhkamadaa
open Go.RowKit Go.ChangeShapes Go.WideShapes Go.ChangeAt
set_option linter.unusedSimpArgs false
set_option linter.unusedVariables false
set_option maxRecDepth 100000
theorem nats_of {zs : List Int} (h : ∀ n ∈ zs, (Lit.int .u64 n).wf = true) : ∃ l : List Nat, l.length = zs.length ∧ (∀ k ∈ l, k < 18446744073709551616) ∧ ∀ i, i < zs.length → ∃ k : Nat, l[i]? = some k ∧ zs.getD i 0 = (k : Int) := by
  induction zs with
  | nil => exact ⟨[], rfl, by simp, fun i hi => by cases hi⟩
  | cons z r ih =>
    obtain ⟨l, h1, h2, h3⟩ := ih fun n hn => h n (by simp [hn])
    have b := bounds_u64 (h z (by simp))
    obtain ⟨k, rfl⟩ := Int.eq_ofNat_of_zero_le b.1
    refine ⟨k :: l, by simp [h1], fun x hx => ?_, fun i hi => ?_⟩
    · rcases List.mem_cons.1 hx with rfl | hx
      · omega
      · exact h2 x hx
    · cases i with
      | zero => exact ⟨k, rfl, rfl⟩
      | succ i =>
        obtain ⟨k', e1, e2⟩ := h3 i (by simpa using hi)
        exact ⟨k', by simpa using e1, by simpa using e2⟩
/-- A row of IDs that came in. -/
theorem open_ids {H : Type} {enc : TypeId × Value → H} {W : World} {fuel : Nat} {v : Value} {x : DataW H × List MemPlace} (h : DataW.trod enc Try.prog W 0 (fun _ => true) true fuel 30 [v] = some x) : ∃ (A : Option Addr) (l : List Nat) (c : Nat), v = .slice A l.length c ∧ IdIn W W.heap.size A c l := by
  rcases open_ints Try.underlying30 Try.underlying24 (by kernel_rfl) h with ⟨e4, _⟩ | ⟨a, len, cap, zs, e4, _, hl2, hm, hz, _, hcell, hwz⟩
  · injection e4 with e4 _
    exact ⟨none, [], 0, e4, fun j u hj => by simp [ids] at hj, Nat.le_refl _, by simp, by simp⟩
  · injection e4 with e4 _
    simp at hz
    obtain ⟨l, hll, hs, hat⟩ := nats_of hwz
    have htl : (l.take len).length = len := by rw [List.length_take]; omega
    refine ⟨some a, l.take len, cap, by rw [htl]; exact e4, fun j u hj => ?_, by omega, fun k hk => hs k (List.mem_of_mem_take hk), by unfold maxLen at hm; omega⟩
    have hjl : j < len := by
      have := (List.getElem?_eq_some_iff.1 hj).1
      rw [ids_length, htl] at this
      exact this
    obtain ⟨k, e1, e2⟩ := hat j (by omega)
    rw [ids_at, List.getElem?_take_of_lt hjl, e1] at hj
    injection hj with hj
    have hc := hcell j (by omega)
    have hb := World.block_lt_of_cell? W _ hc
    rw [addr_add_block] at hb
    exact ⟨a, rfl, hb, by rw [hc, e2]; first | exact congrArg some hj | (rw [← hj])⟩
/-- A node's cells. -/
theorem open_node {H : Type} {enc : TypeId × Value → H} {W : World} {fuel : Nat} {cs : List Value} {x : DataW H × List MemPlace} (h : DataW.trod enc Try.prog W 0 (fun _ => true) true fuel 33 cs = some x) :
    ∃ (n : Nd) (A : Option Addr) (c : Nat), cs = [.int .u8 (n.kind : Int), .string n.name, .int .i64 n.num, .int .u8 (n.typ : Int), .int .u64 (n.ref : Int), .slice A n.kids.length c] ∧ IdIn W W.heap.size A c n.kids ∧ NdOk n := by
  obtain ⟨xs, n, _, _, hl, hlen, hall⟩ := DataW.trod_struct Try.underlying33 h
  have hc6 : Try.prog.cellsOf 33 = 6 := by kernel_rfl
  rw [hc6] at hl
  match cs, hl with
  | [c0, c1, c2, c3, c4, c5], _ =>
    match xs, hlen with
    | [y0, y1, y2, y3, y4, y5], _ =>
      have f0 := hall 0 _ rfl
      have f1 := hall 1 _ rfl
      have f2 := hall 2 _ rfl
      have f3 := hall 3 _ rfl
      have f4 := hall 4 _ rfl
      have f5 := hall 5 _ rfl
      have c8 : Try.prog.cellsOf 5 = 1 := by kernel_rfl
      have cst : Try.prog.cellsOf 9 = 1 := by kernel_rfl
      have ci : Try.prog.cellsOf 2 = 1 := by kernel_rfl
      have cid : Try.prog.cellsOf 24 = 1 := by kernel_rfl
      have csl : Try.prog.cellsOf 30 = 1 := by kernel_rfl
      simp only [c8, cst, ci, cid, csl, List.drop_zero, List.drop_succ_cons, List.take_succ_cons, List.take_zero, List.getElem?_cons_zero, List.getElem?_cons_succ] at f0 f1 f2 f3 f4 f5
      obtain ⟨n0, e0, _, w0⟩ := DataW.trod_int Try.underlying5 f0
      obtain ⟨s1, e1, _, w1⟩ := DataW.trod_string Try.underlying9 f1
      obtain ⟨n2, e2, _, w2⟩ := DataW.trod_int Try.underlying2 f2
      obtain ⟨n3, e3, _, w3⟩ := DataW.trod_int Try.underlying5 f3
      obtain ⟨n4, e4, _, w4⟩ := DataW.trod_int Try.underlying24 f4
      obtain ⟨A, l, c, e5, hin⟩ := open_ids f5
      have b0 := bounds_u8 w0
      have b2 := bounds_i64 w2
      have b3 := bounds_u8 w3
      have b4 := bounds_u64 w4
      obtain ⟨x0, rfl⟩ := Int.eq_ofNat_of_zero_le b0.1
      obtain ⟨x3, rfl⟩ := Int.eq_ofNat_of_zero_le b3.1
      obtain ⟨x4, rfl⟩ := Int.eq_ofNat_of_zero_le b4.1
      injection e0 with e0 _
      injection e1 with e1 _
      injection e2 with e2 _
      injection e3 with e3 _
      injection e4 with e4 _
      subst e0 e1 e2 e3 e4 e5
      exact ⟨⟨x0, s1, n2, x3, x4, l⟩, A, c, rfl, hin, ⟨by show x0 < 256; omega, by show s1.size ≤ _; unfold maxLen at w1; omega, ⟨b2.1, b2.2⟩, by show x3 < 256; omega, by show x4 < _; omega⟩⟩
/-- A node that came in. -/
theorem open_nodeV {H : Type} {enc : TypeId × Value → H} {W : World} {b0 : Nat} {r : Reach} {v : Value} {d : DataW H} {ps : List MemPlace} (hval : Value.okWide Try.prog W r b0 33 v) (h : DataW.Trod enc Try.prog W 0 (fun _ => true) true 33 v d ps) :
    ∃ (n : Nd) (A : Option Addr) (c : Nat), v = ndV n (.slice A n.kids.length c) ∧ IdIn W W.heap.size A c n.kids ∧ NdOk n := by
  obtain ⟨cs, rfl, hcs⟩ := okWide_struct Try.underlying33 hval
  obtain ⟨fuel, hf⟩ := h
  obtain ⟨n, A, c, e, hin, hok⟩ := open_node hf
  refine ⟨n, A, c, ?_, hin, hok⟩
  obtain ⟨cl⟩ := cs
  simp only [Value.cells] at e
  rw [e]
  rfl
/-- One node with its ID. -/
theorem open_row {H : Type} {enc : TypeId × Value → H} {W : World} {fuel : Nat} {cs : List Value} {x : DataW H × List MemPlace} (h : DataW.trod enc Try.prog W 0 (fun _ => true) true fuel 69 cs = some x) :
    ∃ (id : Nat) (n : Nd) (A : Option Addr) (c : Nat), cs = [.int .u64 (id : Int), .int .u8 (n.kind : Int), .string n.name, .int .i64 n.num, .int .u8 (n.typ : Int), .int .u64 (n.ref : Int), .slice A n.kids.length c] ∧ id < 18446744073709551616 ∧ IdIn W W.heap.size A c n.kids ∧ NdOk n := by
  obtain ⟨xs, n, _, _, hl, hlen, hall⟩ := DataW.trod_struct Try.underlying69 h
  have hc7 : Try.prog.cellsOf 69 = 7 := by kernel_rfl
  rw [hc7] at hl
  match cs, hl with
  | [c0, c1, c2, c3, c4, c5, c6], _ =>
    match xs, hlen with
    | [y0, y1], _ =>
      have f0 := hall 0 _ rfl
      have f1 : DataW.trod enc Try.prog W 0 (fun _ => true) true n 33 ((([c0, c1, c2, c3, c4, c5, c6] : List Value).drop 1).take (Try.prog.cellsOf 33)) = some y1 := hall 1 _ rfl
      have cid : Try.prog.cellsOf 24 = 1 := by kernel_rfl
      have cnd : Try.prog.cellsOf 33 = 6 := by kernel_rfl
      simp only [cid, cnd, List.drop_zero, List.drop_succ_cons, List.take_succ_cons, List.take_zero, List.getElem?_cons_zero, List.getElem?_cons_succ] at f0 f1
      obtain ⟨n0, e0, _, w0⟩ := DataW.trod_int Try.underlying24 f0
      obtain ⟨nd, A, c, e1, hin, hok⟩ := open_node f1
      have b0 := bounds_u64 w0
      obtain ⟨x0, rfl⟩ := Int.eq_ofNat_of_zero_le b0.1
      injection e0 with e0 _
      subst e0
      exact ⟨x0, nd, A, c, congrArg (fun l => Value.int .u64 (x0 : Int) :: l) e1, by omega, hin, hok⟩
/-- A row of nodes that came in. -/
theorem open_rows {H : Type} {enc : TypeId × Value → H} {W : World} {A : Option Addr} {n c : Nat} {d : DataW H} {ps : List MemPlace} (h : DataW.Trod enc Try.prog W 0 (fun _ => true) true 22 (.slice A n c) d ps) : ∃ rs, RowsIn W W.heap.size A n rs := by
  obtain ⟨fuel, hf⟩ := h
  have hc7 : Try.prog.cellsOf 69 = 7 := by kernel_rfl
  rcases Go.Deep.open_slice Try.underlying22 hf with ⟨hcs, _⟩ | ⟨a, len, cap, m, n', D, Pl, hcs, hb, hl, hm, hmm, _, hi⟩
  · simp [Value.cells] at hcs
    obtain ⟨rfl, rfl, rfl⟩ := hcs
    exact ⟨[], rfl, by unfold maxLen; omega, fun k p hp => by simp at hp⟩
  · simp [Value.cells] at hcs
    obtain ⟨rfl, rfl, rfl⟩ := hcs
    simp at hmm
    subst hmm
    have each : ∀ j, j < n → ∃ p : Nat × Nd, ∃ (Ak : Option Addr) (ck : Nat), (a.add (j * 7)).block < W.heap.size ∧ W.cell? (a.add (j * 7)) = some (.int .u64 (p.1 : Int)) ∧ W.cell? ⟨(a.add (j * 7)).block, (a.add (j * 7)).off + 1, none⟩ = some (.int .u8 (p.2.kind : Int)) ∧ W.cell? ⟨(a.add (j * 7)).block, (a.add (j * 7)).off + 2, none⟩ = some (.string p.2.name) ∧
        W.cell? ⟨(a.add (j * 7)).block, (a.add (j * 7)).off + 3, none⟩ = some (.int .i64 p.2.num) ∧ W.cell? ⟨(a.add (j * 7)).block, (a.add (j * 7)).off + 4, none⟩ = some (.int .u8 (p.2.typ : Int)) ∧ W.cell? ⟨(a.add (j * 7)).block, (a.add (j * 7)).off + 5, none⟩ = some (.int .u64 (p.2.ref : Int)) ∧
        W.cell? ⟨(a.add (j * 7)).block, (a.add (j * 7)).off + 6, none⟩ = some (.slice Ak p.2.kids.length ck) ∧ IdIn W W.heap.size Ak ck p.2.kids ∧ NdOk p.2 ∧ p.1 < 18446744073709551616 := fun j hj => by
      obtain ⟨cs', hc, ht⟩ := hi j (by omega)
      obtain ⟨id, nd, Ak, ck, rfl, hid, hin, hok⟩ := open_row ht
      rw [hc7] at hc
      obtain ⟨_, _, hat⟩ := World.cells?_some hc
      have a0 := hat 0 (by decide)
      have a1 := hat 1 (by decide)
      have a2 := hat 2 (by decide)
      have a3 := hat 3 (by decide)
      have a4 := hat 4 (by decide)
      have a5 := hat 5 (by decide)
      have a6 := hat 6 (by decide)
      simp only [List.getElem?_cons_zero, List.getElem?_cons_succ] at a0 a1 a2 a3 a4 a5 a6
      have e0 : (a.add (j * 7)).add 0 = a.add (j * 7) := by rw [addr_add_add]; rfl
      rw [e0] at a0
      exact ⟨(id, nd), Ak, ck, World.block_lt_of_cell? W _ a0, a0, a1, a2, a3, a4, a5, a6, hin, hok, hid⟩
    haveI : Inhabited (Nat × Nd) := ⟨(0, zeroNd)⟩
    obtain ⟨f, hf2⟩ := Go.Deep.choose_lt each
    refine ⟨(List.range n).map f, by simp, by omega, fun k p hp => ?_⟩
    have hk : k < n := by
      have := (List.getElem?_eq_some_iff.1 hp).1
      simpa using this
    rw [List.getElem?_map, List.getElem?_range hk] at hp
    simp only [Option.map_some, Option.some.injEq] at hp
    obtain ⟨Ak, ck, h1, h2, h3, h4, h5, h6, h7, h8, h9, h10, h11⟩ := hf2 k hk
    rw [hp] at h2 h3 h4 h5 h6 h7 h8 h9 h10 h11
    exact ⟨a, a.add (k * 7), Ak, ck, rfl, rfl, h1, h2, h3, h4, h5, h6, h7, h8, h9, h10, h11⟩
end Go.Proofs.Ytdphpjlhkamadaa
