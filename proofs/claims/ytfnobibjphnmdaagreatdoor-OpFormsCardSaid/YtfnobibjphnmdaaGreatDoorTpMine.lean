/- Words: a slice of bytes of the call's own; how a slice of bytes that came in reads; what Cut and Join leave; a copy of bytes; append of bytes and of a string. -/
import Derived.Test.YtfnobibjphnmdaaGreatDoorTpStep
import Derived.Test.YtfnobibjphnmdaaGreatDoorKToks
import Derived.Test.YtfnobibjphnmdaaGreatDoorKStep
import Derived.Test.YtfnobibjphnmdaaGreatDoorKOpen
import Derived.Test.YtfnobibjphnmdaaGreatDoorTpJoin
import Derived.Test.YtfnobibjphnmdaaGreatDoorTpSame
import Derived.Lib.AppendStr
import Derived.Lib.SliceRun
import Derived.Maps.AppendAt
import Derived.Laws.MakeOwn
import Derived.OpenShut
namespace Go.Proofs.YtfnobibjphnmdaaGreatDoor
open Go.RowKit
set_option linter.unusedSimpArgs false
set_option linter.unusedVariables false

/-- The slice with these three parts owns, in blocks from base on, just the bytes l. -/
structure Mine (w : World) (base : Nat) (A : Option Addr) (m c : Nat) (l : List Nat) : Prop where
  own : w.ownsRow base 5 1 (.slice A m c) m (byt l)
  len : m = l.length
  small : ∀ b ∈ l, b < 256
theorem Mine.of_own {w : World} {base : Nat} {v : Value} {l : List Nat} (h : Own w base v l) (hs : ∀ b ∈ l, b < 256) : ∃ A m c, v = .slice A m c ∧ Mine w base A m c l := by
  obtain ⟨A, c, rfl, _, _, _, ho⟩ := h.form
  exact ⟨A, _, c, rfl, ho, rfl, hs⟩
section
variable {w w' : World} {base m c B : Nat} {A : Option Addr} {l : List Nat}
theorem Mine.bytes (h : Mine w base A m c l) : Bytes w w.heap.size (.slice A m c) l := by
  have h1 := h.own
  rw [h.len] at h1 ⊢
  exact Own.bytes h1 h.small
theorem own_up {w : World} {base base' n size : Nat} {t : TypeId} {v : Value} {xs : List Value} (h : w.ownsRow base t size v n xs) (hb : ∀ k, v.ownBlock = some k → base' ≤ k) : w.ownsRow base' t size v n xs := by
  refine ⟨h.1, ?_⟩
  rcases h.2 with hv | ⟨g, cap, cur, rfl, h1, h2⟩
  · exact .inl hv
  · exact .inr ⟨g, cap, cur, rfl, hb g rfl, h2⟩
/-- Rows of other types lie elsewhere. -/
theorem own_ne {w : World} {base n size g : Nat} {t t' : TypeId} {v : Value} {xs : List Value} {cs : Array Value} (h : w.ownsRow base t size v n xs) (hg : w.heap[g]? = some (.cells cs t' (0, 0))) (ht : t ≠ t') : v.ownBlock ≠ some g := by
  rcases h.2 with ⟨rfl, _⟩ | ⟨k, cap, cur, rfl, h1, h2, _⟩
  · simp [Value.ownBlock]
  · intro e
    simp [Value.ownBlock] at e
    subst e
    rw [hg] at h2
    injection h2 with h2
    injection h2 with _ h2
    exact ht h2.symm
theorem Mine.below (h : Mine w base A m c l) (hb : Below w.heap.size w w') : Mine w' base A m c l := ⟨ownsRow_below h.own hb, h.len, h.small⟩
theorem Mine.keep (h : Mine w base A m c l) (hk : ∀ k, (Value.slice A m c).ownBlock = some k → w'.heap[k]? = w.heap[k]?) : Mine w' base A m c l := ⟨ownsRow_keep h.own hk, h.len, h.small⟩
theorem Mine.lower {base' : Nat} (h : Mine w base A m c l) (hb : base' ≤ base) : Mine w base' A m c l := ⟨own_up h.own fun k hk => Nat.le_trans hb (own_block_lt h.own hk).1, h.len, h.small⟩
end
theorem small_take {l : List Nat} (h : ∀ b ∈ l, b < 256) (k : Nat) : ∀ b ∈ l.take k, b < 256 := fun b hb => h b (List.mem_of_mem_take hb)
theorem small_drop {l : List Nat} (h : ∀ b ∈ l, b < 256) (k : Nat) : ∀ b ∈ l.drop k, b < 256 := fun b hb => h b (List.mem_of_mem_drop hb)
theorem small_append {l m : List Nat} (h : ∀ b ∈ l, b < 256) (k : ∀ b ∈ m, b < 256) : ∀ b ∈ l ++ m, b < 256 := fun b hb => (List.mem_append.1 hb).elim (h b) (k b)
theorem cut_mine (w : World) (v : Value) (l : List Nat) (most : Nat) (m : Int) (hm : m = (most : Int)) (hp : Bytes w w.heap.size v l) (hmost : most ≤ 1048576) :
    Calls Tryz.prog 5 #[v, .int .i64 m] w fun e w' => ∃ A n c, e = .returned (.slice A n c) ∧ Mine w' w.heap.size A n c (l.take most) ∧ Below w.heap.size w w' :=
  (cut_at w v l most m hm hp hmost).mono fun e w' ⟨u, he, ho, hb⟩ => by
    obtain ⟨A, n, c, rfl, hM⟩ := Mine.of_own ho (small_take hp.small most)
    exact ⟨A, n, c, he, hM, hb⟩
theorem join_mine (w : World) (v : Value) (ls : List (List Nat)) (hp : Parts w w.heap.size v ls) (hs : ∀ b ∈ ls.flatten, b < 256) (htot : ls.flatten.length ≤ 1048576) :
    Calls Tryz.prog 17 #[v] w fun e w' => ∃ A n c, e = .returned (.slice A n c) ∧ Mine w' w.heap.size A n c ls.flatten ∧ Below w.heap.size w w' :=
  (tp_join_any w v ls hp htot).mono fun e w' ⟨u, he, ho, hb⟩ => by
    obtain ⟨A, n, c, rfl, hM⟩ := Mine.of_own ho hs
    exact ⟨A, n, c, he, hM, hb⟩
theorem Bytes.first {w : World} {B m c k : Nat} {A : Option Addr} {q : List Nat} (h : Bytes w B (.slice A m c) q) (hk : k ≤ m) : Bytes w B (.slice A k c) (q.take k) := by
  obtain ⟨⟨A', c', hv, hl, hc, hn⟩, hs, hm⟩ := h
  injection hv with h1 h2 h3
  subst h1 h2 h3
  have e : (q.take k).length = k := by rw [List.length_take]; omega
  exact ⟨⟨A, c, by rw [e], by rw [byt_take]; exact hl.first k, by rw [e]; omega, hn⟩, small_take hs k, by rw [e]; omega⟩
theorem Bytes.rest {w : World} {B m c k : Nat} {A : Option Addr} {q : List Nat} (h : Bytes w B (.slice A m c) q) (hk : k ≤ m) : Bytes w B (.slice (if c = k then A else A.map (·.add k)) (m - k) (c - k)) (q.drop k) := by
  obtain ⟨⟨A', c', hv, hl, hc, hn⟩, hs, hm⟩ := h
  injection hv with h1 h2 h3
  subst h1 h2 h3
  have e : (q.drop k).length = q.length - k := List.length_drop
  refine ⟨⟨_, _, by rw [e], by rw [byt_drop]; exact hl.rest (by rw [byt_length]) hk hc, by rw [e]; omega, ?_⟩, fun b hb => hs b (List.mem_of_mem_drop hb), by rw [e]; omega⟩
  intro hn2
  by_cases hck : c = k
  · omega
  · rw [if_neg hck] at hn2
    rw [hn (by cases A with | none => rfl | some a => cases hn2)]
    omega
theorem str_byt (s : ByteArray) : Lib.strCells s = byt (str s) := by
  unfold Lib.strCells byt str
  rw [List.map_map]
  rfl
/-- append of a string's bytes, and where the row lies behind it. -/
theorem run_append_str_at {P : Program} (w : World) (base : Nat) (t u ty e : TypeId) (i : TypeInfo) (ht : P.underlying t = some (.slice e)) (hu : P.underlying u = some .string) (hi : P.info? e = some i) (hz : i.zero = some (.int .u8 0))
    (hsize : i.size = 1) (hby : i.bytes = 1)
    (v : Value) (n : Nat) (xs : List Value) (hown : w.ownsRow base e 1 v n xs) (s : ByteArray) (hlen : n + s.size ≤ 140737488355328) (hbase : base ≤ w.heap.size) :
    ∃ v' w', (Builtin.append_ #[t, u] ty #[v, .string s]).run P w = .ok v' w' ∧ w'.ownsRow base e 1 v' (n + s.size) (xs ++ Lib.strCells s) ∧ w.grownBy w' v.ownBlock ∧ (v'.ownBlock = v.ownBlock ∨ v'.ownBlock = some w.heap.size) := by
  obtain ⟨v', w', hr, h1, h2, h3⟩ := Lib.run_append_own_string (P := P) w base t u ty e i ht hu hi hz hsize hby v n xs hown s (by unfold maxLen; omega) hlen hbase
  refine ⟨v', w', hr, h1, h2, ?_⟩
  have hxl : xs.length = n := by simpa using hown.1
  rcases hown.2 with ⟨rfl, rfl⟩ | ⟨g, cap, cur, rfl, hbg, hg, hnc, hcm, hcs, htake⟩
  · by_cases hm : s.size = 0
    · rw [h3.2 ⟨rfl, hm⟩]
      exact .inl rfl
    · have hr2 := run_append_nil_string (P := P) w t u ty e i (.int .u8 0) ht hu hi hz s (by omega) (by omega) (by rw [hby]; omega)
      rw [hr] at hr2
      injection hr2 with hv _
      rw [hv]
      exact .inr rfl
  · by_cases hroom : n + s.size ≤ cap
    · have hcs' : cur.size = cap := by simpa using hcs
      have hr2 := Lib.run_append_room_string (P := P) w t u ty e i ht hu hi hsize g n cap cur hg s hroom (by omega)
      rw [hr] at hr2
      injection hr2 with hv _
      rw [hv]
      exact .inl rfl
    · have holds : ∀ j u, xs[j]? = some u → w.cell? ((⟨g, 0, none⟩ : Addr).add j) = some u := hown.cells (g := g) rfl
      have hr2 := Lib.run_append_grow_string (P := P) w t u ty e i (.int .u8 0) ht hu hi hz ⟨g, 0, none⟩ n cap xs (by rw [hsize]; simpa using hxl) holds s (by omega) (by omega) (by rw [hby]; exact growslice_fits (by omega) (by omega))
      rw [hr] at hr2
      injection hr2 with hv _
      rw [hv]
      exact .inr rfl
theorem wpList_append_str {P : Program} {w : World} {ops : Array Oper} {rest : List Oper} {o : Oper} {a : Act} {Q : Exit → Act → World → Prop} (hgd : o.guard = none) (sl x : Operand) (t u : TypeId)
    (ho : o.op = .call { callee := .builtin .append, args := #[sl, x], argTypes := #[t, u] })
    (base : Nat) (e : TypeId) (i : TypeInfo) (ht : P.underlying t = some (.slice e)) (hu : P.underlying u = some .string) (hi : P.info? e = some i) (hz : i.zero = some (.int .u8 0))
    (hsize : i.size = 1) (hby : i.bytes = 1)
    (v : Value) (n : Nat) (xs : List Value) (hs : a.eval sl = v) (hown : w.ownsRow base e 1 v n xs) (s : ByteArray) (hx : a.eval x = .string s)
    (hlen : n + s.size ≤ 140737488355328) (hbase : base ≤ w.heap.size)
    (h : ∀ v' w', w'.ownsRow base e 1 v' (n + s.size) (xs ++ byt (str s)) → w.grownBy w' v.ownBlock → (v'.ownBlock = v.ownBlock ∨ v'.ownBlock = some w.heap.size) → wpList P ops Q rest (a.put o.dst v') w') : wpList P ops Q (o :: rest) a w := by
  refine wpList_plain hgd fun K hK => ?_
  obtain ⟨v', w', hr, h2, h3, h4⟩ := run_append_str_at (P := P) w base t u o.type e i ht hu hi hz hsize hby v n xs hown s hlen hbase
  unfold Oper.wp execOp
  simp only [ho, resolve, invoke, builtin, Sem.run_bind, Sem.run_pure, Result.andThen_ok, List.map_toArray, List.map_cons, List.map_nil, hs, hx, hr]
  rw [str_byt] at h2
  exact hK _ _ (h v' w' h2 h3 h4)
end Go.Proofs.YtfnobibjphnmdaaGreatDoor
