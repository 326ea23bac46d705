/- TpMine, TpClone: joined by program (tools/merge.py). -/
import Derived.Test.YtdphpjlhkamadaaZ24
import Derived.Test.YtdphpjlhkamadaaZ25
import Derived.Lib.AppendStr
import Derived.Lib.SliceRun
import Derived.Maps.AppendAt
import Derived.Laws.MakeOwn
import Derived.OpenShut
namespace Go.Proofs.Ytdphpjlhkamadaa
open Go.RowKit
set_option linter.unusedSimpArgs false
set_option linter.unusedVariables false

/-- A slice of bytes that came in reads as bytes. -/
theorem bytes_of_row {w : World} {a : Option Addr} {len cap : Nat} {zs : List Int}
    (h : (a = none ∧ len = 0 ∧ cap = 0 ∧ zs = []) ∨ ∃ x, a = some x ∧ len ≤ cap ∧ cap ≤ maxLen ∧ zs.length = cap ∧ (∀ i, i < zs.length → w.cell? (x.add i) = some (.int .u8 (zs.getD i 0))) ∧ ∀ n ∈ zs, (Lit.int .u8 n).wf = true) :
    ∃ l, Bytes w w.heap.size (.slice a len cap) l ∧ len = l.length := by
  rcases h with ⟨rfl, rfl, rfl, rfl⟩ | ⟨x, rfl, hl, hm, hz, hc, hw⟩
  · exact ⟨[], Bytes.none_ _ _, rfl⟩
  · have hlen : ((zs.take len).map Int.toNat).length = len := by rw [List.length_map, List.length_take]; omega
    refine ⟨(zs.take len).map Int.toNat, ⟨⟨some x, cap, by rw [hlen], ?_, by rw [hlen]; exact hl, fun e => by cases e⟩, ?_, by rw [hlen]; omega⟩, hlen.symm⟩
    · intro j v hj
      have hjl : j < len := by
        rcases Nat.lt_or_ge j len with h1 | h1
        · exact h1
        · rw [List.getElem?_eq_none (by rw [byt_length, hlen]; exact h1)] at hj; cases hj
      have hcell := hc j (by omega)
      have hb := World.block_lt_of_cell? w _ hcell
      rw [addr_add_block] at hb
      refine ⟨x, rfl, hb, ?_⟩
      rw [hcell]
      rw [byt_at, List.getElem?_map, List.getElem?_take, if_pos hjl, List.getElem?_eq_getElem (by omega)] at hj
      simp only [Option.map_some, Option.some.injEq] at hj
      rw [← hj]
      have hz0 : (zs.getD j 0) = zs[j]'(by omega) := by rw [List.getD_eq_getElem?_getD, List.getElem?_eq_getElem (by omega)]; rfl
      have hwf := bounds_u8 (hw _ (List.getElem_mem (by omega : j < zs.length)))
      rw [hz0]
      congr 2
      omega
    · intro b hb
      obtain ⟨n, hn, rfl⟩ := List.mem_map.1 hb
      have hwf := bounds_u8 (hw n (List.mem_of_mem_take hn))
      omega

/-- The slice with these three parts owns, in blocks from base on, just the bytes l. -/
structure Mine (w : World) (base : Nat) (A : Option Addr) (m c : Nat) (l : List Nat) : Prop where
  own : w.ownsRow base 5 1 (.slice A m c) m (byt l)
  len : m = l.length
  small : ∀ b ∈ l, b < 256
theorem Mine.of_own {w : World} {base : Nat} {v : Value} {l : List Nat} (h : Own w base v l) (hs : ∀ b ∈ l, b < 256) : ∃ A m c, v = .slice A m c ∧ Mine w base A m c l := by
  obtain ⟨A, c, rfl, _, _, _, ho⟩ := h.form
  exact ⟨A, _, c, rfl, ho, rfl, hs⟩
section
variable {w w' : World} {base m c B : Nat} {A : Option Addr} {l : List Nat}
theorem Mine.bytes (h : Mine w base A m c l) : Bytes w w.heap.size (.slice A m c) l := by
  have h1 := h.own
  rw [h.len] at h1 ⊢
  exact Own.bytes h1 h.small
theorem ownsRow_keep {w w' : World} {base n size : Nat} {t : TypeId} {v : Value} {xs : List Value} (h : w.ownsRow base t size v n xs) (hk : ∀ k, v.ownBlock = some k → w'.heap[k]? = w.heap[k]?) : w'.ownsRow base t size v n xs := by
  obtain ⟨hl, hv⟩ := id h
  refine ⟨hl, ?_⟩
  rcases hv with hv | ⟨g, cap, cur, rfl, h1, h2, h3⟩
  · exact .inl hv
  · exact .inr ⟨g, cap, cur, rfl, h1, (hk g rfl).trans h2, h3⟩
theorem own_block_lt {w : World} {base n size : Nat} {t : TypeId} {v : Value} {xs : List Value} (h : w.ownsRow base t size v n xs) {k : Nat} (hk : v.ownBlock = some k) : base ≤ k ∧ k < w.heap.size := by
  rcases h.2 with ⟨rfl, _⟩ | ⟨g, cap, cur, rfl, h1, h2, _⟩
  · cases hk
  · simp [Value.ownBlock] at hk
    subst hk
    exact ⟨h1, lt_of_heap h2⟩
theorem own_up {w : World} {base base' n size : Nat} {t : TypeId} {v : Value} {xs : List Value} (h : w.ownsRow base t size v n xs) (hb : ∀ k, v.ownBlock = some k → base' ≤ k) : w.ownsRow base' t size v n xs := by
  refine ⟨h.1, ?_⟩
  rcases h.2 with hv | ⟨g, cap, cur, rfl, h1, h2⟩
  · exact .inl hv
  · exact .inr ⟨g, cap, cur, rfl, hb g rfl, h2⟩
theorem ownsRow_below {w w' : World} {base n size : Nat} {t : TypeId} {v : Value} {xs : List Value} (h : w.ownsRow base t size v n xs) (hb : Below w.heap.size w w') : w'.ownsRow base t size v n xs :=
  ownsRow_keep h fun k hk => hb.block k (own_block_lt h hk).2
/-- Rows of other types lie elsewhere. -/
theorem own_ne {w : World} {base n size g : Nat} {t t' : TypeId} {v : Value} {xs : List Value} {cs : Array Value} (h : w.ownsRow base t size v n xs) (hg : w.heap[g]? = some (.cells cs t' (0, 0))) (ht : t ≠ t') : v.ownBlock ≠ some g := by
  rcases h.2 with ⟨rfl, _⟩ | ⟨k, cap, cur, rfl, h1, h2, _⟩
  · simp [Value.ownBlock]
  · intro e
    simp [Value.ownBlock] at e
    subst e
    rw [hg] at h2
    injection h2 with h2
    injection h2 with _ h2
    exact ht h2.symm
theorem Mine.below (h : Mine w base A m c l) (hb : Below w.heap.size w w') : Mine w' base A m c l := ⟨ownsRow_below h.own hb, h.len, h.small⟩
theorem Mine.keep (h : Mine w base A m c l) (hk : ∀ k, (Value.slice A m c).ownBlock = some k → w'.heap[k]? = w.heap[k]?) : Mine w' base A m c l := ⟨ownsRow_keep h.own hk, h.len, h.small⟩
theorem Mine.lower {base' : Nat} (h : Mine w base A m c l) (hb : base' ≤ base) : Mine w base' A m c l := ⟨own_up h.own fun k hk => Nat.le_trans hb (own_block_lt h.own hk).1, h.len, h.small⟩
end
theorem small_take {l : List Nat} (h : ∀ b ∈ l, b < 256) (k : Nat) : ∀ b ∈ l.take k, b < 256 := fun b hb => h b (List.mem_of_mem_take hb)
theorem small_drop {l : List Nat} (h : ∀ b ∈ l, b < 256) (k : Nat) : ∀ b ∈ l.drop k, b < 256 := fun b hb => h b (List.mem_of_mem_drop hb)
theorem small_append {l m : List Nat} (h : ∀ b ∈ l, b < 256) (k : ∀ b ∈ m, b < 256) : ∀ b ∈ l ++ m, b < 256 := fun b hb => (List.mem_append.1 hb).elim (h b) (k b)
theorem cut_mine (w : World) (v : Value) (l : List Nat) (most : Nat) (m : Int) (hm : m = (most : Int)) (hp : Bytes w w.heap.size v l) (hmost : most ≤ 1048576) :
    Calls Try.prog 18 #[v, .int .i64 m] w fun e w' => ∃ A n c, e = .returned (.slice A n c) ∧ Mine w' w.heap.size A n c (l.take most) ∧ Below w.heap.size w w' :=
  (cut_at w v l most m hm hp hmost).mono fun e w' ⟨u, he, ho, hb⟩ => by
    obtain ⟨A, n, c, rfl, hM⟩ := Mine.of_own ho (small_take hp.small most)
    exact ⟨A, n, c, he, hM, hb⟩
theorem join_mine (w : World) (v : Value) (ls : List (List Nat)) (hp : Parts w w.heap.size v ls) (hs : ∀ b ∈ ls.flatten, b < 256) (htot : ls.flatten.length ≤ 1048576) :
    Calls Try.prog 24 #[v] w fun e w' => ∃ A n c, e = .returned (.slice A n c) ∧ Mine w' w.heap.size A n c ls.flatten ∧ Below w.heap.size w w' :=
  (join_any w v ls hp htot).mono fun e w' ⟨u, he, ho, hb⟩ => by
    obtain ⟨A, n, c, rfl, hM⟩ := Mine.of_own ho hs
    exact ⟨A, n, c, he, hM, hb⟩
theorem Bytes.first {w : World} {B m c k : Nat} {A : Option Addr} {q : List Nat} (h : Bytes w B (.slice A m c) q) (hk : k ≤ m) : Bytes w B (.slice A k c) (q.take k) := by
  obtain ⟨⟨A', c', hv, hl, hc, hn⟩, hs, hm⟩ := h
  injection hv with h1 h2 h3
  subst h1 h2 h3
  have e : (q.take k).length = k := by rw [List.length_take]; omega
  exact ⟨⟨A, c, by rw [e], by rw [byt_take]; exact hl.first k, by rw [e]; omega, hn⟩, small_take hs k, by rw [e]; omega⟩
theorem Bytes.rest {w : World} {B m c k : Nat} {A : Option Addr} {q : List Nat} (h : Bytes w B (.slice A m c) q) (hk : k ≤ m) : Bytes w B (.slice (if c = k then A else A.map (·.add k)) (m - k) (c - k)) (q.drop k) := by
  obtain ⟨⟨A', c', hv, hl, hc, hn⟩, hs, hm⟩ := h
  injection hv with h1 h2 h3
  subst h1 h2 h3
  have e : (q.drop k).length = q.length - k := List.length_drop
  refine ⟨⟨_, _, by rw [e], by rw [byt_drop]; exact hl.rest (by rw [byt_length]) hk hc, by rw [e]; omega, ?_⟩, fun b hb => hs b (List.mem_of_mem_drop hb), by rw [e]; omega⟩
  intro hn2
  by_cases hck : c = k
  · omega
  · rw [if_neg hck] at hn2
    rw [hn (by cases A with | none => rfl | some a => cases hn2)]
    omega
/-- A string's bytes. -/
def str (s : ByteArray) : List Nat := s.data.toList.map UInt8.toNat
theorem str_length (s : ByteArray) : (str s).length = s.size := by unfold str; rw [List.length_map, Array.length_toList]; rfl
theorem str_small (s : ByteArray) : ∀ b ∈ str s, b < 256 := fun b hb => by
  obtain ⟨u, _, rfl⟩ := List.mem_map.1 hb
  exact u.toNat_lt
theorem str_byt (s : ByteArray) : Lib.strCells s = byt (str s) := by
  unfold Lib.strCells byt str
  rw [List.map_map]
  rfl
/-- append of a string's bytes, and where the row lies behind it. -/
theorem run_append_str_at {P : Program} (w : World) (base : Nat) (t u ty e : TypeId) (i : TypeInfo) (ht : P.underlying t = some (.slice e)) (hu : P.underlying u = some .string) (hi : P.info? e = some i) (hz : i.zero = some (.int .u8 0))
    (hsize : i.size = 1) (hby : i.bytes = 1)
    (v : Value) (n : Nat) (xs : List Value) (hown : w.ownsRow base e 1 v n xs) (s : ByteArray) (hlen : n + s.size ≤ 140737488355328) (hbase : base ≤ w.heap.size) :
    ∃ v' w', (Builtin.append_ #[t, u] ty #[v, .string s]).run P w = .ok v' w' ∧ w'.ownsRow base e 1 v' (n + s.size) (xs ++ Lib.strCells s) ∧ w.grownBy w' v.ownBlock ∧ (v'.ownBlock = v.ownBlock ∨ v'.ownBlock = some w.heap.size) := by
  obtain ⟨v', w', hr, h1, h2, h3⟩ := Lib.run_append_own_string (P := P) w base t u ty e i ht hu hi hz hsize hby v n xs hown s (by unfold maxLen; omega) hlen hbase
  refine ⟨v', w', hr, h1, h2, ?_⟩
  have hxl : xs.length = n := by simpa using hown.1
  rcases hown.2 with ⟨rfl, rfl⟩ | ⟨g, cap, cur, rfl, hbg, hg, hnc, hcm, hcs, htake⟩
  · by_cases hm : s.size = 0
    · rw [h3.2 ⟨rfl, hm⟩]
      exact .inl rfl
    · have hr2 := run_append_nil_string (P := P) w t u ty e i (.int .u8 0) ht hu hi hz s (by omega) (by omega) (by rw [hby]; omega)
      rw [hr] at hr2
      injection hr2 with hv _
      rw [hv]
      exact .inr rfl
  · by_cases hroom : n + s.size ≤ cap
    · have hcs' : cur.size = cap := by simpa using hcs
      have hr2 := Lib.run_append_room_string (P := P) w t u ty e i ht hu hi hsize g n cap cur hg s hroom (by omega)
      rw [hr] at hr2
      injection hr2 with hv _
      rw [hv]
      exact .inl rfl
    · have holds : ∀ j u, xs[j]? = some u → w.cell? ((⟨g, 0, none⟩ : Addr).add j) = some u := hown.cells (g := g) rfl
      have hr2 := Lib.run_append_grow_string (P := P) w t u ty e i (.int .u8 0) ht hu hi hz ⟨g, 0, none⟩ n cap xs (by rw [hsize]; simpa using hxl) holds s (by omega) (by omega) (by rw [hby]; exact growslice_fits (by omega) (by omega))
      rw [hr] at hr2
      injection hr2 with hv _
      rw [hv]
      exact .inr rfl
theorem wpList_append_str {P : Program} {w : World} {ops : Array Oper} {rest : List Oper} {o : Oper} {a : Act} {Q : Exit → Act → World → Prop} (hgd : o.guard = none) (sl x : Operand) (t u : TypeId)
    (ho : o.op = .call { callee := .builtin .append, args := #[sl, x], argTypes := #[t, u] })
    (base : Nat) (e : TypeId) (i : TypeInfo) (ht : P.underlying t = some (.slice e)) (hu : P.underlying u = some .string) (hi : P.info? e = some i) (hz : i.zero = some (.int .u8 0))
    (hsize : i.size = 1) (hby : i.bytes = 1)
    (v : Value) (n : Nat) (xs : List Value) (hs : a.eval sl = v) (hown : w.ownsRow base e 1 v n xs) (s : ByteArray) (hx : a.eval x = .string s)
    (hlen : n + s.size ≤ 140737488355328) (hbase : base ≤ w.heap.size)
    (h : ∀ v' w', w'.ownsRow base e 1 v' (n + s.size) (xs ++ byt (str s)) → w.grownBy w' v.ownBlock → (v'.ownBlock = v.ownBlock ∨ v'.ownBlock = some w.heap.size) → wpList P ops Q rest (a.put o.dst v') w') : wpList P ops Q (o :: rest) a w := by
  refine wpList_plain hgd fun K hK => ?_
  obtain ⟨v', w', hr, h2, h3, h4⟩ := run_append_str_at (P := P) w base t u o.type e i ht hu hi hz hsize hby v n xs hown s hlen hbase
  unfold Oper.wp execOp
  simp only [ho, resolve, invoke, builtin, Sem.run_bind, Sem.run_pure, Result.andThen_ok, List.map_toArray, List.map_cons, List.map_nil, hs, hx, hr]
  rw [str_byt] at h2
  exact hK _ _ (h v' w' h2 h3 h4)
end Go.Proofs.Ytdphpjlhkamadaa
namespace Go.Proofs.Ytdphpjlhkamadaa
open Go.RowKit
set_option linter.unusedSimpArgs false
set_option linter.unusedVariables false

set_option maxRecDepth 100000 in
set_option maxHeartbeats 1000000 in
theorem clone_some (w : World) (ad : Addr) (n c : Nat) (l : List Nat) (hp : Bytes w w.heap.size (.slice (some ad) n c) l) (hlong : n ≤ 140737488355328) :
    Calls Try.prog 67 #[.slice (some ad) n c] w fun e w' => ∃ A2 n2 c2, e = .returned (.slice A2 n2 c2) ∧ Mine w' w.heap.size A2 n2 c2 l ∧ Below w.heap.size w w' := by
  obtain ⟨i0, hi0, hz0, hz1, hz2⟩ := info_parts infoByte
  have HI := Lib.hid hi0
  have H0 := Lib.hid hz0
  have H1 := Lib.hid hz1
  have H2 := Lib.hid hz2
  have hsm := hp.small
  obtain ⟨⟨A, cc, hv, hlies, _⟩, _, _⟩ := hp
  injection hv with h1 h2 h3
  subst h1
  have hlen : (byt l).length = n * 1 := by rw [byt_length]; omega
  have HL := Lib.hid hlen
  have hbel : Below w.heap.size w (w.alloc (.cells #[] 5)) := (Below.refl _ _).alloc (Nat.le_refl _) _
  have hnews : ∀ j u, (byt l)[j]? = some u → (w.alloc (.cells #[] 5)).cell? (ad.add j) = some u := fun j u hj => (hlies.below hbel).cells j u hj
  have HN := Lib.hid hnews
  have HO : Hid (∀ v ∈ byt l, v.oneCell' = true) := one_byt l
  have hown : (w.alloc (.cells #[] 5)).ownsRow w.heap.size 5 1 (.slice (some ⟨w.heap.size, 0, none⟩) 0 0) 0 [] :=
    ⟨rfl, .inr ⟨w.heap.size, 0, #[], rfl, Nat.le_refl _, Go.heap_alloc_new w _, Nat.le_refl _, by simp, rfl, rfl⟩⟩
  have HW := Lib.hid hown
  have Hbel := Lib.hid hbel
  have HS := Lib.hid hsm
  have hnil : ∀ W : World, (binOp .eql 42 (.slice (some ad) n c) (.slice none 0 0)).run Try.prog W = .ok (.bool false) W := fun W => by
    rw [Lib.run_eql_slice_nil W 42 5 _ n c 0 0 Try.underlying42]
    rfl
  clear hi0 hz0 hz1 hz2 hlen hnews hown hbel hlies hsm h2 h3
  go_enter Try.func67, Try.ntmps67
  go_wp2_with (at_builtin; refine wpList_append_own _ rfl _ _ 42 rfl w.heap.size 5 i0 (.int .u8 0) 1 1 Try.underlying42 HI.out H0.out H1.out H2.out ?a1 (by decide) _ 0 [] rfl HW.out ad n c (byt l) rfl HL.out HN.out HO.out ?a2 ?a3 ?a4 ?_)
  case a1 => rfl
  case a2 => unfold maxLen; omega
  case a3 => omega
  case a4 => exact Hbel.out.size
  intro v' w2 hown2 hg2 _
  have hb2 := Hbel.out.grown hg2 Hbel.out.size (fun g hg => by
    have e : w.heap.size = g := by simpa [Value.ownBlock] using hg
    omega)
  have hM := Mine.of_own (l := l) (v := v') (base := w.heap.size) (w := w2) (by
    have h := hown2
    have e : n = l.length := by have := HL.out; rw [byt_length] at this; omega
    rw [e] at h
    exact h) HS.out
  obtain ⟨A2, n2, c2, rfl, hM⟩ := hM
  have H3 := Lib.hid hM
  have H4 := Lib.hid hb2
  clear hown2 hg2 hb2 hnil hM
  go_wp2
  go_ret
  exact ⟨A2, n2, c2, rfl, H3.out, H4.out⟩
set_option maxHeartbeats 1000000 in
theorem clone_none (w : World) : Calls Try.prog 67 #[.slice none 0 0] w fun e w' => e = .returned (.slice none 0 0) ∧ w = w' := by
  have hnil : ∀ W : World, (binOp .eql 42 (.slice none 0 0) (.slice none 0 0)).run Try.prog W = .ok (.bool true) W := fun W => by
    rw [Lib.run_eql_slice_nil W 42 5 _ 0 0 0 0 Try.underlying42]
    rfl
  go_enter Try.func67, Try.ntmps67
  go_wp2
  go_ret
  exact ⟨rfl, rfl⟩
theorem tp_clone_any (w : World) (v : Value) (l : List Nat) (hp : Bytes w w.heap.size v l) (hlong : l.length ≤ 140737488355328) :
    Calls Try.prog 67 #[v] w fun e w' => ∃ A2 n2 c2, e = .returned (.slice A2 n2 c2) ∧ Mine w' w.heap.size A2 n2 c2 l ∧ Below w.heap.size w w' := by
  obtain ⟨A, c, rfl, hl, hc, hn⟩ := hp.form
  rcases A with _ | ad
  · have hl0 : l = [] := by
      have h1 := hl.empty
      rw [← List.length_eq_zero_iff, ← byt_length, h1]
      rfl
    subst hl0
    obtain rfl := hn rfl
    exact (clone_none w).mono fun e w' ⟨he, hw⟩ => ⟨none, 0, 0, he, ⟨World.ownsRow_nil _ _ _ _, rfl, by simp⟩, by rw [← hw]; exact Below.refl _ _⟩
  · exact clone_some w ad _ c l hp hlong
end Go.Proofs.Ytdphpjlhkamadaa
