/- KSh, GState: joined by program (tools/merge.py). -/
import Derived.Test.YtecbaceinifjiaaGreatDoorZ0
import Derived.Test.YtecbaceinifjiaaGreatDoorKLaid
import Derived.Lib.SmallJoins
import Derived.Lib.AtoiErrMem
import Derived.Lib.AppendIntMem
import Derived.Lib.IndexLaws
import Derived.Lib.ParseIntB
import Derived.Lib.ItoaNum
import Derived.Lib.Strings
import Derived.Lib.LaidTab
import Derived.Lib.Join
import Derived.Lib.SlicesS
import Derived.Test.YtecbaceinifjiaaGreatDoorZ6
import Derived.Test.YtecbaceinifjiaaGreatDoorZ5
import Derived.Test.YtecbaceinifjiaaGreatDoorZ9
namespace Go.Proofs.YtecbaceinifjiaaGreatDoor
open Go.RowKit
set_option linter.unusedVariables false

/-- What the library's variables hold. -/
structure Vr (w : World) : Prop where
  syn : ∃ tp p, w.var? Tryz.prog "strconv.ErrSyntax" = some #[.iface tp p]
  rng : ∃ tp p, w.var? Tryz.prog "strconv.ErrRange" = some #[.iface tp p]
  tab : Lib.TabIs Tryz.prog w "internal/strconv.uint64pow10" .u64 Lib.pow10Tab
theorem var_on {w w' : World} {n : String} {cs : Array Value} (h : w.var? Tryz.prog n = some cs) (hb : Below w.heap.size w w') : w'.var? Tryz.prog n = some cs := by
  cases hg : (Tryz.prog).globalNamed n with
  | none => unfold World.var? at h; rw [hg] at h; cases h
  | some g => exact Joins.var_stays hg h hb (Nat.le_refl _)
theorem Vr.below {w w' : World} (h : Vr w) (hb : Below w.heap.size w w') : Vr w' := by
  obtain ⟨⟨t1, p1, h1⟩, ⟨t2, p2, h2⟩, h3⟩ := h
  exact ⟨⟨t1, p1, var_on h1 hb⟩, ⟨t2, p2, var_on h2 hb⟩, var_on h3 hb⟩
theorem tk_index_any (w : World) (s : ByteArray) :
    Calls Tryz.prog 38 #[.string s, .int .u8 10] w fun e w' => e = .returned (.int .i64 (Lib.indexByte s.data.toList 10)) ∧ w = w' :=
  (Tryz.strings_IndexByte s 10 w).mono fun e w' ⟨h, h2⟩ => ⟨h, h2.symm⟩
theorem prefix_any (w : World) (s p : ByteArray) :
    Calls Tryz.prog 60 #[.string s, .string p] w fun e w' => e = .returned (.bool (Lib.hasPrefix s.data.toList p.data.toList)) ∧ w = w' :=
  (Tryz.strings_HasPrefix s p w).mono fun e w' ⟨h, h2⟩ => ⟨h, h2.symm⟩
theorem contains_any (w : World) (b n c : Nat) (zs : List ByteArray) (x : ByteArray) (hz : zs.length = n) (hn : n ≤ 100) (hc : ∀ j y, zs[j]? = some y → w.cell? ⟨b, j, none⟩ = some (.string y)) :
    Calls Tryz.prog 61 #[.slice (some ⟨b, 0, none⟩) n c, .string x] w fun e w' => e = .returned (.bool (Lib.containsS zs x)) ∧ w = w' := by
  have H := Tryz.slices_Contains_string b 0 n c zs x w (by omega) (by omega) fun j hj => by
    rw [Nat.zero_add]
    exact hc j _ (by rw [List.getD_eq_getElem?_getD, List.getElem?_eq_getElem hj]; rfl)
  rw [List.take_of_length_le (by omega)] at H
  exact H.mono fun e w' ⟨h, h2⟩ => ⟨h, h2.symm⟩
theorem tk_clone_any (w : World) (s : ByteArray) (hs : s.size ≤ 281474976710656) :
    Calls Tryz.prog 29 #[.string s] w fun e w' => e = .returned (.string s) ∧ Below w.heap.size w w' := by
  have H := fun (x : World) => hide (Tryz.stringslite_Clone s x hs)
  go_enter Tryz.func29, Tryz.ntmps29
  go_wp2_with (go_at_call 44; (with_reducible refine (unhide (H _)).mono ?_); rintro e w1 ⟨rfl, hb⟩; have HB := Lib.hid hb; clear hb)
  go_ret
  exact ⟨rfl, HB.out⟩
theorem tk_parse_any (w : World) (s : ByteArray) (hs : s.size ≤ 281474976710656) (hv : Vr w) :
    Calls Tryz.prog 63 #[.string s, .int .i64 10, .int .i64 64] w fun e w' => ((∃ v, Lib.parseIntB 64 s.data.toList = .ok v ∧ e = .returned (.tuple #[.int .i64 v, .nilIface])) ∨ ((∀ v, Lib.parseIntB 64 s.data.toList ≠ .ok v) ∧ ∃ v t p, e = .returned (.tuple #[.int .i64 v, .iface t p]))) ∧ Below w.heap.size w w' := by
  obtain ⟨⟨t1, p1, h1⟩, ⟨t2, p2, h2⟩, _⟩ := hv
  rcases h : Lib.parseIntB 64 s.data.toList with v | _ | _
  · exact (Tryz.strconv_ParseInt_10_at64_ok s (by omega) v h w).mono fun e w' ⟨he, hw⟩ => ⟨.inl ⟨v, rfl, he⟩, by
      rcases hw with rfl | ⟨t, rfl⟩
      · exact Below.refl _ _
      · exact Joins.below_bytesWorld _ w _ t (Nat.le_refl _)⟩
  · exact (Any.strconv_ParseInt_10_at64_syntax_var Tryz.laysC174 s hs h t1 p1 w h1).mono fun e w' ⟨k, he, _, _, hb⟩ => ⟨.inr ⟨(by intro v; simp), _, _, _, he⟩, hb⟩
  · exact (Any.strconv_ParseInt_10_at64_range_var Tryz.laysC174 s hs h t2 p2 w h2).mono fun e w' ⟨k, he, _, _, hb⟩ => ⟨.inr ⟨(by intro v; simp), _, _, _, he⟩, hb⟩
theorem format_any (w : World) (n : Int) (h0 : -9223372036854775808 ≤ n) (h1 : n ≤ 9223372036854775807) (hv : Vr w) :
    Calls Tryz.prog 64 #[.int .i64 n, .int .i64 10] w fun e w' => e = .returned (.string ⟨(Lib.itoa n).toArray⟩) ∧ Below w.heap.size w w' :=
  (Tryz.strconv_FormatInt_10 n h0 h1 w hv.tab).mono fun e w' ⟨he, k, os, hw⟩ => ⟨he, by rw [hw]; exact Lib.below_grow _ w (Nat.le_refl _) k os⟩
end Go.Proofs.YtecbaceinifjiaaGreatDoor
namespace Go.Proofs.YtecbaceinifjiaaGreatDoor
open Go.RowKit
set_option linter.unusedSimpArgs false
set_option linter.unusedVariables false
set_option maxRecDepth 100000
def kindOf : Obj → Option TypeId
  | .cells _ t _ => some t
  | _ => none
theorem diff_block {w : World} {b j : Nat} {o : Obj} {cs : Array Value} {t : TypeId} {z : Nat × Nat} (hb : w.heap[b]? = some o) (hj : w.heap[j]? = some (.cells cs t z)) (h : kindOf o ≠ some t) : j ≠ b := fun e => by
  subst e
  rw [hb] at hj
  injection hj with hj
  subst hj
  exact h rfl
theorem diff_map {w : World} {b j : Nat} {o : Obj} {es : Array MapEntry} {clock : Nat} (hb : w.heap[b]? = some o) (hj : w.heap[j]? = some (.map es clock)) (h : kindOf o ≠ none) : j ≠ b := fun e => by
  subst e
  rw [hb] at hj
  injection hj with hj
  subst hj
  exact h rfl
/-- The tokens that are left: v reads as them. -/
def TokIn (w : World) (v : Value) (ts : List Tok) : Prop :=
  ∃ A c, v = .slice A ts.length c ∧ ts.length ≤ c ∧ c ≤ maxLen ∧ ∀ (i : Nat) (t : Tok), ts[i]? = some t → ∃ g k, A = some ⟨g, k, none⟩ ∧ (∃ cs z, w.heap[g]? = some (.cells cs 74 z)) ∧
    w.cell? ⟨g, k + i * 3, none⟩ = some (.int .u8 (t.kind : Int)) ∧ w.cell? ⟨g, k + i * 3 + 1, none⟩ = some (.string (ba t.text)) ∧ w.cell? ⟨g, k + i * 3 + 2, none⟩ = some (.int .i64 (t.at_ : Int))
theorem TokIn.nil (w : World) : TokIn w (.slice none 0 0) [] := ⟨none, 0, rfl, Nat.le_refl _, by decide, fun i t h => by simp at h⟩
theorem TokIn.at_ {w w' : World} {v : Value} {ts : List Tok} (h : TokIn w v ts) (hk : ∀ (j : Nat) (cs : Array Value) (z : Nat × Nat), w.heap[j]? = some (.cells cs 74 z) → w'.heap[j]? = w.heap[j]?) : TokIn w' v ts := by
  obtain ⟨A, c, e, h1, h2, h3⟩ := h
  refine ⟨A, c, e, h1, h2, fun i t hi => ?_⟩
  obtain ⟨g, k, eA, ⟨cs, z, hg⟩, c0, c1, c2⟩ := h3 i t hi
  have hgg := hk g cs z hg
  exact ⟨g, k, eA, ⟨cs, z, hgg.trans hg⟩, (World.cell?_of_block hgg).trans c0, (World.cell?_of_block (a := ⟨g, k + i * 3 + 1, none⟩) hgg).trans c1, (World.cell?_of_block (a := ⟨g, k + i * 3 + 2, none⟩) hgg).trans c2⟩
theorem TokIn.head {w : World} {v : Value} {t : Tok} {ts : List Tok} (h : TokIn w v (t :: ts)) : ∃ g k c, v = .slice (some ⟨g, k, none⟩) (ts.length + 1) c ∧ ts.length + 1 ≤ c ∧ c ≤ maxLen ∧
    w.cell? ⟨g, k, none⟩ = some (.int .u8 (t.kind : Int)) ∧ w.cell? ⟨g, k + 1, none⟩ = some (.string (ba t.text)) ∧ w.cell? ⟨g, k + 2, none⟩ = some (.int .i64 (t.at_ : Int)) ∧
    TokIn w (.slice (if c = 1 then some ⟨g, k, none⟩ else some ⟨g, k + 3, none⟩) ts.length (c - 1)) ts := by
  obtain ⟨A, c, e, h1, h2, h3⟩ := h
  obtain ⟨g, k, eA, hg, c0, c1, c2⟩ := h3 0 t rfl
  subst eA
  rw [List.length_cons] at e h1
  refine ⟨g, k, c, e, h1, h2, by simpa using c0, by simpa using c1, by simpa using c2, ⟨_, c - 1, rfl, by omega, by omega, fun i u hi => ?_⟩⟩
  have hi2 : i < ts.length := (List.getElem?_eq_some_iff.1 hi).1
  obtain ⟨g', k', eA, hg', d0, d1, d2⟩ := h3 (i + 1) u (by simpa using hi)
  injection eA with eA
  injection eA with e1 e2
  subst e1 e2
  rw [if_neg (by omega)]
  refine ⟨g, k + 3, rfl, hg', ?_, ?_, ?_⟩
  · rw [show k + 3 + i * 3 = k + (i + 1) * 3 by omega]; exact d0
  · rw [show k + 3 + i * 3 + 1 = k + (i + 1) * 3 + 1 by omega]; exact d1
  · rw [show k + 3 + i * 3 + 2 = k + (i + 1) * 3 + 2 by omega]; exact d2
/-- The cells of a node. -/
def nCells (n : Nd) (kv : Value) : List Value := [.int .u8 (n.kind : Int), .string n.name, .int .i64 n.num, .int .u8 (n.typ : Int), .int .u64 (n.ref : Int), kv]
def rowC : List Nd → List Value → List Value
  | n :: ns, kv :: kvs => nCells n kv ++ rowC ns kvs
  | _, _ => []
theorem rowC_length : ∀ {ns : List Nd} {kvs : List Value}, kvs.length = ns.length → (rowC ns kvs).length = ns.length * 6
  | [], [], _ => rfl
  | n :: ns, kv :: kvs, h => by
    show (nCells n kv ++ rowC ns kvs).length = _
    rw [List.length_append, rowC_length (by simpa using h), List.length_cons]
    show 6 + _ = _
    omega
theorem rowC_snoc : ∀ {ns : List Nd} {kvs : List Value} (n : Nd) (kv : Value), kvs.length = ns.length → rowC (ns ++ [n]) (kvs ++ [kv]) = rowC ns kvs ++ nCells n kv
  | [], [], n, kv, _ => by simp [rowC]
  | m :: ns, k :: kvs, n, kv, h => by
    show nCells m k ++ rowC (ns ++ [n]) (kvs ++ [kv]) = nCells m k ++ rowC ns kvs ++ nCells n kv
    rw [rowC_snoc n kv (by simpa using h), List.append_assoc]
theorem rowC_at : ∀ {ns : List Nd} {kvs : List Value} {i j : Nat} {n : Nd} {kv : Value}, ns[i]? = some n → kvs[i]? = some kv → j < 6 → (rowC ns kvs)[i * 6 + j]? = (nCells n kv)[j]?
  | m :: ns, k :: kvs, 0, j, n, kv, h1, h2, hj => by
    simp at h1 h2
    subst h1 h2
    show (nCells m k ++ rowC ns kvs)[0 * 6 + j]? = _
    rw [Nat.zero_mul, Nat.zero_add, List.getElem?_append_left (by show j < 6; omega)]
  | m :: ns, k :: kvs, i + 1, j, n, kv, h1, h2, hj => by
    show (nCells m k ++ rowC ns kvs)[(i + 1) * 6 + j]? = _
    rw [List.getElem?_append_right (by show 6 ≤ _; omega)]
    show (rowC ns kvs)[(i + 1) * 6 + j - 6]? = _
    rw [show (i + 1) * 6 + j - 6 = i * 6 + j by omega]
    exact rowC_at (by simpa using h1) (by simpa using h2) hj
theorem set_append_left {α : Type} {l m : List α} {k : Nat} {x : α} (h : k < l.length) : (l ++ m).set k x = l.set k x ++ m := by rw [List.set_append, if_pos h]
theorem set_append_right {α : Type} {l m : List α} {k : Nat} {x : α} (h : l.length ≤ k) : (l ++ m).set k x = l ++ m.set (k - l.length) x := by rw [List.set_append, if_neg (by omega)]
/-- One cell of one node is written. -/
theorem rowC_set : ∀ {ns : List Nd} {kvs : List Value} {i j : Nat} {n n' : Nd} {kv kv' : Value} {x : Value}, ns[i]? = some n → kvs[i]? = some kv → j < 6 → (nCells n kv).set j x = nCells n' kv' → (rowC ns kvs).set (i * 6 + j) x = rowC (ns.set i n') (kvs.set i kv')
  | m :: ns, k :: kvs, 0, j, n, n', kv, kv', x, h1, h2, hj, hx => by
    simp at h1 h2
    subst h1 h2
    show (nCells m k ++ rowC ns kvs).set (0 * 6 + j) x = nCells n' kv' ++ rowC ns kvs
    rw [Nat.zero_mul, Nat.zero_add, set_append_left (by show j < 6; omega), hx]
  | m :: ns, k :: kvs, i + 1, j, n, n', kv, kv', x, h1, h2, hj, hx => by
    show (nCells m k ++ rowC ns kvs).set ((i + 1) * 6 + j) x = nCells m k ++ rowC (ns.set i n') (kvs.set i kv')
    rw [set_append_right (by show 6 ≤ _; omega)]
    show nCells m k ++ (rowC ns kvs).set ((i + 1) * 6 + j - 6) x = _
    rw [show (i + 1) * 6 + j - 6 = i * 6 + j by omega, rowC_set (by simpa using h1) (by simpa using h2) hj hx]
/-- The nodes, with their rows of kids. -/
structure NodeRow (w : World) (base : Nat) (v : Value) (kvs : List Value) (ns : List Nd) : Prop where
  len : kvs.length = ns.length
  own : w.ownsRow base 44 6 v ns.length (rowC ns kvs)
  kid : ∀ (i : Nat) (n : Nd) (kv : Value), ns[i]? = some n → kvs[i]? = some kv → w.ownsRow base 30 1 kv n.kids.length (ids n.kids)
  apart : ∀ (i j : Nat) (a b : Value) (g : Nat), kvs[i]? = some a → kvs[j]? = some b → a.ownBlock = some g → b.ownBlock = some g → i = j
  ok : ∀ n ∈ ns, NdOk n ∧ (∀ k ∈ n.kids, k < 18446744073709551616) ∧ n.kids.length ≤ ns.length
theorem NodeRow.nil (w : World) (base : Nat) : NodeRow w base (.slice none 0 0) [] [] := ⟨rfl, World.ownsRow_nil _ _ _ _, by simp, by simp, by simp⟩
theorem NodeRow.at_ {w w' : World} {base : Nat} {v : Value} {kvs : List Value} {ns : List Nd} (h : NodeRow w base v kvs ns) (h1 : ∀ (j : Nat) (cs : Array Value), w.heap[j]? = some (.cells cs 44 (0, 0)) → w'.heap[j]? = w.heap[j]?)
    (h2 : ∀ (j : Nat) (cs : Array Value), w.heap[j]? = some (.cells cs 30 (0, 0)) → w'.heap[j]? = w.heap[j]?) : NodeRow w' base v kvs ns :=
  ⟨h.len, ownsRow_at h.own h1, fun i n kv e1 e2 => ownsRow_at (h.kid i n kv e1 e2) h2, h.apart, h.ok⟩
/-- What the parser's memory is made of. -/
structure GM where
  gp : Nat
  left : Value
  nv : Value
  kvs : List Value
  bm : Nat
  bf : Nat
  vt : Option Nat
  vv : Option Nat
  sv : Value
  cv : Value
def pcells (M : GM) (s : PS) : Array Value := #[M.left, .bool s.wrong, .int .i64 (s.depth : Int), M.nv, .map (some M.bm), .map (some M.bf), .map M.vt, .map M.vv, M.sv, M.cv, .int .i64 (s.fault : Int)]
/-- A map that may be none as yet. -/
def MapO (K : TypeId) (w : World) (b : Option Nat) (n : Nat) (f : Value → Nat) : Prop := (b = none ∧ ∀ v, f v = 0) ∨ ∃ g, b = some g ∧ MapF K w g n f
theorem MapO.at_ {K : TypeId} {w w' : World} {b : Option Nat} {n : Nat} {f : Value → Nat} (h : MapO K w b n f) (hb : ∀ g, b = some g → w'.heap[g]? = w.heap[g]?) : MapO K w' b n f := by
  rcases h with h | ⟨g, e, h⟩
  · exact .inl h
  · exact .inr ⟨g, e, h.at_ (hb g e)⟩
def strC (l : List (List Nat)) : List Value := l.map fun s => .string (ba s)
def callC (l : List (Nat × List Nat × List Nat)) : List Value := l.flatMap fun c => [.int .u64 (c.1 : Int), .string (ba c.2.1), .string (ba c.2.2)]
def OwnG (M : GM) (j : Nat) : Prop := j = M.gp ∨ M.nv.ownBlock = some j ∨ (∃ kv ∈ M.kvs, kv.ownBlock = some j) ∨ j = M.bm ∨ j = M.bf ∨ M.vt = some j ∨ M.vv = some j ∨ M.sv.ownBlock = some j ∨ M.cv.ownBlock = some j
/-- Texts that are names, signs, words. -/
def GoodT (t : Tok) : Prop := (∀ b ∈ t.text, b < 256) ∧ t.text.length ≤ 200000 ∧ t.kind < 256 ∧ t.at_ ≤ 200000 ∧ (t.kind = 2 → numL t.text = true ∧ runL t.text = t.text.length)
def GoodN (n : List Nat) : Prop := (∀ b ∈ n, b < 256) ∧ n.length ≤ 200000
def sgK (k : Nat) : List Nat := opsG.getD k []
/-- What the signs' table holds. -/
def Vg (w : World) : Prop := ∀ k, k < 13 → w.cell? ⟨0, k, none⟩ = some (.string (ba (sgK k)))
/-- What the variables hold that the calls read. -/
structure Vs (w : World) : Prop where
  vr : Vr w
  vg : Vg w
/-- The variables lie ahead of all that the parser owns. -/
structure GB (base : Nat) : Prop where
  b1 : 2 < base
  b2 : 3 < base
  b3 : 4 < base
  b4 : 0 < base
theorem var_low {w w' : World} {B g : Nat} {n : String} {cs : Array Value} (hg : Tryz.prog.globalNamed n = some g) (h : w.var? Tryz.prog n = some cs) (hb : Below B w w') (hB : g < B) : w'.var? Tryz.prog n = some cs := by
  unfold World.var? at h ⊢
  rw [hg] at h ⊢
  simp only [Option.bind_some] at h ⊢
  rw [hb.block g hB]
  exact h
theorem Vs.on {w w' : World} {B : Nat} (h : Vs w) (hb : Below B w w') (gb : GB B) : Vs w' := by
  obtain ⟨⟨⟨t1, p1, h1⟩, ⟨t2, p2, h2⟩, h3⟩, h4⟩ := h
  exact ⟨⟨⟨t1, p1, var_low (by kernel_rfl) h1 hb gb.b1⟩, ⟨t2, p2, var_low (by kernel_rfl) h2 hb gb.b2⟩, var_low (by kernel_rfl) h3 hb gb.b3⟩, fun k hk => (hb.cell (p := ⟨0, k, none⟩) gb.b4).trans (h4 k hk)⟩
structure GR (w : World) (base : Nat) (M : GM) (s : PS) : Prop where
  st : w.heap[M.gp]? = some (.cells (pcells M s) 59 (0, 0))
  left : TokIn w M.left s.left
  nodes : NodeRow w base M.nv M.kvs s.nodes
  mods : MapF 9 w M.bm s.cnt (fS s.mods)
  funs : MapF 78 w M.bf s.cnt (fP s.funs)
  taken : MapO 9 w M.vt s.cnt (fS s.taken)
  vis : MapO 9 w M.vv s.cnt (fS s.vis)
  shown : w.ownsRow base 9 1 M.sv s.shown.length (strC s.shown)
  calls : w.ownsRow base 80 3 M.cv s.calls.length (callC s.calls)
  o1 : base ≤ M.gp
  o2 : base ≤ M.bm
  o3 : base ≤ M.bf
  o4 : ∀ g, M.vt = some g → base ≤ g
  o5 : ∀ g, M.vv = some g → base ≤ g
  n1 : M.bm ≠ M.bf
  n2 : ∀ g, M.vt = some g → g ≠ M.bm ∧ g ≠ M.bf ∧ M.vv ≠ some g
  n3 : ∀ g, M.vv = some g → g ≠ M.bm ∧ g ≠ M.bf
  hb : base ≤ w.heap.size
  goodT : ∀ t ∈ s.left, GoodT t
  goodS : ∀ n ∈ s.shown, GoodN n
  goodC : ∀ c ∈ s.calls, GoodN c.2.1 ∧ GoodN c.2.2 ∧ c.1 < 18446744073709551616
  sum : s.left.length * 16 + s.nodes.length + s.cnt ≤ 10000000
  sh : s.shown.length ≤ s.cnt
  ca : s.calls.length ≤ s.cnt
  dep : s.depth ≤ 90
  flt : s.fault < 100
  vs : Vs w
  gb : GB base
  vb : ∀ n, s.vis n < 18446744073709551616
end Go.Proofs.YtecbaceinifjiaaGreatDoor
