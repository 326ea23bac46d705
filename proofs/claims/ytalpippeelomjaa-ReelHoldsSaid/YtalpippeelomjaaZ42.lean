/- LCar: joined by program (tools/merge.py). -/
import Derived.Test.YtalpippeelomjaaZ41
namespace Go.Proofs.Ytalpippeelomjaa
open Go.RowKit Go.Shelf
set_option linter.unusedSimpArgs false
set_option linter.unusedVariables false
/-- A beginning of a record is none. -/
theorem noRec_short {r : List Nat} (hr : r.length ≤ 65536) (hs : ∀ b ∈ r, b < 256) {s : Nat} (h : s < (rec1 r).length) : NoRec ((rec1 r).take s) := by
  refine Bool.eq_false_iff.2 fun ht => ?_
  have hsm : ∀ b ∈ (rec1 r).take s, b < 256 := fun b hb => rec1_small hs b (List.mem_of_mem_take hb)
  obtain ⟨h1, h2⟩ := takeText_back hsm ht
  have e1 := takeText_rec (s := r) (r := []) (M := 65536) hr (by omega)
  have e2 := takeText_rec (s := (takeText ((rec1 r).take s) 65536).1) (r := (takeText ((rec1 r).take s) 65536).2.1 ++ (rec1 r).drop s) (M := 65536) h2 (by omega)
  rw [← List.append_assoc, ← h1, List.take_append_drop] at e2
  rw [List.append_nil, e2] at e1
  have e3 : (takeText ((rec1 r).take s) 65536).2.1 ++ (rec1 r).drop s = [] := congrArg (fun x => x.2.1) e1
  have e4 := congrArg List.length e3
  rw [List.length_append, List.length_drop, List.length_nil] at e4
  omega
/-- A beginning of a row begins with its first records. -/
theorem cut_begins : ∀ (ls : List (List Nat)) (s : Nat), Fit ls → (∀ r ∈ ls, ∀ b ∈ r, b < 256) → ∃ j, j ≤ ls.length ∧ cutL ((layR ls).take s) = ls.take j
  | [], s, _, _ => ⟨0, Nat.le_refl _, by rw [layR_nil, List.take_nil]; exact cutL_none noRec_nil⟩
  | r :: ls, s, hf, hs => by
    have hr := hf r (by simp)
    have hrs := hs r (by simp)
    rw [layR_cons]
    by_cases h : (rec1 r).length ≤ s
    · obtain ⟨d, rfl⟩ : ∃ d, s = (rec1 r).length + d := ⟨s - (rec1 r).length, by omega⟩
      rw [List.take_length_add_append]
      obtain ⟨j, hj, e⟩ := cut_begins ls d (fun x hx => hf x (by simp [hx])) (fun x hx => hs x (by simp [hx]))
      have e1 := takeText_rec (s := r) (r := (layR ls).take d) (M := 65536) hr (by omega)
      have hsm : ∀ b ∈ rec1 r ++ (layR ls).take d, b < 256 := fun b hb => by
        rcases List.mem_append.1 hb with hb | hb
        · exact rec1_small hrs b hb
        · exact layR_small (fun x hx => hs x (by simp [hx])) b (List.mem_of_mem_take hb)
      refine ⟨j + 1, by simp; omega, ?_⟩
      rw [cutL_step hsm (by rw [e1]), e1]
      show r :: cutL ((layR ls).take d) = _
      rw [e]
      rfl
    · have hlt : s < (rec1 r).length := by omega
      rw [List.take_append_of_le_length (by omega)]
      exact ⟨0, Nat.zero_le _, cutL_none (noRec_short hr hrs hlt)⟩
theorem Parts.along {w w' : World} {v : Value} {ls : List (List Nat)} (h : Parts w w.heap.size v ls) (hb : Below w.heap.size w w') : Parts w' w'.heap.size v ls := by
  obtain ⟨⟨A, c, vs, hv, hvl, hL, hB⟩, hlong⟩ := h
  exact ⟨⟨A, c, vs, hv, hvl, (hL.below hb).up hb.size, fun j u l hj hl => (hB j u l hj hl).along hb⟩, hlong⟩
theorem layR_le {m : Nat} : ∀ {ls : List (List Nat)}, (∀ r ∈ ls, r.length ≤ m) → m ≤ 65536 → (layR ls).length ≤ ls.length * (m + 5)
  | [], _, _ => by simp [layR]
  | r :: ls, h, hm => by
    have h1 := layR_le (ls := ls) (fun x hx => h x (by simp [hx])) hm
    have h2 := h r (by simp)
    have h3 := num_length_le 2 r.length (by omega)
    rw [layR_cons, List.length_append, List.length_cons, Nat.succ_mul]
    unfold rec1
    rw [List.length_append]
    omega
/-- Rows and bytes that lie in a world. -/
def Car (W : World) (vs : List (Value × List (List Nat))) (bs : List (Value × List Nat)) : Prop := (∀ p ∈ vs, Parts W W.heap.size p.1 p.2) ∧ ∀ p ∈ bs, Bytes W W.heap.size p.1 p.2
theorem Car.along {W W' : World} {vs : List (Value × List (List Nat))} {bs : List (Value × List Nat)} (h : Car W vs bs) (hb : Below W.heap.size W W') : Car W' vs bs := ⟨fun p hp => (h.1 p hp).along hb, fun p hp => (h.2 p hp).along hb⟩
theorem Car.addP {W : World} {vs : List (Value × List (List Nat))} {bs : List (Value × List Nat)} (h : Car W vs bs) {v : Value} {ls : List (List Nat)} (hp : Parts W W.heap.size v ls) : Car W ((v, ls) :: vs) bs := ⟨fun p hp' => by
  rcases List.mem_cons.1 hp' with rfl | hp'
  · exact hp
  · exact h.1 p hp', h.2⟩
theorem Car.addB {W : World} {vs : List (Value × List (List Nat))} {bs : List (Value × List Nat)} (h : Car W vs bs) {v : Value} {l : List Nat} (hp : Bytes W W.heap.size v l) : Car W vs ((v, l) :: bs) := ⟨h.1, fun p hp' => by
  rcases List.mem_cons.1 hp' with rfl | hp'
  · exact hp
  · exact h.2 p hp'⟩
theorem Car.p {W : World} {vs : List (Value × List (List Nat))} {bs : List (Value × List Nat)} (h : Car W vs bs) (v : Value) (ls : List (List Nat)) (hm : (v, ls) ∈ vs) : Parts W W.heap.size v ls := h.1 _ hm
theorem Car.b {W : World} {vs : List (Value × List (List Nat))} {bs : List (Value × List Nat)} (h : Car W vs bs) (v : Value) (l : List Nat) (hm : (v, l) ∈ bs) : Bytes W W.heap.size v l := h.2 _ hm
theorem rows3_more {w wr y w6 : World} {base dn g6 k6 : Nat} {Ao : Option Addr} {co : Nat} {ds : List (List Nat)} {vs : List Value} {tx : List Nat} {u : Value} (hg6 : y.grownBy w6 (Value.slice Ao dn co).ownBlock) (hown6 : w6.ownsRow base 43 1 (.slice (some ⟨g6, 0, none⟩) (dn + 1) k6) (dn + 1) (vs ++ [u])) (hdn : dn = ds.length) (hv1 : vs.length = ds.length) (hv2 : wr.ownsRow base 43 1 (.slice Ao dn co) dn vs)
    (hv3 : ∀ (j : Nat) (u : Value) (l : List Nat), vs[j]? = some u → ds[j]? = some l → TBytes wr u l) (hb : Below base w wr) (hbs : base ≤ wr.heap.size) (hby : Below wr.heap.size wr y) (hu : TBytes y u tx) :
    Rows3 w6 base (.slice (some ⟨g6, 0, none⟩) (dn + 1) k6) (ds ++ [tx]) ∧ Below base w w6 := by
  subst hdn
  have ho := ownsRow_below hv2 hby
  refine ⟨Rows3.snoc hv1 ho (fun j u l hj hl => (hv3 j u l hj hl).keep (.of_below hby)) hu hg6 hown6, ?_⟩
  exact (hb.trans (hby.mono hbs)).grown hg6 (Nat.le_trans hbs hby.size) (fun k hk => (own_block_lt ho hk).1)
end Go.Proofs.Ytalpippeelomjaa
