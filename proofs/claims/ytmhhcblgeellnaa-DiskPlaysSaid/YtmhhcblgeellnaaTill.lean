/- A region that draws its order, loads first and stores later over what it has loaded: for each named operation (a store) a condition on the world that is owed only till that operation has come up. -/
import Derived.Deep.RegionHeld3
namespace Go.Proofs.Ytmhhcblgeellnaa
open Go

section
variable {P : Program} {ops : Array Oper} {Q : Exit → Act → World → Prop} {md : Region.Mode} {ss : List Nat} {C : Nat → World → Prop}

/-- Of each named operation that has not come up: its condition. -/
def Held (ss : List Nat) (C : Nat → World → Prop) (listed : Array Bool) (w : World) : Prop := ∀ s ∈ ss, listed.getD s true = false → C s w
/-- Whatever order is picked from here on; behind each operation the conditions that are still owed hold. -/
def anyTill (P : Program) (md : Region.Mode) (ops : Array Oper) (Q : Exit → Act → World → Prop) (ss : List Nat) (C : Nat → World → Prop) : Nat → Array Bool → Act → World → Prop
  | 0, listed, a, w => Region.ready md ops listed = [] ∧ Q .normal a w
  | n + 1, listed, a, w =>
    (Region.ready md ops listed = [] → Q .normal a w) ∧
    ∀ i ∈ Region.ready md ops listed, wpOp P ops Q i (fun a' w' => Held ss C (listed.setIfInBounds i true) w' ∧ anyTill P md ops Q ss C n (listed.setIfInBounds i true) a' w') a w

theorem any_of_till : ∀ (n : Nat) (listed : Array Bool) (a : Act) (w : World), anyTill P md ops Q ss C n listed a w → wpAny P md ops Q n listed a w
  | 0, _, _, _, h => h
  | n + 1, _, _, _, h => ⟨h.1, fun i hi => wpOp_mono (fun a' w' h' => any_of_till n _ a' w' h'.2) (h.2 i hi)⟩

theorem Held.on {listed : Array Bool} {w : World} {i : Nat} (h : Held ss C listed w) : Held ss C (listed.setIfInBounds i true) w := fun s hs hl => by
  by_cases e : i = s
  · subst e
    rcases Nat.lt_or_ge i listed.size with h1 | h1
    · simp [h1] at hl
    · exfalso
      have h2 : ¬ i < listed.size := by omega
      simp [h2] at hl
  · rw [getD_set_ne true e] at hl
    exact h s hs hl
theorem Held.off {listed : Array Bool} {w : World} {i : Nat} (hi : i ∉ ss) (h : Held ss C (listed.setIfInBounds i true) w) : Held ss C listed w := fun s hs hl =>
  h s hs (by rw [getD_set_ne true (fun e : i = s => hi (by rw [e]; exact hs))]; exact hl)

/-- Does s wait for i, be it by way of others? -/
def waits (md : Region.Mode) (ops : Array Oper) : Nat → Nat → Nat → Bool
  | 0, _, _ => false
  | n + 1, s, i => ((ops[s]?).map fun o => o.after.any fun e => Region.binds md e && (e.on == i || waits md ops n e.on i)).getD false
/-- What has come up waits for nothing that has not. -/
def Closed (md : Region.Mode) (ops : Array Oper) (listed : Array Bool) : Prop := ∀ j o, ops[j]? = some o → listed.getD j false = true → ∀ e ∈ o.after, Region.binds md e = true → listed.getD e.on false = true
def closedB (md : Region.Mode) (ops : Array Oper) (listed : Array Bool) : Bool := (List.range ops.size).all fun j => !(listed.getD j false) || ((ops[j]?).map fun o => o.after.all fun e => !(Region.binds md e) || listed.getD e.on false).getD true
theorem closedB_spec {listed : Array Bool} (h : closedB md ops listed = true) : Closed md ops listed := fun j o ho hj e he hb => by
  have h1 := List.all_eq_true.1 h j (List.mem_range.2 (Array.getElem?_eq_some_iff.1 ho).1)
  rw [hj, ho] at h1
  simp only [Bool.not_true, Bool.false_or, Option.map_some, Option.getD_some, Array.all_eq_true] at h1
  obtain ⟨k, hk, hke⟩ := Array.mem_iff_getElem.1 he
  have h2 := h1 k hk
  rw [hke, hb] at h2
  simpa using h2
theorem Closed.on {listed : Array Bool} {i : Nat} (h : Closed md ops listed) (hr : i ∈ Region.ready md ops listed) : Closed md ops (listed.setIfInBounds i true) := fun j o ho hj e he hb => by
  by_cases hji : i = j
  · subst hji
    obtain ⟨_, o2, ho2, hall⟩ := mem_ready.1 hr
    rw [ho] at ho2
    injection ho2 with ho2
    subst ho2
    exact getD_set_true (hall e he hb)
  · rw [getD_set_ne false hji] at hj
    exact getD_set_true (h j o ho hj e he hb)
theorem waits_on {listed : Array Bool} (hc : Closed md ops listed) : ∀ (n s i : Nat), waits md ops n s i = true → (∀ o, ops[s]? = some o → ∀ e ∈ o.after, Region.binds md e = true → listed.getD e.on false = true) → listed.getD i false = true := by
  intro n
  induction n with
  | zero => intro s i h; cases h
  | succ n ih =>
    intro s i h hall
    unfold waits at h
    cases ho : ops[s]? with
    | none => rw [ho] at h; cases h
    | some o =>
      rw [ho] at h
      simp only [Option.map_some, Option.getD_some, Array.any_eq_true] at h
      obtain ⟨k, hk, h2⟩ := h
      simp only [Bool.and_eq_true, Bool.or_eq_true, beq_iff_eq] at h2
      have h3 := hall o ho o.after[k] (Array.getElem_mem hk) h2.1
      rcases h2.2 with h4 | h4
      · rw [h4] at h3; exact h3
      · exact ih _ i h4 (fun o2 ho2 e he hb => hc _ o2 ho2 h3 e he hb)
theorem waits_spec {n s i : Nat} (h : waits md ops n s i = true) {listed : Array Bool} (hc : Closed md ops listed) (hr : s ∈ Region.ready md ops listed) : listed.getD i false = true := by
  obtain ⟨_, o, ho, hall⟩ := mem_ready.1 hr
  exact waits_on hc n s i h (fun o2 ho2 => by rw [ho] at ho2; injection ho2 with ho2; subst ho2; exact hall)

theorem till_first {s i : Nat} {oi : Oper} {v : Value} (hi : ops[i]? = some oi) (hsel : ∀ (j : Nat) (o : Oper) cs b, ops[j]? = some o → o.op ≠ .select cs b)
    (hQ : ∀ c a w, Q (.panic c) (a.put oi.dst v) w → Q (.panic c) a w) (his : i ∉ ss) (hss : s ∈ ss) {nw : Nat} (hw : waits md ops nw s i = true) :
    ∀ (n : Nat) (listed : Array Bool) (a : Act) (w : World),
      (∀ j oj, ops[j]? = some oj → j ≠ i → listed.getD j true = false → (∀ e ∈ oj.after, Region.binds md e = true → e.on ≠ i) → oi.apart ops oj = true) →
      i ∈ Region.ready md ops listed → YieldsIf P ops (C s) oi v a → Held ss C listed w → listed.getD s true = false → Closed md ops listed →
      anyTill P md ops Q ss C n (listed.setIfInBounds i true) (a.put oi.dst v) w → anyTill P md ops Q ss C (n + 1) listed a w := by
  intro n
  induction n with
  | zero =>
    intro listed a w _ hr hy hS hls hcl H
    refine ⟨fun h => (by rw [h] at hr; cases hr), fun j hj => ?_⟩
    by_cases hji : j = i
    · subst hji; exact hy.wpOp hi (hS s hss hls) ⟨hS.on, H⟩
    · have := ready_mono hj hji
      rw [H.1] at this
      cases this
  | succ n ih =>
    intro listed a w hfree hr hy hS hls hcl H
    refine ⟨fun h => (by rw [h] at hr; cases hr), fun j hj => ?_⟩
    by_cases hji : j = i
    · subst hji; exact hy.wpOp hi (hS s hss hls) ⟨hS.on, H⟩
    · have hun : listed.getD i false ≠ true := fun h => by
        have h0 := (mem_ready.1 hr).1
        rcases Nat.lt_or_ge i listed.size with h' | h'
        · simp [h'] at h0 h; rw [h0] at h; cases h
        · simp [Array.getElem?_eq_none h'] at h
      have hjs : j ≠ s := fun e => hun (waits_spec hw hcl (e ▸ hj))
      have h1 := H.2 j (ready_mono hj hji)
      obtain ⟨hjun, oj, hoj, hall⟩ := mem_ready.1 hj
      have hnot : ∀ e ∈ oj.after, Region.binds md e = true → e.on ≠ i := fun e he hb heq => hun (heq ▸ hall e he hb)
      have h2 := wpOp_putIf hoj (hfree j oj hoj hji hjun hnot) (fun cs b => hsel i oi cs b hi) (fun cs b => hsel j oj cs b hoj) hQ hy h1
      have hfree' : ∀ k ok, ops[k]? = some ok → k ≠ i → (listed.setIfInBounds j true).getD k true = false →
          (∀ e ∈ ok.after, Region.binds md e = true → e.on ≠ i) → oi.apart ops ok = true := fun k ok hk hki hun2 hno => by
        refine hfree k ok hk hki ?_ hno
        by_cases hjk : j = k
        · subst hjk; exact hjun
        · rw [getD_set_ne true hjk] at hun2; exact hun2
      refine wpOp_mono (fun a' w' h3 => ?_) h2
      have h4 := h3.2.1
      rw [Array.setIfInBounds_comm _ _ (Ne.symm hji)] at h4
      have hSw : Held ss C (listed.setIfInBounds j true) w' := h4.off his
      refine ⟨hSw, ih (listed.setIfInBounds j true) a' w' hfree' (ready_mono hr (Ne.symm hji)) h3.1 hSw (by rw [getD_set_ne true hjs]; exact hls) (hcl.on hj) ?_⟩
      rw [Array.setIfInBounds_comm _ _ hji]
      exact h3.2.2

/-- Number i is taken first, under the condition of s. -/
theorem till_take (s : Nat) {i : Nat} {oi : Oper} {v : Value} {n : Nat} {listed : Array Bool} {a : Act} {w : World} (dst : Option Tmp) (hi : ops[i]? = some oi) (hd : oi.dst = dst)
    (hs : Region.noSelect ops = true) (hf : Region.free md ops listed i = true) (hr : (Region.ready md ops listed).contains i = true) (hw : (!(ss.contains i) && ss.contains s && waits md ops 8 s i && !(listed.getD s true) && closedB md ops listed) = true)
    (hQ : ∀ c a w, Q (.panic c) (a.put oi.dst v) w → Q (.panic c) a w) (hy : YieldsIf P ops (C s) oi v a) (hS : Held ss C listed w)
    (h : Held ss C (listed.setIfInBounds i true) w → anyTill P md ops Q ss C n (listed.setIfInBounds i true) (a.put dst v) w) : anyTill P md ops Q ss C (n + 1) listed a w := by
  simp only [Bool.and_eq_true, Bool.not_eq_true', List.contains_eq_mem, decide_eq_false_iff_not, decide_eq_true_eq] at hw
  subst hd
  exact till_first hi (Region.noSelect_spec hs) hQ hw.1.1.1.1 hw.1.1.1.2 hw.1.1.2 n listed a w (Region.free_spec hi hf) (by simpa using hr) hy hS hw.1.2 (closedB_spec hw.2) (h hS.on)

def AllTill (P : Program) (md : Region.Mode) (ops : Array Oper) (Q : Exit → Act → World → Prop) (ss : List Nat) (C : Nat → World → Prop) (n : Nat) (listed : Array Bool) (a : Act) (w : World) (rs : List Nat) : Prop :=
  ∀ i ∈ rs, wpOp P ops Q i (fun a' w' => Held ss C (listed.setIfInBounds i true) w' ∧ anyTill P md ops Q ss C n (listed.setIfInBounds i true) a' w') a w
theorem AllTill.nil {n : Nat} {listed : Array Bool} {a : Act} {w : World} : AllTill P md ops Q ss C n listed a w [] := fun _ h => by cases h
theorem AllTill.cons {n : Nat} {listed : Array Bool} {a : Act} {w : World} {i : Nat} {o : Oper} {rs : List Nat} (ho : ops[i]? = some o)
    (h : ∀ K' : Act → World → Prop, Shut (∀ a w, Held ss C (listed.setIfInBounds i true) w → (Held ss C (listed.setIfInBounds i true) w → anyTill P md ops Q ss C n (listed.setIfInBounds i true) a w) → K' a w) → if Region.wanted o (yielded ops a.tmps) = true then Oper.wp P o a w K' Q else K' (a.put o.dst undef) w)
    (hs : AllTill P md ops Q ss C n listed a w rs) : AllTill P md ops Q ss C n listed a w (i :: rs) := fun j hj => by
  rcases List.mem_cons.1 hj with rfl | hj
  · exact wpOp_step ho (fun K' hK => h K' (fun a w hS hW => hK a w ⟨hS, hW hS⟩))
  · exact hs j hj
theorem till_ready {rs : List Nat} {n : Nat} {listed : Array Bool} {a : Act} {w : World} (hr : Region.ready md ops listed = rs) (hne : rs ≠ [])
    (h : AllTill P md ops Q ss C n listed a w rs) : anyTill P md ops Q ss C (n + 1) listed a w := ⟨fun h0 => absurd (hr ▸ h0) hne, hr ▸ h⟩
theorem till_done {listed : Array Bool} {a : Act} {w : World} (hr : Region.ready md ops listed = []) (h : Q .normal a w) : ∀ n, anyTill P md ops Q ss C n listed a w
  | 0 => ⟨hr, h⟩
  | _ + 1 => ⟨fun _ => h, by rw [hr]; simp⟩
theorem region_till (ss : List Nat) (C : Nat → World → Prop) {id : Nat} {a : Act} {w : World} (hm : P.follows .mixedOrders = true) (hS : ∀ s, C s w.drew)
    (h : Held ss C (Array.replicate ops.size false) w.drew → anyTill P .any ops Q ss C ops.size (Array.replicate ops.size false) a w.drew) : (Code.region id ops true).wp P Q a w :=
  wp_region_any hm (any_of_till _ _ _ _ (h fun s _ _ => hS s))
/-- Two conditions: one till operation s, one till operation t. -/
def twoC (s t : Nat) (A B : World → Prop) : Nat → World → Prop := fun k x => (k = s → A x) ∧ (k = t → B x)
theorem twoC_one {s t : Nat} {A B : World → Prop} {x : World} (h : twoC s t A B s x) : A x := h.1 rfl
theorem twoC_two {s t : Nat} {A B : World → Prop} {x : World} (h : twoC s t A B t x) : B x := h.2 rfl
theorem held_two {s t : Nat} {A B : World → Prop} {listed : Array Bool} {x : World} (hA : listed.getD s true = false → A x) (hB : listed.getD t true = false → B x) : Held ss (twoC s t A B) listed x :=
  fun _ _ hl => ⟨fun e => hA (e ▸ hl), fun e => hB (e ▸ hl)⟩
end
end Go.Proofs.Ytmhhcblgeellnaa
