/- DSmall, DCopy, DBlank, DAwake: joined by program (tools/merge.py). -/
import Derived.Test.YtalpippeelomjaaZ17
import Derived.Test.YtalpippeelomjaaZ19
import Derived.Test.YtalpippeelomjaaZ18
namespace Go.Proofs.Ytalpippeelomjaa
open Go.RowKit
set_option linter.unusedSimpArgs false

theorem write_arg {w : World} (gs : Nat) (i : Int) (A : Option Addr) (n c : Nat) (hn : n ≠ 512) :
    Calls Try.prog 32 #[.pointer (some ⟨gs, 0, none⟩), .int .i64 i, .slice A n c] w fun e w' => e = .returned (.int .i64 1) ∧ w = w' := by
  have h1 : ((n : Int) == 512) = false := by rw [beq_eq_false_iff_ne]; omega
  have h2 : ¬ (n : Int) = 512 := by omega
  go_enter Try.func32, Try.ntmps32
  go_wp2
  go_ret
  exact ⟨rfl, rfl⟩
theorem write_index {w : World} {gs : Nat} {b : DB} {dur : List (List Nat)} {pend : List (Nat × List Nat)} {wr bud : Int} (h : Disk w gs b dur pend wr bud) (i : Int) (hi : i < 0 ∨ (dur.length : Int) ≤ i) (A : Option Addr) (c : Nat) :
    Calls Try.prog 32 #[.pointer (some ⟨gs, 0, none⟩), .int .i64 i, .slice A 512 c] w fun e w' => e = .returned (.int .i64 6) ∧ w = w' := by
  have HH := hide (has_no h i hi)
  clear h hi
  go_enter Try.func32, Try.ntmps32
  go_wp2_with (go_at_call 60; (with_reducible refine (unhide HH).mono ?_); rintro e w' ⟨rfl, rfl⟩)
  go_ret
  exact ⟨rfl, rfl⟩
theorem write_off {w : World} {gs : Nat} {b : DB} {dur : List (List Nat)} {pend : List (Nat × List Nat)} {wr : Int} (h : Disk w gs b dur pend wr 0) (i : Nat) (hi : i < dur.length) (A : Option Addr) (c : Nat) :
    Calls Try.prog 32 #[.pointer (some ⟨gs, 0, none⟩), .int .i64 (i : Int), .slice A 512 c] w fun e w' => e = .returned (.int .i64 8) ∧ w = w' := by
  have HH := hide (has_yes h i hi)
  have HS := hide (spend_no h)
  clear h hi
  go_enter Try.func32, Try.ntmps32
  go_wp2_with (first
    | (go_at_call 60; (with_reducible refine (unhide HH).mono ?_); rintro e w' ⟨rfl, rfl⟩)
    | (go_at_call 61; (with_reducible refine (unhide HS).mono ?_); rintro e w' ⟨rfl, rfl⟩))
  go_ret
  exact ⟨rfl, rfl⟩
theorem sync_off {w : World} {gs : Nat} {b : DB} {dur : List (List Nat)} {pend : List (Nat × List Nat)} {wr : Int} (h : Disk w gs b dur pend wr 0) :
    Calls Try.prog 33 #[.pointer (some ⟨gs, 0, none⟩)] w fun e w' => e = .returned (.int .i64 8) ∧ w = w' := by
  have HS := hide (spend_no h)
  clear h
  go_enter Try.func33, Try.ntmps33
  go_wp2_with (go_at_call 61; (with_reducible refine (unhide HS).mono ?_); rintro e w' ⟨rfl, rfl⟩)
  go_ret
  exact ⟨rfl, rfl⟩
end Go.Proofs.Ytalpippeelomjaa
namespace Go.Proofs.Ytalpippeelomjaa
open Go.RowKit
set_option linter.unusedSimpArgs false

theorem pv_form {w : World} {base n size : Nat} {t : TypeId} {v : Value} {xs : List Value} (h : w.ownsRow base t size v n xs) : ∃ A c, v = .slice A n c := by
  rcases h.2 with ⟨h1, h0⟩ | ⟨g, cap, cur, h1, _⟩
  · exact ⟨none, 0, by rw [h1, h0]⟩
  · exact ⟨_, cap, h1⟩
theorem wcells_one (l : List (Nat × List Nat)) : ∀ v ∈ wcells l, v.oneCell' = true := fun v hv => by
  unfold wcells at hv
  obtain ⟨c, hc, hv2⟩ := List.mem_flatten.1 hv
  obtain ⟨p, _, rfl⟩ := List.mem_map.1 hc
  exact wcell_one p v hv2
theorem Disk.copied {x : World} {gs : Nat} {b : DB} {dur : List (List Nat)} {pend : List (Nat × List Nat)} {pv : Value} (h : Disk x gs b dur [] 0 (-1)) (hp : x.ownsRow 0 97 513 pv pend.length (wcells pend))
    (hw : ∀ p ∈ pend, p.1 < dur.length ∧ IsSec p.2) (hm : pend.length ≤ 1048576) :
    Disk ((x.setCell ⟨gs, 1, none⟩ pv).drew.setCells b.gl 0 (ints (lats dur.length pend))) gs ⟨b.gd, b.cd, b.gl, b.cl, pv⟩ dur pend 0 (-1) ∧
      OnlyAt x ((x.setCell ⟨gs, 1, none⟩ pv).drew.setCells b.gl 0 (ints (lats dur.length pend))) (fun k => k = gs ∨ k = b.gl) := by
  have hne := h.apart_latest
  have k1 := setCell_others x gs 1 pv
  have hla : (x.setCell ⟨gs, 1, none⟩ pv).drew.ownsRow 0 3 1 (.slice (some ⟨b.gl, 0, none⟩) dur.length b.cl) dur.length (ints (lats dur.length [])) := row_kept h.la h.st (by decide) k1
  obtain ⟨cur, hcur⟩ := row_of hla
  have o2 := keptBut_only (x.setCell ⟨gs, 1, none⟩ pv).drew b.gl 0 (ints (lats dur.length pend))
  have k2 := o2.block
  have hsz : gs < (x.setCell ⟨gs, 1, none⟩ pv).drew.heap.size := by simpa [World.setCell, World.drew] using h.lt
  have hst : (x.setCell ⟨gs, 1, none⟩ pv).drew.heap[gs]? = some (.cells (stcells ⟨b.gd, b.cd, b.gl, b.cl, pv⟩ dur.length 0 (-1)) 95 (0, 0)) := by
    show (x.setCell ⟨gs, 1, none⟩ pv).heap[gs]? = _
    rw [heap_setCell_same x gs 1 _ _ _ h.st]
    rfl
  have hdu : (x.setCell ⟨gs, 1, none⟩ pv).drew.ownsRow 0 92 512 (.slice (some ⟨b.gd, 0, none⟩) dur.length b.cd) dur.length (scells dur) := row_kept h.du h.st (by decide) k1
  have hpe : (x.setCell ⟨gs, 1, none⟩ pv).drew.ownsRow 0 97 513 pv pend.length (wcells pend) := row_kept hp h.st (by decide) k1
  have hln : (ints (lats dur.length pend)).length = dur.length := by unfold ints; rw [List.length_map, lats_length]
  have hl0 : (ints (lats dur.length [])).length = dur.length := by unfold ints; rw [List.length_map, lats_length]
  refine ⟨⟨?_, row_kept hdu hcur (by decide) k2, row_kept hpe hcur (by decide) k2, ?_, h.sec, hw, h.few, hm⟩, ((OnlyAt.setCell x gs 1 _).mono fun k _ hk => .inl hk).drew.trans (o2.mono fun k _ hk => .inr hk)⟩
  · rw [k2 gs hsz hne]
    exact hst
  · have h1 := stored_many (ints (lats dur.length pend)) 0 hla
    rw [laid_eq _ _ _ (by omega), List.take_zero, List.nil_append, List.drop_of_length_le (by omega), List.append_nil] at h1
    exact h1

end Go.Proofs.Ytalpippeelomjaa
namespace Go.Proofs.Ytalpippeelomjaa
open Go.RowKit
set_option linter.unusedSimpArgs false

theorem wp_eql_agg {P : Program} {o : Oper} {a : Act} {w : World} {K : Act → World → Prop} {Q : Exit → Act → World → Prop} (t t2 : TypeId) (x y : Operand) (ho : o.op = .binOp .eql t x y t2) (A B : Array Value)
    (hx : a.eval x = .agg A) (hy : a.eval y = .agg B) (hm : P.eqGuardType P.depth t = false) (v : Value) (hrun : (binOp .eql t (.agg A) (.agg B)).run P w = .ok v w)
    (h : K (a.put o.dst v) w) : o.wp P a w K Q := by
  unfold Oper.wp execOp
  simp only [ho, hx, hy, Sem.run_bind, run_eqGuard_agg w .eql t x y A B hm, Result.andThen_ok, hrun]
  exact h
theorem wp_build_to {P : Program} {o : Oper} {a : Act} {w : World} {K : Act → World → Prop} {Q : Exit → Act → World → Prop} (t : TypeId) (parts : Array (Nat × Operand)) (ho : o.op = .build t parts) (cells : Array Value)
    (hb : P.built t (parts.map fun (i, x) => (i, a.eval x)).toList = some cells) (h : K (a.put o.dst (.agg cells)) w) : o.wp P a w K Q :=
  wp_build t parts ho (by rw [hb]; rfl) (by rw [hb]; exact h)
theorem built_sec : Try.prog.built 92 [] = some (byt noughts).toArray := by kernel_rfl
theorem sec_info : (Try.prog.info? 92).map (·.size) = some 512 := by kernel_rfl
theorem sec_guard : Try.prog.eqGuardType Try.prog.depth 92 = false := by kernel_rfl

end Go.Proofs.Ytalpippeelomjaa
namespace Go.Proofs.Ytalpippeelomjaa
open Go.RowKit
set_option linter.unusedSimpArgs false

/-- A text of one's own stays where only other blocks turn. -/
theorem Mine.only {w w' : World} {base m c : Nat} {A : Option Addr} {l : List Nat} {p : Nat → Prop} (h : Mine w base A m c l) (ho : OnlyAt w w' p) (hp : ∀ k, base ≤ k → k < w.heap.size → ¬ p k) : Mine w' base A m c l := by
  refine ⟨?_, h.len, h.small⟩
  obtain ⟨hl, hv⟩ := id h.own
  refine ⟨hl, ?_⟩
  rcases hv with hv | ⟨g, cap, cur, h0, h1, h2, h3⟩
  · exact .inl hv
  · refine .inr ⟨g, cap, cur, h0, h1, ?_, h3⟩
    have hlt : g < w.heap.size := (Array.getElem?_eq_some_iff.1 h2).1
    rw [ho.block g hlt (hp g h1 hlt)]
    exact h2
theorem full_sec {l : List Nat} (h : ∀ b ∈ l, b < 256) : IsSec (full l) := ⟨full_length l, full_small h⟩
theorem less_free : less (-1) = -1 := rfl
theorem flags_block {w : World} {g n c : Nat} {t : TypeId} {fr : Nat × Nat} {ks : List Bool} (hb : w.heap[g]? = some (.cells (ks.map Value.bool).toArray t fr)) (hg : g < w.heap.size) (hn : n = ks.length) : Flags w (.slice (some ⟨g, 0, none⟩) n c) ks := by
  subst hn
  have h := lies_block (B := w.heap.size) hb hg
  exact ⟨_, c, rfl, h⟩
end Go.Proofs.Ytalpippeelomjaa
