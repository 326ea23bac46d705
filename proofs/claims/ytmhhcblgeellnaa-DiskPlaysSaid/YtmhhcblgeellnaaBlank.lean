/- Contracts: Blank and Read of a sector that is there. -/
import Derived.Test.YtmhhcblgeellnaaSeen
namespace Go.Proofs.Ytmhhcblgeellnaa
open Go.RowKit
set_option linter.unusedSimpArgs false

theorem wp_eql_agg {P : Program} {o : Oper} {a : Act} {w : World} {K : Act → World → Prop} {Q : Exit → Act → World → Prop} (t t2 : TypeId) (x y : Operand) (ho : o.op = .binOp .eql t x y t2) (A B : Array Value)
    (hx : a.eval x = .agg A) (hy : a.eval y = .agg B) (hm : P.eqGuardType P.depth t = false) (v : Value) (hrun : (binOp .eql t (.agg A) (.agg B)).run P w = .ok v w)
    (h : K (a.put o.dst v) w) : o.wp P a w K Q := by
  unfold Oper.wp execOp
  simp only [ho, hx, hy, Sem.run_bind, run_eqGuard_agg w .eql t x y A B hm, Result.andThen_ok, hrun]
  exact h
theorem wp_build_to {P : Program} {o : Oper} {a : Act} {w : World} {K : Act → World → Prop} {Q : Exit → Act → World → Prop} (t : TypeId) (parts : Array (Nat × Operand)) (ho : o.op = .build t parts) (cells : Array Value)
    (hb : P.built t (parts.map fun (i, x) => (i, a.eval x)).toList = some cells) (h : K (a.put o.dst (.agg cells)) w) : o.wp P a w K Q :=
  wp_build t parts ho (by rw [hb]; rfl) (by rw [hb]; exact h)
theorem built_sec : Try.prog.built 72 [] = some (byt noughts).toArray := by kernel_rfl
theorem sec_info : (Try.prog.info? 72).map (·.size) = some 512 := by kernel_rfl
theorem sec_guard : Try.prog.eqGuardType Try.prog.depth 72 = false := by kernel_rfl

set_option maxRecDepth 100000 in
set_option maxHeartbeats 2000000 in
theorem blank_any {w : World} {gs : Nat} {b : DB} {dur : List (List Nat)} {pend : List (Nat × List Nat)} {wr bud : Int} (h : Disk w gs b dur pend wr bud) (i : Nat) (hi : i < dur.length) (s : List Nat) (hs : (applied pend dur)[i]? = some s) :
    Calls Try.prog 25 #[.pointer (some ⟨gs, 0, none⟩), .int .i64 (i : Int)] w fun e w' => e = .returned (.bool (decide (s = noughts))) ∧ w = w' := by
  have hsec : IsSec s := applied_sec h.sec (fun p hp => (h.wri p hp).2) s (List.mem_of_getElem? hs)
  have HC := hide (current_any h i hi s hs)
  have HH := hide (has_yes h i hi)
  obtain ⟨Z, hZ⟩ : ∃ Z, Z = byt noughts := ⟨_, rfl⟩
  obtain ⟨S, hS⟩ : ∃ S, S = byt s := ⟨_, rfl⟩
  have hinfo : Hid ((Try.prog.info? 72).map (·.size) = some S.length) := by
    have h1 := sec_info
    rw [hS, byt_length, hsec.1]
    exact h1
  have hb : Hid (Try.prog.built 72 [] = some Z.toArray) := by rw [hZ]; exact built_sec
  have he : Hid (∀ w : World, (binOp .eql 72 (.agg S.toArray) (.agg Z.toArray)).run Try.prog w = .ok (.bool (decide (s = noughts))) w) := fun w => by
    rw [hS, hZ]
    exact run_eql_sec w s noughts hsec.1 noughts_length
  rw [← hS] at HC
  have HS := Lib.hid hS
  clear h hs hsec hZ hS
  go_enter Try.func25, Try.ntmps25
  go_wp2_with (first
    | (go_at_call 36; (with_reducible refine (unhide HH).mono ?_); rintro e w' ⟨rfl, rfl⟩)
    | (go_at_call 38; (with_reducible refine (unhide HC).mono ?_); rintro e w' ⟨g, o, rfl, rfl, hR⟩)
    | (refine wp_load_mid _ _ rfl g o rfl S _ hR Try.underlying72 rfl hinfo.out ?_)
    | (refine wp_build_to _ _ rfl Z.toArray hb.out ?_)
    | (refine wp_eql_agg _ _ _ _ rfl S.toArray Z.toArray rfl rfl sec_guard _ (he.out _) ?_))
  refine wp_load_mid _ _ rfl g o rfl S _ hR Try.underlying72 rfl hinfo.out ?_
  rename_i K1 h1 K2 h2
  refine h2 _ _ ?_
  simp only [Act.put, List.setIfInBounds_toArray, List.set_cons_zero, List.set_cons_succ]
  refine wpList_step fun K3 h3 => ?_
  rw [if_pos (by rfl)]
  refine wp_build_to _ _ rfl Z.toArray (by simpa using hb.out) ?_
  refine h3 _ _ ?_
  simp only [Act.put, List.setIfInBounds_toArray, List.set_cons_zero, List.set_cons_succ]
  refine wpList_step fun K4 h4 => ?_
  rw [if_pos (by rfl)]
  refine wp_eql_agg _ _ _ _ rfl S.toArray Z.toArray rfl rfl sec_guard _ (he.out _) ?_
  refine h4 _ _ ?_
  simp only [Act.put, List.setIfInBounds_toArray, List.set_cons_zero, List.set_cons_succ]
  go_wp2

  go_ret
  exact ⟨rfl, rfl⟩
end Go.Proofs.Ytmhhcblgeellnaa
