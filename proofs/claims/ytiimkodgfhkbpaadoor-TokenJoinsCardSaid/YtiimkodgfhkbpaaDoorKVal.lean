/- Contracts: a token's value. -/
import Derived.Test.YtiimkodgfhkbpaaDoorKToks
namespace Go.Proofs.YtiimkodgfhkbpaaDoor
open Go.RowKit
set_option linter.unusedSimpArgs false
set_option linter.unusedVariables false
theorem box_stays {w w1 : World} {x y z : Value} {t : TypeId} (hb : Below (w.alloc (.cells #[x, y, z] t)).heap.size (w.alloc (.cells #[x, y, z] t)) w1) :
    w1.cell? ⟨w.heap.size, 0, none⟩ = some x ∧ w1.cell? ⟨w.heap.size, 1, none⟩ = some y ∧ w1.cell? ⟨w.heap.size, 2, none⟩ = some z := by
  have hl : w.heap.size < (w.alloc (.cells #[x, y, z] t)).heap.size := by simp
  refine ⟨(hb.cell (p := ⟨w.heap.size, 0, none⟩) hl).trans ?_, (hb.cell (p := ⟨w.heap.size, 1, none⟩) hl).trans ?_, (hb.cell (p := ⟨w.heap.size, 2, none⟩) hl).trans ?_⟩
  · rw [World.cell?_alloc_at _ _ _ _ rfl]; rfl
  · rw [World.cell?_alloc_at _ _ _ _ rfl]; rfl
  · rw [World.cell?_alloc_at _ _ _ _ rfl]; rfl
set_option maxRecDepth 100000 in
set_option maxHeartbeats 1000000 in
theorem value_other (w : World) (k : Nat) (s : ByteArray) (a : Int) (hk : k ≠ 2) :
    Calls Tryd.prog 12 #[.agg #[.int .u8 (k : Int), .string s, .int .i64 a]] w fun e w' => e = .returned (.int .i64 0) ∧ Below w.heap.size w w' := by
  have hx : ((k : Int) == 2) = false := by rw [beq_eq_false_iff_ne]; omega
  have hxn : ((k : Int) != 2) = true := by rw [bne, hx]; rfl
  clear hk
  go_enter Tryd.func12, Tryd.ntmps12
  go_wp2
  go_ret
  exact ⟨rfl, (Below.refl _ _).alloc (Nat.le_refl _) _⟩
set_option maxRecDepth 100000 in
set_option maxHeartbeats 1000000 in
theorem value_num (w : World) (s : ByteArray) (a : Int) (hs : s.size ≤ 140737488355328) (hv : Vr w) (hld : runL (str s) = s.size) (hn : numL (str s) = true) :
    Calls Tryd.prog 12 #[.agg #[.int .u8 2, .string s, .int .i64 a]] w fun e w' => e = .returned (.int .i64 (valL (str s) : Int)) ∧ Below w.heap.size w w' := by
  obtain ⟨hok, hbad⟩ := is_num hld
  have hp : ∃ v, Lib.parseIntB 64 s.data.toList = .ok v := by
    refine Classical.byContradiction fun h => ?_
    rw [hbad fun v hv => h ⟨v, hv⟩] at hn
    cases hn
  obtain ⟨v, hp⟩ := hp
  obtain ⟨_, hval, _, _⟩ := hok v hp
  have hve := hval hn
  have HI := fun (x : World) (hx : Vr x) => hide (isnum_any x s hs hx hld)
  rw [hn] at HI
  have HP := fun (x : World) (hx : Vr x) => hide (parse_good x s v (by omega) hx hp)
  rw [hve] at HP
  have HV := hide hv
  clear hok hbad hp hval hve
  have hba : ∀ o : Obj, Below w.heap.size w (w.alloc o) := fun o => (Below.refl _ _).alloc (Nat.le_refl _) o
  have HBA := hide hba
  clear hba
  go_enter Tryd.func12, Tryd.ntmps12
  go_wp2_with (first
    | (go_at_call 30; (with_reducible refine (unhide (HI _ ((unhide HV).below (unhide HBA _)))).mono ?_); rintro e w1 ⟨rfl, hb⟩; go_loud (
        have HB1 := hide (below_on (unhide HBA _) hb);
        obtain ⟨c0, c1, c2⟩ := box_stays hb;
        clear hb))
    | (go_at_call 31; (with_reducible refine (unhide (HP _ ((unhide HV).below (unhide HB1)))).mono ?_); rintro e w2 ⟨rfl, hb⟩; go_loud (
        have HB2 := hide (below_on (unhide HB1) hb);
        clear hb)))
  go_ret
  exact ⟨rfl, unhide HB2⟩
end Go.Proofs.YtiimkodgfhkbpaaDoor
