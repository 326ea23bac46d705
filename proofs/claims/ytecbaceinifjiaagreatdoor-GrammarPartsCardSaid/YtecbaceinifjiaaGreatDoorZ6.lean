/- GMath, GMap, ASet: joined by program (tools/merge.py). -/
import Derived.Test.YtecbaceinifjiaaGreatDoorZ0
import Derived.Test.YtecbaceinifjiaaGreatDoorZ5
import Derived.Test.YtecbaceinifjiaaGreatDoorZ1
import Derived.Maps.Views
import Derived.DeepKeys4
import Derived.Deep.RegionHeld3
import Derived.Deep.DeepCutAuto
namespace Go.Proofs.YtecbaceinifjiaaGreatDoor
open Go.RowKit
set_option linter.unusedSimpArgs false
set_option linter.unusedVariables false
def c_module : List Nat := [109, 111, 100, 117, 108, 101]
def c_func : List Nat := [102, 117, 110, 99]
def c_return : List Nat := [114, 101, 116, 117, 114, 110]
def c_let : List Nat := [108, 101, 116]
def c_if : List Nat := [105, 102]
def c_while : List Nat := [119, 104, 105, 108, 101]
def c_print : List Nat := [112, 114, 105, 110, 116]
def c_do : List Nat := [100, 111]
def c_else : List Nat := [101, 108, 115, 101]
def c_int : List Nat := [105, 110, 116]
def c_bool : List Nat := [98, 111, 111, 108]
def c_true : List Nat := [116, 114, 117, 101]
def c_false : List Nat := [102, 97, 108, 115, 101]
def c_read : List Nat := [114, 101, 97, 100]
def c_dot : List Nat := [46]
def c_comma : List Nat := [44]
def c_semi : List Nat := [59]
def c_lpar : List Nat := [40]
def c_rpar : List Nat := [41]
def c_lbr : List Nat := [123]
def c_rbr : List Nat := [125]
def c_eq : List Nat := [61]
def c_bang : List Nat := [33]
def c_minus : List Nat := [45]
def opsG : List (List Nat) := [[43], [45], [42], [47], [37], [60], [60, 61], [62], [62, 61], [61, 61], [33, 61], [38, 38], [124, 124]]
/-- A sign's number; 0: it is none. -/
def opN : List (List Nat) → Nat → List Nat → Nat
  | [], _, _ => 0
  | s :: r, k, t => if s = t then k + 1 else opN r (k + 1) t
def opG (t : List Nat) : Nat := opN opsG 0 t
/-- The parser: what is left, what it has made. -/
structure PS where
  left : List Tok
  wrong : Bool
  depth : Nat
  nodes : List Nd
  mods : List Nat → Nat
  funs : List Nat → List Nat → Nat
  taken : List Nat → Nat
  vis : List Nat → Nat
  shown : List (List Nat)
  calls : List (Nat × List Nat × List Nat)
  fault : Nat
  cnt : Nat
def noTok : Tok := ⟨0, [], 0⟩
def failS (s : PS) : PS := { s with left := [], wrong := true }
def isS (t : List Nat) (s : PS) : Bool := match s.left with
  | [] => false
  | k :: _ => decide (k.text = t)
def nextT (s : PS) : Tok := match s.left with
  | [] => noTok
  | t :: _ => t
def nextS (s : PS) : PS := match s.left with
  | [] => failS s
  | _ :: r => { s with left := r }
def takeS (t : List Nat) (s : PS) : PS := if isS t s then nextS s else s
def wantS (t : List Nat) (s : PS) : PS := if isS t s then nextS s else failS s
def nameT (s : PS) : List Nat := if (nextT s).kind = 1 then (nextT s).text else []
def nameS (s : PS) : PS := if (nextT s).kind = 1 then nextS s else failS (nextS s)
def typeT (s : PS) : Nat := if (nextT s).text = c_int then 1 else if (nextT s).text = c_bool then 2 else 0
def typeS (s : PS) : PS := if (nextT s).text = c_int then nextS s else if (nextT s).text = c_bool then nextS s else failS (nextS s)
def nestS (f : PS → PS) (s : PS) : PS := if s.depth = 90 then failS s else { f { s with depth := s.depth + 1 } with depth := (f { s with depth := s.depth + 1 }).depth - 1 }
/-- A node changed. -/
def setN (id : Nat) (f : Nd → Nd) (ns : List Nd) : List Nd := ns.modify (id - 1) f
def addKid (id : Nat) (n : Nd) : Nd := { n with kids := n.kids ++ [id] }
def growId (s : PS) : Nat := s.nodes.length + 1
def growS (u : Nat) (n : Nd) (s : PS) : PS := { s with nodes := if u = 0 then s.nodes ++ [n] else setN u (addKid (growId s)) (s.nodes ++ [n]) }
def blameS (e : Nat) (s : PS) : PS := { s with fault := if s.fault = 0 then e else s.fault }
def put1 (m : List Nat → Nat) (k : List Nat) (v : Nat) : List Nat → Nat := fun x => if x = k then v else m x
def put2 (m : List Nat → List Nat → Nat) (a b : List Nat) (v : Nat) : List Nat → List Nat → Nat := fun x y => if x = a ∧ y = b then v else m x y
def defModS (n : List Nat) (id : Nat) (s : PS) : PS := let s1 := if s.mods n ≠ 0 then blameS 10 s else s; { s1 with mods := put1 s1.mods n id, cnt := s1.cnt + 1 }
def defFunS (m n : List Nat) (id : Nat) (s : PS) : PS := let s1 := if s.funs m n ≠ 0 then blameS 10 s else s; { s1 with funs := put2 s1.funs m n id, cnt := s1.cnt + 1 }
def defTakS (n : List Nat) (id : Nat) (s : PS) : PS := let s1 := if s.taken n ≠ 0 then blameS 10 s else s; { s1 with taken := put1 s1.taken n id, cnt := s1.cnt + 1 }
def enterS (s : PS) : PS := { s with taken := fun _ => 0, vis := fun _ => 0, shown := [] }
def showS (n : List Nat) (id : Nat) (s : PS) : PS := let s1 := defTakS n id s; { s1 with vis := put1 s1.vis n id, shown := s1.shown ++ [n], cnt := s1.cnt + 1 }
def hideV : List (List Nat) → (List Nat → Nat) → List Nat → Nat
  | [], m => m
  | n :: r, m => hideV r (put1 m n 0)
def hideS (k : Nat) (s : PS) : PS := { s with vis := hideV (s.shown.drop k) s.vis, shown := s.shown.take k }
def varS (n : List Nat) (s : PS) : PS := if s.vis n = 0 then blameS 9 s else s
def nd0 (k : Nat) : Nd := ⟨k, ⟨#[]⟩, 0, 0, 0, []⟩
/-- What commas separate, up to the closing parenthesis. -/
def commaS (part : PS → PS) : Nat → PS → PS
  | 0, s => s
  | k + 1, s => if isS c_comma s then commaS part k (part (nextS s)) else s
def listS (part : PS → PS) (s : PS) : PS := if isS c_rpar s then nextS s else wantS c_rpar (commaS part (part s).left.length (part s))
/-- What follows a module's name in a call. -/
def callS (ex : Nat → PS → PS) (u : Nat) (m : List Nat) (s : PS) : PS :=
  let id := growId s
  let s1 := wantS c_dot (growS u (nd0 19) s)
  let n := nameT s1
  let s2 := nameS s1
  let s3 := wantS c_lpar { s2 with calls := s2.calls ++ [(id, m, n)], cnt := s2.cnt + 1 }
  nestS (listS (ex id)) s3
def numOf (id : Nat) (v : Nat) (s : PS) : PS := { s with nodes := setN id (fun n => { n with num := (v : Int) }) s.nodes }
def binS (ex : Nat → PS → PS) (u : Nat) (s : PS) : PS :=
  let id := growId s
  nestS (fun s0 =>
    let s1 := ex id s0
    let o := opG (nextT s1).text
    let s2 := if o = 0 then failS (nextS s1) else nextS s1
    wantS c_rpar (ex id (numOf id o s2))) (growS u (nd0 18) s)
def exprS : Nat → Nat → PS → PS
  | 0, _, s => s
  | f + 1, u, s =>
    let t := nextT s
    let s1 := nextS s
    if t.kind = 2 then growS u { nd0 13 with num := (valL t.text : Int) } s1
    else if t.kind = 1 then
      if isS c_dot s1 then callS (exprS f) u t.text s1
      else growS u { nd0 15 with ref := s1.vis t.text } (varS t.text s1)
    else if t.text = c_true then growS u { nd0 14 with num := 1 } s1
    else if t.text = c_false then growS u (nd0 14) s1
    else if t.text = c_read then growS u (nd0 20) s1
    else if t.text = c_bang then nestS (exprS f (growId s1)) (growS u (nd0 16) s1)
    else if t.text = c_minus then nestS (exprS f (growId s1)) (growS u (nd0 17) s1)
    else if t.text = c_lpar then binS (exprS f) u s1
    else failS s1
def exprT (u : Nat) (s : PS) : PS := exprS (s.left.length + 1) u s
def endS (u : Nat) (s : PS) : PS := wantS c_semi (exprT u s)
/-- Statements, up to a token that stays. -/
def stsS (st : PS → PS) (e : List Nat) : Nat → PS → PS
  | 0, s => s
  | k + 1, s => if s.wrong || isS e s then s else stsS st e k (st s)
def blockS (st : Nat → PS → PS) (u : Nat) (s : PS) : PS :=
  let id := growId s
  let s1 := growS u (nd0 5) s
  let k := s1.shown.length
  hideS k (nestS (fun s2 => wantS c_rbr (stsS (st id) c_rbr (s2.left.length + 1) s2)) (wantS c_lbr s1))
def letS (u : Nat) (s : PS) : PS :=
  let n := nameT s
  let s1 := nameS s
  let id := growId (typeS s1)
  let s2 := growS u { nd0 6 with name := ba n, typ := typeT s1 } (typeS s1)
  showS n id (endS id (wantS c_eq s2))
def stmtS : Nat → Nat → PS → PS
  | 0, _, s => s
  | f + 1, b, s =>
    if isS c_let s then letS b (nextS s)
    else if isS c_if s then
      let s1 := nextS s
      let id := growId s1
      blockS (stmtS f) id (wantS c_else (blockS (stmtS f) id (exprT id (growS b (nd0 8) s1))))
    else if isS c_while s then
      let s1 := nextS s
      let id := growId s1
      blockS (stmtS f) id (exprT id (growS b (nd0 9) s1))
    else if isS c_print s then
      let s1 := nextS s
      endS (growId s1) (growS b (nd0 11) s1)
    else if isS c_do s then
      let s1 := nextS s
      let id := growId s1
      let s2 := growS b (nd0 12) s1
      let n := nameT s2
      let s3 := nameS s2
      wantS c_semi (callS (exprS (s3.left.length + 1)) id n s3)
    else
      let n := nameT s
      let s1 := nameS s
      let v := s1.vis n
      let s2 := wantS c_eq (varS n s1)
      endS (growId s2) (growS b { nd0 7 with ref := v } s2)
def paramS (u : Nat) (s : PS) : PS :=
  let n := nameT s
  let s1 := nameS s
  let id := growId (typeS s1)
  showS n id (growS u { nd0 4 with name := ba n, typ := typeT s1 } (typeS s1))
def typOf (id : Nat) (v : Nat) (s : PS) : PS := { s with nodes := setN id (fun n => { n with typ := v }) s.nodes }
def nameOf (id : Nat) (s : PS) : List Nat := str ((s.nodes.getD (id - 1) zeroNd).name)
def funcS (m : Nat) (s : PS) : PS :=
  let s0 := wantS c_func s
  let n := nameT s0
  let s1 := nameS s0
  let id := growId s1
  let s2 := listS (paramS id) (wantS c_lpar (enterS (defFunS (nameOf m (growS m { nd0 3 with name := ba n } s1)) n id (growS m { nd0 3 with name := ba n } s1))))
  let s3 := wantS c_lbr (typOf id (typeT s2) (typeS s2))
  let b := growId s3
  let s4 := growS id (nd0 5) s3
  let s5 := wantS c_return (stsS (stmtS (s4.left.length + 1) b) c_return (s4.left.length + 1) s4)
  wantS c_rbr (endS (growId s5) (growS b (nd0 10) s5))
def modS (u : Nat) (s : PS) : PS :=
  let s0 := wantS c_module s
  let n := nameT s0
  let s1 := nameS s0
  let id := growId s1
  let s2 := wantS c_lbr (defModS n id (growS u { nd0 2 with name := ba n } s1))
  wantS c_rbr (stsS (funcS id) c_rbr (s2.left.length + 1) s2)
def modsS (u : Nat) : Nat → PS → PS
  | 0, s => s
  | k + 1, s => if s.left.length = 0 then s else modsS u k (modS u s)
def progS (s : PS) : PS := let s1 := growS 0 (nd0 1) s; modsS 1 s1.left.length s1
/-- Calls lead to their functions. -/
def linkL : List (Nat × List Nat × List Nat) → PS → PS
  | [], s => s
  | c :: r, s =>
    let f := s.funs c.2.1 c.2.2
    let s1 := if f = 0 then blameS 9 s else s
    linkL r { s1 with nodes := setN c.1 (fun n => { n with ref := f }) s1.nodes }
def startS (ts : List Tok) : PS := ⟨ts, false, 0, [], fun _ => 0, fun _ _ => 0, fun _ => 0, fun _ => 0, [], [], 0, 0⟩
def idsFrom : Nat → List Nd → List (Nat × Nd)
  | _, [] => []
  | k, n :: r => (k, n) :: idsFrom (k + 1) r
/-- What Parse answers: the error, and the nodes. -/
def parseG (l : List Nat) : Nat × List (Nat × Nd) :=
  if 200000 < l.length then (4, [])
  else match scan l 0 with
    | none => (20, [])
    | some ts =>
      let s := progS (startS ts)
      if s.wrong then (20, [])
      else if 20000 < s.nodes.length then (5, [])
      else
        let s1 := linkL s.calls s
        if s1.fault ≠ 0 then (s1.fault, []) else (0, idsFrom 1 s1.nodes)
end Go.Proofs.YtecbaceinifjiaaGreatDoor
namespace Go.Proofs.YtecbaceinifjiaaGreatDoor
open Go.RowKit
open Go.Maps (Keyed)
set_option linter.unusedSimpArgs false
set_option linter.unusedVariables false
set_option maxRecDepth 100000
/-- Block b is a map of at most n entries; a key leads to f of it. -/
def MapF (K : TypeId) (w : World) (b n : Nat) (f : Value → Nat) : Prop :=
  ∃ D : DataW Value, w.ownsMap Tryz.prog K heldE b n D ∧ ∀ v l, keyOf Tryz.prog K v = some l → D.atKey l (.held (.int .u64 0)) = .held (.int .u64 (f v : Int))
theorem MapF.lt {K : TypeId} {w : World} {b n : Nat} {f : Value → Nat} (h : MapF K w b n f) : b < w.heap.size := by obtain ⟨D, h1, _⟩ := h; exact h1.lt
theorem MapF.at_ {K : TypeId} {w w' : World} {b n : Nat} {f : Value → Nat} (h : MapF K w b n f) (hb : w'.heap[b]? = w.heap[b]?) : MapF K w' b n f := by
  obtain ⟨D, ⟨es, clock, h1, h2⟩, h3⟩ := h
  exact ⟨D, ⟨es, clock, hb.trans h1, h2⟩, h3⟩
theorem MapF.obj {K : TypeId} {w : World} {b n : Nat} {f : Value → Nat} (h : MapF K w b n f) : ∃ es clock, w.heap[b]? = some (.map es clock) := by
  obtain ⟨D, ⟨es, clock, h1, h2⟩, h3⟩ := h
  exact ⟨es, clock, h1⟩
theorem MapF.made (K : TypeId) (w : World) (f : Value → Nat) (hf : ∀ v, f v = 0) : MapF K (w.alloc (.map #[] 0)) w.heap.size 0 f :=
  ⟨.map [], World.ownsMap_made w _ _ _, fun v l _ => by rw [hf]; rfl⟩
theorem MapF.more {K : TypeId} {w : World} {b n m : Nat} {f : Value → Nat} (h : MapF K w b n f) (hm : n ≤ m) : MapF K w b m f := by
  obtain ⟨D, h1, h2⟩ := h
  exact ⟨D, h1.mono hm, h2⟩
section
variable {P : Program} {ops : Array Oper} {rest : List Oper} {o : Oper} {a : Act} {Q : Exit → Act → World → Prop}
theorem MapF.run_look {K t e : TypeId} {w : World} {b n : Nat} {f : Value → Nat} (h : MapF K w b n f) (law : Keyed Tryz.prog K) (ht : Tryz.prog.underlying t = some (.map K e)) (hz : (zeroValue e).run Tryz.prog w = .ok (.int .u64 0) w) {v : Value} {l : Lit} (hk : keyOf Tryz.prog K v = some l) :
    (Instr.lookup t (.map (some b)) v false).run Tryz.prog w = .ok (.int .u64 (f v : Int)) w := by
  obtain ⟨D, h1, h2⟩ := h
  obtain ⟨u, ps, hrun, hv⟩ := h1.lookup law ht hz (zd := .held (.int .u64 0)) (zp := []) rfl hk
  rw [h2 v l hk] at hv
  have hu : u = .int .u64 (f v : Int) := by
    unfold heldE at hv
    injection hv with hv
    have h3 := congrArg Prod.fst hv
    injection h3
  rw [hrun, hu]
theorem wpList_gstore {K t e : TypeId} {w : World} {b n : Nat} {f : Value → Nat} (hg : o.guard = none) (m x v : Operand) (hop : o.op = Op.mapUpdate t m x v) (law : Keyed Tryz.prog K) (ht : Tryz.prog.underlying t = some (.map K e))
    (hm : a.eval m = .map (some b)) (h : MapF K w b n f) (hn : n < maxLen) (k : Value) (l : Lit) (hk : keyOf Tryz.prog K k = some l) (hx : a.eval x = k) (id : Nat) (hv : a.eval v = .int .u64 (id : Int))
    (g : Value → Nat) (hg1 : g k = id) (hg2 : ∀ u l', keyOf Tryz.prog K u = some l' → u ≠ k → g u = f u)
    (hK : ∀ w', MapF K w' b (n + 1) g → w.mapTurned w' b → wpList Tryz.prog ops Q rest (a.put o.dst undef) w') : wpList Tryz.prog ops Q (o :: rest) a w := by
  obtain ⟨D, h1, h2⟩ := h
  refine wpList_mapUpdate_in w hg m x v t hop K e law ht heldE b _ _ hm h1 hn _ _ _ hx hv hk (.held (.int .u64 (id : Int))) [] rfl fun w' h3 h4 => hK w' ⟨_, h3, fun u l' hu => ?_⟩ h4
  by_cases hl : l' = l
  · subst hl
    have hku := law.inj hu hk
    subst hku
    rw [Maps.atKey_put_same h1.isMap (law.key hk), hg1]
  · rw [Maps.atKey_put_other hl, h2 u l' hu, hg2 u l' hu fun e => hl (by subst e; rw [hk] at hu; injection hu with hu; exact hu.symm)]
theorem wpList_gless {K t e : TypeId} {w : World} {b n : Nat} {f : Value → Nat} (hg : o.guard = none) (m x : Operand) (hop : o.op = Op.call { callee := Callee.builtin Builtin.delete, args := #[m, x], argTypes := #[t, K] }) (law : Keyed Tryz.prog K) (ht : Tryz.prog.underlying t = some (.map K e))
    (hm : a.eval m = .map (some b)) (h : MapF K w b n f) (k : Value) (l : Lit) (hk : keyOf Tryz.prog K k = some l) (hx : a.eval x = k)
    (g : Value → Nat) (hg1 : g k = 0) (hg2 : ∀ u l', keyOf Tryz.prog K u = some l' → u ≠ k → g u = f u)
    (hK : ∀ w', MapF K w' b n g → w.mapTurned w' b → wpList Tryz.prog ops Q rest (a.put o.dst (.tuple #[])) w') : wpList Tryz.prog ops Q (o :: rest) a w := by
  obtain ⟨D, h1, h2⟩ := h
  refine wpList_delete_own w hg m x t K hop e law ht heldE b _ _ hm h1 _ _ hx hk fun w' h3 h4 => hK w' ⟨_, h3, fun u l' hu => ?_⟩ h4
  by_cases hl : l' = l
  · subst hl
    have hku := law.inj hu hk
    subst hku
    rw [Maps.atKey_del_same, hg1]
    rfl
  · rw [Maps.atKey_del_other hl, h2 u l' hu, hg2 u l' hu fun e => hl (by subst e; rw [hk] at hu; injection hu with hu; exact hu.symm)]
end
theorem strKeyed : Keyed Tryz.prog 9 := Maps.string_keyed Tryz.underlying9
theorem laidOutG : laidOutB Tryz.prog = true := by kernel_rfl
theorem pathKeyed : Keyed Tryz.prog 78 := Keyed.of_law (deep_law_laid laidOutG (m := 2) (by decide) (of_decide_eq_true (by kernel_rfl)) (by kernel_rfl) (by kernel_rfl))
theorem str_key {s : ByteArray} (hs : s.size ≤ maxLen) : ∃ l, keyOf Tryz.prog 9 (.string s) = some l := ⟨_, Go.WideMaps.keyOf_string_mk Tryz.underlying9 hs⟩
theorem path_key {a b : ByteArray} (ha : a.size ≤ maxLen) (hb : b.size ≤ maxLen) : ∃ l, keyOf Tryz.prog 78 (.agg #[.string a, .string b]) = some l := by
  have hkt : Tryz.prog.keyType 78 = true := by kernel_rfl
  have hu := Tryz.underlying78
  have hsz : Tryz.prog.cellsOf 78 = 2 := by kernel_rfl
  have hs1 : Tryz.prog.cellsOf 9 = 1 := by kernel_rfl
  obtain ⟨m, hm⟩ : ∃ m, Tryz.prog.types.size = m + 1 := ⟨Tryz.prog.types.size - 1, by kernel_rfl⟩
  unfold keyOf
  simp only [hu]
  rw [if_pos (by simp [hkt, Value.formed, hu, hsz]), hm]
  unfold Program.keyLits
  simp only [hu, Value.cells]
  rw [if_pos (by refine ⟨by rw [hsz]; rfl, by kernel_rfl⟩)]
  simp [hs1, Program.keyLits, Tryz.underlying9, ha, hb]
/-- A key that is a name, or a path. -/
def fS (m : List Nat → Nat) : Value → Nat
  | .string s => m (str s)
  | _ => 0
def fP (m : List Nat → List Nat → Nat) : Value → Nat
  | .agg #[.string a, .string b] => m (str a) (str b)
  | _ => 0
theorem fS_put (m : List Nat → Nat) (s : ByteArray) (id : Nat) : fS (put1 m (str s) id) (.string s) = id := by
  show (if str s = str s then id else _) = id
  rw [if_pos rfl]
theorem fS_other (m : List Nat → Nat) (s : ByteArray) (id : Nat) : ∀ (u : Value) (l : Lit), keyOf Tryz.prog 9 u = some l → u ≠ .string s → fS (put1 m (str s) id) u = fS m u := fun u l _ hu => by
  cases u with
  | string x =>
    show (if str x = str s then id else m (str x)) = m (str x)
    rw [if_neg fun e => hu (by rw [str_inj e])]
  | _ => rfl
theorem pairOf (u : Value) : (∃ x y, u = .agg #[.string x, .string y]) ∨ ∀ m, fP m u = 0 := by
  cases u with
  | agg cs =>
    obtain ⟨l⟩ := cs
    match l with
    | [] => exact .inr fun _ => rfl
    | [a] => exact .inr fun _ => rfl
    | [a, b] => cases a <;> cases b <;> first | exact .inl ⟨_, _, rfl⟩ | exact .inr fun _ => rfl
    | a :: b :: c :: r => exact .inr fun _ => rfl
  | _ => exact .inr fun _ => rfl
theorem fP_put (m : List Nat → List Nat → Nat) (a b : ByteArray) (id : Nat) : fP (put2 m (str a) (str b) id) (.agg #[.string a, .string b]) = id := by
  show (if str a = str a ∧ str b = str b then id else _) = id
  rw [if_pos ⟨rfl, rfl⟩]
theorem fP_other (m : List Nat → List Nat → Nat) (a b : ByteArray) (id : Nat) (u : Value) (hu : u ≠ .agg #[.string a, .string b]) : fP (put2 m (str a) (str b) id) u = fP m u := by
  rcases pairOf u with ⟨x, y, rfl⟩ | h
  · show (if str x = str a ∧ str y = str b then id else m (str x) (str y)) = m (str x) (str y)
    rw [if_neg fun e => hu (by rw [str_inj e.1, str_inj e.2])]
  · rw [h, h]
end Go.Proofs.YtecbaceinifjiaaGreatDoor
namespace Go.Proofs.YtecbaceinifjiaaGreatDoor
open Go.RowKit
set_option linter.unusedSimpArgs false
set_option linter.unusedVariables false
set_option maxRecDepth 100000
theorem ride_alloc {W x : World} (h : Below W.heap.size W x) (o : Obj) : Below W.heap.size W (x.alloc o) := h.alloc h.size o
theorem ride_drew {W x : World} (h : Below W.heap.size W x) : Below W.heap.size W x.drew := h.drew
theorem ride_call {W x y : World} (hb : Below x.heap.size x y) (h : Below W.heap.size W x) : Below W.heap.size W y := h.trans (hb.mono h.size)
theorem nodes_len {w : World} {vs : List (Nat × Value)} {ns : List (Nat × Nd)} (h : NodesV w vs ns) (hv : Rise vs) (hn : Rise ns) : vs.length = ns.length := by
  have e : mapL (fun _ => ()) vs = mapL (fun _ => ()) ns := rise_ext (hv.map _) (hn.map _) fun k => by
    rw [getL_map, getL_map]
    have h1 := h k
    revert h1
    cases getL vs k <;> cases getL ns k <;> intro h1
    · rfl
    · exact h1.elim
    · exact h1.elim
    · rfl
  have e2 := congrArg List.length e
  unfold mapL at e2
  rw [List.length_map, List.length_map] at e2
  exact e2
theorem run_look {w : World} (t e : TypeId) (ht : Tryz.prog.underlying t = some (.map 30 e)) (z : Value) (hz : (zeroValue e).run Tryz.prog w = .ok z w) {b : Nat} {l : List (Nat × Value)} (h : MapV w b l) (k : Nat) (hk : k < 18446744073709551616) (v : Value) (hv : (getL l k).getD z = v) :
    (Instr.lookup t (.map (some b)) (.int .u64 (k : Int)) false).run Tryz.prog w = .ok v w := by
  obtain ⟨v', ps, hrun, hv'⟩ := h.own.lookup idKeyed ht hz (zd := .held z) (zp := []) rfl (key_of hk)
  rw [mapD_at] at hv'
  have hv2 : v' = v := by
    rw [← hv]
    unfold heldE at hv'
    injection hv' with hv'
    have h1 := congrArg Prod.fst hv'
    cases hg : getL l k with
    | none => rw [hg] at h1; injection h1
    | some u => rw [hg] at h1; injection h1
  rw [← hv2]
  exact hrun
theorem run_kids (x : World) (k y r : Int) (m : Int) (s : ByteArray) (v : Value) : (Instr.field 44 (.agg #[.int .u8 k, .string s, .int .i64 m, .int .u8 y, .int .u64 r, v]) 5).run Tryz.prog x = .ok v x := by kernel_rfl
theorem run_store {w : World} (t e : TypeId) (ht : Tryz.prog.underlying t = some (.map 30 e)) {b : Nat} {l : List (Nat × Value)} (h : MapV w b l) (hl : l.length < maxLen) (k : Nat) (hk : k < 18446744073709551616) (u : Value) :
    ∃ w', (Instr.mapUpdate t (.map (some b)) (.int .u64 (k : Int)) u).run Tryz.prog w = .ok () w' ∧ MapV w' b (putL' l k u) ∧ w.mapTurned w' b := by
  obtain ⟨w', hrun, h1, h2⟩ := h.own.store idKeyed ht hl (key_of hk) (val := u) (d := .held u) (ps := []) rfl
  refine ⟨w', hrun, ⟨h.rise.put k u, fun p hp => ?_, ?_⟩, h2⟩
  · rcases putL_mem hp with rfl | hp
    · exact hk
    · exact h.small p hp
  · rw [mapD_put h.rise] at h1
    have h3 := ownsMap_tight h1
    rw [mapD_size] at h3
    exact h3
def SetR (w : World) (base ga gm gp : Nat) (F : PF) (ns' : List (Nat × Nd)) (N' : Nat) (e : Ending) (w' : World) : Prop :=
  e = .returned (.tuple #[]) ∧ ∃ F' vs', AR w' base ga gm gp F' vs' ns' N' ∧ Touch w w' (OwnA gm gp F) ∧ (∀ j, OwnsF F' j → OwnsF F j ∨ w.heap.size ≤ j)
set_option maxHeartbeats 8000000 in
theorem set_any (w : World) (base ga gm gp id N : Nat) (F : PF) (vs : List (Nat × Value)) (ns : List (Nat × Nd)) (v : Value) (n : Nd) (h : AR w base ga gm gp F vs ns N) (hv : NodeV w v n) (hid : id < 18446744073709551616) (hN : N + ((getL ns id).getD zeroNd).kids.length + n.kids.length ≤ 999999990) (hns : ns.length ≤ 1000000000) :
    Calls Tryz.prog 51 #[.pointer (some ⟨ga, 0, none⟩), .int .u64 (id : Int), v] w (SetR w base ga gm gp F (putL' ns id n) (N + ((getL ns id).getD zeroNd).kids.length + n.kids.length)) := by
  have hvl := nodes_len h.nodes h.map.rise h.rise
  have hvl2 : vs.length < maxLen := by unfold maxLen; omega
  obtain ⟨⟨A, c, rfl, hks⟩, hok⟩ := (show NodeV w v n from hv)
  obtain ⟨Ao, co, hold, hos, hook, _⟩ := h.nodes.get id
  obtain ⟨o, ho⟩ : ∃ o, o = (getL ns id).getD zeroNd := ⟨_, rfl⟩
  rw [← ho] at hold hos hook hN ⊢
  obtain ⟨X, hX⟩ : ∃ X, X = w.alloc (.cells #[.int .u8 (n.kind : Int), .string n.name, .int .i64 n.num, .int .u8 (n.typ : Int), .int .u64 (n.ref : Int), .slice A n.kids.length c] 44) := ⟨_, rfl⟩
  have hXb : Below w.heap.size w X := hX ▸ (Below.refl _ _).alloc (Nat.le_refl _) _
  have hXh : X.heap[w.heap.size]? = some (.cells #[.int .u8 (n.kind : Int), .string n.name, .int .i64 n.num, .int .u8 (n.typ : Int), .int .u64 (n.ref : Int), .slice A n.kids.length c] 44 (0, 0)) := hX ▸ Go.heap_alloc_new w _
  have hAX := h.below hXb
  have q0 : X.cell? ⟨ga, 0, none⟩ = some (.map (some gm)) := by unfold World.cell?; rw [hAX.st]; rfl
  have q1 : X.cell? ⟨ga, 1, none⟩ = some (.map (some gp)) := by unfold World.cell?; rw [hAX.st]; rfl
  have q5 : X.cell? ⟨w.heap.size, 5, none⟩ = some (.slice A n.kids.length c) := by unfold World.cell?; rw [hXh]; rfl
  have HEX : Hid (∀ y, Below X.heap.size X y → Calls Tryz.prog 76 #[.map (some gp), .int .u64 (id : Int), .slice Ao o.kids.length co, .slice A n.kids.length c] y (AddC y base gp F (cntOf (putL' ns id n)) (N + o.kids.length + n.kids.length))) := Lib.hid fun y hy => by
    have hwy := hXb.trans (hy.mono hXb.size)
    have hex := exchange_any y base gp id F (cntOf ns) N _ _ o.kids n.kids (h.par.below hwy) hid ((hos.below hwy).up hwy.size) ((hks.below hwy).up hwy.size) (fun k => by rw [ho]; exact cnt_le id k) (by omega) (Nat.le_trans h.hb hwy.size)
    rw [ho, exC_put h.rise, ← ho] at hex
    exact hex
  have HLK : Hid (∀ y, Below X.heap.size X y → y.cell? ⟨ga, 0, none⟩ = some (.map (some gm)) ∧ y.cell? ⟨ga, 1, none⟩ = some (.map (some gp)) ∧ y.cell? ⟨w.heap.size, 5, none⟩ = some (.slice A n.kids.length c) ∧ (Instr.lookup 62 (.map (some gm)) (.int .u64 (id : Int)) false).run Tryz.prog y = .ok (.agg #[.int .u8 (o.kind : Int), .string o.name, .int .i64 o.num, .int .u8 (o.typ : Int), .int .u64 (o.ref : Int), .slice Ao o.kids.length co]) y) := Lib.hid fun y hy => ⟨(hy.cell (p := ⟨ga, 0, none⟩) (lt_of_heap2 hAX.st)).trans q0, (hy.cell (p := ⟨ga, 1, none⟩) (lt_of_heap2 hAX.st)).trans q1, (hy.cell (p := ⟨w.heap.size, 5, none⟩) (lt_of_heap2 hXh)).trans q5, run_look _ 44 Tryz.underlying62 _ (zeroNode _) (b := gm) (l := vs) (hAX.below hy).map id hid _ hold⟩
  have hfk := fun x => run_kids x (o.kind : Int) (o.typ : Int) (o.ref : Int) o.num o.name (.slice Ao o.kids.length co)
  have HH := Lib.hid hAX
  have HV := Lib.hid (hv.below hXb)
  have HXB := Lib.hid hXb
  have HOLD := Lib.hid hold
  have HX := Lib.hid hX
  have HXH := Lib.hid hXh
  obtain ⟨nk, hnk⟩ : ∃ m, m = n.kids.length := ⟨_, rfl⟩
  obtain ⟨ok, hok2⟩ : ∃ m, m = o.kids.length := ⟨_, rfl⟩
  clear h hv hold hos hks ho hAX hXb hXh
  unfold ndV
  go_enter Tryz.func51, Tryz.ntmps51
  go_wp2_with fail
  rw [← HX.out]
  clear hX
  obtain ⟨_, _, _, hlk⟩ := HLK.out X.drew (Below.refl _ _).drew
  go_cut [] (fun wx => ∃ F1 : PF, ParC wx base gp F1 (cntOf (putL' ns id n)) (N + o.kids.length + n.kids.length) ∧ Touch X wx (fun j => j = gp ∨ OwnsF F j) ∧ (∀ j, OwnsF F1 j → OwnsF F j ∨ X.heap.size ≤ j))
  case first =>
    go_region_law (go_simp; go_at_call 76; (with_reducible refine (HEX.out _ (ride_drew (Below.refl _ _))).mono ?_); rintro e w1 ⟨rfl, F1, hP1, hT1, hO1⟩)
    all_goals
      go_wp2_with fail
      go_meet
      exact ⟨F1, hP1, ((Touch.refl X _).drewN 1).trans hT1 (fun j e => .inl e), hO1⟩
  case rest =>
  obtain ⟨F1, hP1, hT1, hO1⟩ := hcut
  have HP1 := Lib.hid hP1
  have HO1 := Lib.hid hO1
  have HT1 := Lib.hid hT1
  have hst := HH.out.other (w' := wc) (hT1.more fun j e => .inr e) HH.out.st (by decide)
  have hbx := HH.out.other (w' := wc) (hT1.more fun j e => .inr e) HXH.out (by decide)
  have p0 : wc.cell? ⟨ga, 0, none⟩ = some (.map (some gm)) := by unfold World.cell?; rw [hst]; rfl
  have p1 : wc.cell? ⟨w.heap.size, 1, none⟩ = some (.string n.name) := by unfold World.cell?; rw [hbx]; rfl
  have p2 : wc.cell? ⟨w.heap.size, 2, none⟩ = some (.int .i64 n.num) := by unfold World.cell?; rw [hbx]; rfl
  have p3 : wc.cell? ⟨w.heap.size, 3, none⟩ = some (.int .u8 (n.typ : Int)) := by unfold World.cell?; rw [hbx]; rfl
  have p4 : wc.cell? ⟨w.heap.size, 4, none⟩ = some (.int .u64 (n.ref : Int)) := by unfold World.cell?; rw [hbx]; rfl
  have p5 : wc.cell? ⟨w.heap.size, 5, none⟩ = some (.slice A n.kids.length c) := by unfold World.cell?; rw [hbx]; rfl
  have p6 : wc.cell? ⟨w.heap.size, 0, none⟩ = some (.int .u8 (n.kind : Int)) := by unfold World.cell?; rw [hbx]; rfl
  have hM1 : MapV wc gm vs := HH.out.map.at_ (hT1.block gm HH.out.map.lt (fun e => by
    rcases e with e | e
    · exact HH.out.ne e
    · obtain ⟨es, clock, h1⟩ := HH.out.map.obj
      obtain ⟨cs, h2⟩ := e.ty HH.out.par.par
      rw [h1] at h2
      cases h2))
  obtain ⟨w2, hrun, hM2, hT2⟩ := run_store (w := wc.drew) 62 44 Tryz.underlying62 (hM1.at_ rfl) hvl2 id hid (.agg #[.int .u8 (n.kind : Int), .string n.name, .int .i64 n.num, .int .u8 (n.typ : Int), .int .u64 (n.ref : Int), .slice A n.kids.length c])
  have HM1 := Lib.hid hM1
  have HM2 := Lib.hid hM2
  have HT2 := Lib.hid hT2
  have HST := Lib.hid hst
  clear hP1 hO1 hT1 hM1 hst hlk hfk q0 q1 q5 hM2 hT2 hbx
  go_wp2_with fail
  go_region_law (fail)
  all_goals
    go_wp2_with fail
    go_end0
    have hT : Touch w w2 (OwnA gm gp F) := ((((Touch.of_below HXB.out (fun _ => False)).more (fun _ e => e.elim)).trans (HT1.out.more (S' := OwnA gm gp F) fun j e => .inr e) (fun j e => .inl e)).drewN 1).trans (Touch.turned (S := fun j => j = gm) HT2.out rfl) (fun j e => .inl (.inl e))
    have hT2' : Touch wc.drew w2 (fun j => j = gm) := Touch.turned HT2.out rfl
    have hT2c : Touch wc w2 (fun j => j = gm) := ((Touch.refl wc _).drewN 1).trans hT2' (fun j e => .inl e)
    have hTX : Touch X w2 (OwnA gm gp F) := ((HT1.out.more (S' := OwnA gm gp F) fun j e => .inr e).drewN 1).trans hT2' (fun j e => .inl (.inl e))
    have hgm : ∃ es clock, wc.drew.heap[gm]? = some (.map es clock) := HM1.out.obj
    have hF1 : ∀ j, OwnsF F1 j → j ≠ gm := fun j hj e => by
      obtain ⟨es, clock, h1⟩ := hgm
      obtain ⟨cs, h2⟩ := hj.ty HP1.out.par
      rw [e] at h2
      have h1' : wc.heap[gm]? = some (.map es clock) := h1
      rw [h1'] at h2
      cases h2
    have hne := HH.out.ne
    refine ⟨rfl, F1, _, ⟨(hT2'.block ga (lt_of_heap2 HST.out) (fun e => by
      obtain ⟨es, clock, h1⟩ := hgm
      have h1' : wc.heap[gm]? = some (.map es clock) := h1
      have h2 := HST.out
      rw [e, h1'] at h2
      cases h2)).trans HST.out, HM2.out, HH.out.rise.put id n, ?_, ⟨HP1.out.par.touch (w' := w2) (S := fun j => j = gm) hT2c (fun e => hne e.symm) (fun j hj e => hF1 j hj e), HP1.out.cnt, HP1.out.rows, HP1.out.keys, HP1.out.few⟩, hne, HH.out.o1, HH.out.o2, HH.out.o3, Nat.le_trans HH.out.hb hTX.size⟩, hT, fun j hj => (HO1.out j hj).imp (fun h => h) fun h => Nat.le_trans HXB.out.size h⟩
    have hkeep : ∀ (j : Nat) (cs : Array Value) (z : Nat × Nat), X.heap[j]? = some (.cells cs 30 z) → w2.heap[j]? = X.heap[j]? := fun j cs z hj => (HH.out.other hTX hj (by decide)).trans hj.symm
    exact NodesV.put (HH.out.nodes.keep hTX.size hkeep) HH.out.map.rise HH.out.rise id (HV.out.keep hTX.size hkeep)
end Go.Proofs.YtecbaceinifjiaaGreatDoor
