/-
  The program's disk in memory: maps of names to files, rows of structs, files.
-/
import Derived.Test.YtdohenbicepicaaVo
import Derived.Maps.OwnSet
import Derived.Maps.RangeWalk
import Derived.Maps.OwnOps
import Derived.Sort.KeysCollected
namespace Go.Proofs.Ytdohenbicepicaa
open Go.RowKit Go.Maps

/-! ### rows of structs -/
def RowT (t : TypeId) (w : World) (b : Nat) (cs : Array Value) : Prop := w.heap[b]? = some (.cells cs t (0, 0))
theorem RowT.cell {t : TypeId} {w : World} {b : Nat} {cs : Array Value} (h : RowT t w b cs) (i : Nat) : w.cell? ⟨b, i, none⟩ = cs[i]? := cell_of_row w b i cs _ _ h
theorem RowT.frozen {t : TypeId} {w : World} {b : Nat} {cs : Array Value} (h : RowT t w b cs) (i : Nat) : w.frozen? ⟨b, i, none⟩ = false := by
  have h' : w.heap[b]? = some (.cells cs t (0, 0)) := h
  simp [World.frozen?, h']
theorem RowT.lt {t : TypeId} {w : World} {b : Nat} {cs : Array Value} (h : RowT t w b cs) : b < w.heap.size := (Array.getElem?_eq_some_iff.1 h).1
theorem RowT.set {t : TypeId} {w : World} {b : Nat} {cs : Array Value} (h : RowT t w b cs) (i : Nat) (v : Value) : RowT t (w.setCell ⟨b, i, none⟩ v) b (cs.setIfInBounds i v) := by
  unfold RowT
  rw [setCell_eq_setRow w b i cs _ _ v h]
  exact setRow_heap w b cs _ _ _ h
theorem RowT.keep {t : TypeId} {w w' : World} {b : Nat} {cs : Array Value} (h : RowT t w b cs) (e : w'.heap[b]? = w.heap[b]?) : RowT t w' b cs := e.trans h

/-! ### maps of names to files -/
/-- How a pointer to a file reads. -/
def ptrElem : Value → Option (DataW Unit × List MemPlace)
  | .pointer none => some (.lit (.int .i64 (-1)), [])
  | .pointer (some ⟨b, 0, none⟩) => some (.lit (.int .i64 (b : Int)), [])
  | _ => none
def ptrV : Option Nat → Value
  | none => .pointer none
  | some g => .pointer (some ⟨g, 0, none⟩)
theorem ptrElem_inv {v : Value} {y : DataW Unit × List MemPlace} (h : ptrElem v = some y) : ∃ o, v = ptrV o ∧ y = (.lit (.int .i64 (o.elim (-1) (fun g => (g : Int)))), []) := by
  unfold ptrElem at h
  split at h
  · exact ⟨none, rfl, by cases h; rfl⟩
  · rename_i b
    exact ⟨some b, rfl, by cases h; rfl⟩
  · cases h
theorem ptrElem_mk (g : Nat) : ptrElem (.pointer (some ⟨g, 0, none⟩)) = some (.lit (.int .i64 (g : Int)), []) := rfl
theorem lawS : Keyed Try.prog 9 := string_keyed Try.underlying9
theorem zeroFile (w : World) : (zeroValue 70).run Try.prog w = .ok (.pointer none) w := by kernel_rfl
def keyS (s : ByteArray) : Lit := .string s.data.toList
theorem keyS_inj {s t : ByteArray} (h : keyS s = keyS t) : s = t := by
  unfold keyS at h
  cases s
  cases t
  simpa using h
theorem keyS_of {s : ByteArray} (h : s.size ≤ maxLen) : keyOf Try.prog 9 (.string s) = some (keyS s) := Go.WideMaps.keyOf_string_mk Try.underlying9 h
def elemD (o : Option Nat) : DataW Unit := .lit (.int .i64 (o.elim (-1) (fun g => (g : Int))))
theorem elemD_inj {a b : Option Nat} (h : elemD a = elemD b) : a = b := by
  unfold elemD at h
  cases a <;> cases b <;> simp at h ⊢ <;> omega
/-- What the datum says: which name leads where. -/
def Says (D : DataW Unit) (F : ByteArray → Option Nat) : Prop := ∀ s, has D (keyS s) = (F s).isSome ∧ D.atKey (keyS s) (elemD none) = elemD (F s)
/-- Block b holds a map of names to files. -/
def MapA (w : World) (b n : Nat) (F : ByteArray → Option Nat) : Prop := ∃ D : DataW Unit, w.ownsMap Try.prog 9 ptrElem b n D ∧ Says D F
theorem MapA.lt {w : World} {b n : Nat} {F : ByteArray → Option Nat} (h : MapA w b n F) : b < w.heap.size := by
  obtain ⟨D, h, _⟩ := h
  exact h.lt
theorem MapA.keep {w w' : World} {b n : Nat} {F : ByteArray → Option Nat} (h : MapA w b n F) (e : w'.heap[b]? = w.heap[b]?) : MapA w' b n F := by
  obtain ⟨D, ⟨es, clock, hb, hr⟩, hs⟩ := h
  exact ⟨D, ⟨es, clock, e.trans hb, hr⟩, hs⟩
theorem MapA.mono {w : World} {b n n' : Nat} {F : ByteArray → Option Nat} (h : MapA w b n F) (hn : n ≤ n') : MapA w b n' F := by
  obtain ⟨D, h, hs⟩ := h
  exact ⟨D, h.mono hn, hs⟩
theorem MapA.congr {w : World} {b n : Nat} {F G : ByteArray → Option Nat} (h : MapA w b n F) (e : ∀ s, F s = G s) : MapA w b n G := by
  obtain rfl : F = G := funext e
  exact h
theorem says_empty : Says (.map []) (fun _ => none) := fun _ => ⟨rfl, rfl⟩
theorem mapA_made (w : World) : MapA (w.alloc (.map #[] 0)) w.heap.size 0 (fun _ => none) := ⟨_, World.ownsMap_made w _ _ _, says_empty⟩
def updF (F : ByteArray → Option Nat) (s : ByteArray) (o : Option Nat) : ByteArray → Option Nat := fun t => if t = s then o else F t
theorem isKey_keyS (s : ByteArray) : WideAt.IsKeyLit (keyS s) := by
  first | exact trivial | simp [WideAt.IsKeyLit, keyS]
theorem says_put {D : DataW Unit} {F : ByteArray → Option Nat} (h : Says D F) (hD : IsMap D) (s : ByteArray) (g : Nat) : Says (D.put (keyS s) (elemD (some g))) (updF F s (some g)) := by
  intro t
  unfold updF
  by_cases e : t = s
  · subst e
    rw [if_pos rfl]
    exact ⟨has_put_same hD (isKey_keyS _) _, atKey_put_same hD (isKey_keyS _) _ _⟩
  · rw [if_neg e, has_put_other (fun h => e (keyS_inj h)), atKey_put_other (fun h => e (keyS_inj h))]
    exact h t
theorem says_del {D : DataW Unit} {F : ByteArray → Option Nat} (h : Says D F) (s : ByteArray) : Says (D.del (keyS s)) (updF F s none) := by
  intro t
  unfold updF
  by_cases e : t = s
  · subst e
    rw [if_pos rfl]
    exact ⟨has_del_same, atKey_del_same _⟩
  · rw [if_neg e, has_del_other (fun h => e (keyS_inj h)), atKey_del_other (fun h => e (keyS_inj h))]
    exact h t

section
variable (w : World) {ops : Array Oper} {rest : List Oper} {o : Oper} {a : Act} {Q : Exit → Act → World → Prop}
/-- 'm[name]'. -/
theorem wpList_look (hg : o.guard = none) (m x : Operand) (hop : o.op = Op.lookup 55 m x false) (b n : Nat) (F : ByteArray → Option Nat)
    (hm : a.eval m = .map (some b)) (hM : MapA w b n F) (s : ByteArray) (hx : a.eval x = .string s) (hs : s.size ≤ maxLen)
    (hK : wpList Try.prog ops Q rest (a.put o.dst (ptrV (F s))) w) : wpList Try.prog ops Q (o :: rest) a w := by
  obtain ⟨D, hown, hF⟩ := hM
  refine wpList_plain hg fun K' hK' => ?_
  obtain ⟨v, ps, hrun, hv⟩ := hown.lookup lawS Try.underlying55 (zeroFile w) (zd := elemD none) (zp := []) rfl (keyS_of hs)
  obtain ⟨q, rfl, hq⟩ := ptrElem_inv hv
  have e : q = F s := elemD_inj ((congrArg Prod.fst hq).symm.trans (hF s).2)
  subst e
  unfold Oper.wp
  simp [execOp, hop, hm, hx, hrun, Result.andThen]
  exact hK' _ _ hK
/-- 'm[name] = file'. -/
theorem wpList_store (hg : o.guard = none) (m x v : Operand) (hop : o.op = Op.mapUpdate 55 m x v) (b n : Nat) (F : ByteArray → Option Nat)
    (hm : a.eval m = .map (some b)) (hM : MapA w b n F) (hn : n < maxLen) (s : ByteArray) (hx : a.eval x = .string s) (hs : s.size ≤ maxLen) (g : Nat) (hv : a.eval v = .pointer (some ⟨g, 0, none⟩))
    (hK : ∀ w', MapA w' b (n + 1) (updF F s (some g)) → w.grownBy w' (some b) → wpList Try.prog ops Q rest (a.put o.dst undef) w') : wpList Try.prog ops Q (o :: rest) a w := by
  obtain ⟨D, hown, hF⟩ := hM
  refine wpList_mapUpdate_own w hg m x v _ hop 9 70 lawS Try.underlying55 ptrElem b n D hm hown hn (.string s) _ (keyS s) hx hv (keyS_of hs) _ _ (ptrElem_mk g) fun w' h1 h2 => ?_
  exact hK w' ⟨_, h1, says_put hF hown.isMap s g⟩ h2
/-- 'delete(m, name)'. -/
theorem wpList_drop (hg : o.guard = none) (m x : Operand) (hop : o.op = Op.call { callee := Callee.builtin Builtin.delete, args := #[m, x], argTypes := #[55, 9] }) (b n : Nat) (F : ByteArray → Option Nat)
    (hm : a.eval m = .map (some b)) (hM : MapA w b n F) (s : ByteArray) (hx : a.eval x = .string s) (hs : s.size ≤ maxLen)
    (hK : ∀ w', MapA w' b n (updF F s none) → w.grownBy w' (some b) → wpList Try.prog ops Q rest (a.put o.dst (.tuple #[])) w') : wpList Try.prog ops Q (o :: rest) a w := by
  obtain ⟨D, hown, hF⟩ := hM
  refine wpList_delete_own w hg m x _ _ hop 70 lawS Try.underlying55 ptrElem b n D hm hown (.string s) (keyS s) hx (keyS_of hs) fun w' h1 h2 => ?_
  exact hK w' ⟨_, h1, says_del hF s⟩ h2.grown
end
end Go.Proofs.Ytdohenbicepicaa
