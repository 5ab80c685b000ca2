/-
  Lemmas on automata, the program's calls and the given ones, put together of 13 texts (part 5).
-/
import Derived.Test.YthhfmcikfdagiaaDoorQ4
import Derived.Test.YthhfmcikfdagiaaDoorQ2
import Derived.Test.YthhfmcikfdagiaaDoorQ3
import Derived.StillTailTactics
import Derived.Deep.DeepCutAuto
/-
  Where a set's bytes lead, by stretches; slices of leads.
-/
namespace Go.Proofs.YthhfmcikfdagiaaDoor
open Go.RowKit
namespace Au
/-- The rows of a set's states. -/
def rowOf (n : List Lo) (i : Nat) : List Arc := ((n[i]?).map Lo.arcs).getD []
def rowsOf (n : List Lo) (S : List Bool) : List (List Arc) := (idx S).map (rowOf n)
theorem mem_rows (n : List Lo) (S : List Bool) (a : Arc) : a ∈ (rowsOf n S).flatten ↔ ∃ k s, has S k ∧ n[k]? = some s ∧ a ∈ s.arcs := by
  unfold rowsOf
  rw [List.mem_flatten]
  constructor
  · rintro ⟨l, hl, ha⟩
    obtain ⟨k, hk, rfl⟩ := List.mem_map.1 hl
    unfold rowOf at ha
    cases hn : n[k]? with
    | none => rw [hn] at ha; cases ha
    | some s => rw [hn] at ha; exact ⟨k, s, (mem_idx S k).1 hk, hn, ha⟩
  · rintro ⟨k, s, hk, hn, ha⟩
    exact ⟨_, List.mem_map_of_mem ((mem_idx S k).2 hk), by unfold rowOf; rw [hn]; exact ha⟩
/-- The set that has some states, and what they lead to by nothing. -/
noncomputable def toSet (n : List Lo) (l : List Int) : List Bool := spread n (setOf n.length (fun j => j ∈ l.map Int.toNat))
theorem leads_hits (n : List Lo) (S : List Bool) (c j : Nat) : leads n S c j ↔ j ∈ (hits (rowsOf n S).flatten c).map Int.toNat := by
  rw [List.mem_map]
  constructor
  · rintro ⟨k, s, a, h1, h2, h3, h4, h5, h6⟩
    exact ⟨a.to, (mem_hits _ _ _).2 ⟨a, (mem_rows n S a).2 ⟨k, s, h1, h2, h3⟩, ⟨h4, h5⟩, rfl⟩, h6⟩
  · rintro ⟨x, hx, rfl⟩
    obtain ⟨a, ha, ⟨h1, h2⟩, rfl⟩ := (mem_hits _ _ _).1 hx
    obtain ⟨k, s, h3, h4, h5⟩ := (mem_rows n S a).1 ha
    exact ⟨k, s, a, h3, h4, h5, h1, h2, rfl⟩
theorem over_hits (n : List Lo) (S : List Bool) (c : Nat) : over n S c = toSet n (hits (rowsOf n S).flatten c) := by
  unfold over toSet
  congr 1
  unfold setOf
  apply List.map_congr_left
  intro i _
  exact decide_eq_decide.2 (leads_hits n S c i)
theorem toSet_none (n : List Lo) : empty (toSet n []) = true := by
  rw [empty_iff]
  apply spread_empty
  intro i hi
  obtain ⟨_, h⟩ := (has_setOf _ _ _).1 hi
  cases h
theorem toSet_some (n : List Lo) (l : List Int) (h0 : l ≠ []) (h : ∀ x ∈ l, 0 ≤ x ∧ x < n.length) : empty (toSet n l) = false := by
  rw [← Bool.not_eq_true, empty_iff]
  intro hc
  obtain ⟨x, r, rfl⟩ := List.exists_cons_of_ne_nil h0
  have hx := h x (List.mem_cons_self ..)
  refine hc x.toNat ((has_setOf _ _ _).2 ⟨by omega, x.toNat, (has_setOf _ _ _).2 ⟨by omega, by simp⟩, .refl⟩)
theorem hits_in {n : List Lo} (hm : May n) (S : List Bool) (c : Nat) : ∀ x ∈ hits (rowsOf n S).flatten c, 0 ≤ x ∧ x < n.length := by
  intro x hx
  obtain ⟨a, ha, _, rfl⟩ := (mem_hits _ _ _).1 hx
  obtain ⟨k, s, _, h2, h3⟩ := (mem_rows n S a).1 ha
  obtain ⟨hk, rfl⟩ := List.getElem?_eq_some_iff.1 h2
  have := hm.arc k hk a h3
  exact ⟨this.2.2.2.1, this.2.2.2.2⟩
theorem rows_byte {n : List Lo} (hm : May n) (S : List Bool) : ∀ l ∈ rowsOf n S, ∀ a ∈ l, byteArc a := by
  intro l hl a ha
  obtain ⟨k, s, _, h2, h3⟩ := (mem_rows n S a).1 (List.mem_flatten.2 ⟨l, hl, ha⟩)
  obtain ⟨hk, rfl⟩ := List.getElem?_eq_some_iff.1 h2
  have := hm.arc k hk a h3
  exact ⟨this.1, this.2.1, this.2.2.1⟩
/-- Stretches of a set's rows, as leads. -/
theorem sub_leads {n : List Lo} (hm : May n) (S : List Bool) (Z : List Strch) (h : Cut (rowsOf n S).flatten 0 Z) : Leads (sub n).plain S 0 (Z.map fun g => ⟨g.lo, g.hi, toSet n g.to⟩) := by
  refine cut_leads (sub n).plain S (rowsOf n S).flatten (toSet n) (fun x _ hx => ?_) (fun x _ hx => ?_) Z 0 h
  · show (if empty (over n S x) = true then none else some (over n S x)) = none
    rw [over_hits, hx, if_pos (toSet_none n)]
  · show (if empty (over n S x) = true then none else some (over n S x)) = _
    rw [over_hits, if_neg (by rw [toSet_some n _ hx (hits_in hm S x)]; decide)]
/-- Is one of the first k of a set's states final? -/
def finOf (n : List Lo) (i : Nat) : Bool := ((n[i]?).map Lo.fin).getD false
theorem ends_idx (n : List Lo) (S : List Bool) : ends n S = (idx S).any (finOf n) := by
  rw [Bool.eq_iff_iff, ends_iff, List.any_eq_true]
  constructor
  · rintro ⟨i, s, h1, h2, h3⟩
    exact ⟨i, (mem_idx S i).2 h1, by unfold finOf; rw [h2]; exact h3⟩
  · rintro ⟨i, h1, h2⟩
    unfold finOf at h2
    cases hn : n[i]? with
    | none => rw [hn] at h2; cases h2
    | some s => rw [hn] at h2; exact ⟨i, s, (mem_idx S i).1 h1, hn, h2⟩
theorem any_take (l : List Nat) (f : Nat → Bool) (k : Nat) (h : k < l.length) : (l.take (k + 1)).any f = ((l.take k).any f || f l[k]) := by
  rw [List.take_succ_eq_append_getElem h, List.any_append]
  simp
/-- What is told of arcs in each row. -/
theorem flat_le {L : List (List Arc)} {m : Nat} (h : ∀ l ∈ L, l.length ≤ m) : L.flatten.length ≤ L.length * m := by
  induction L with
  | nil => simp
  | cons a r ih =>
    rw [List.flatten_cons, List.length_append, List.length_cons, Nat.succ_mul]
    have h1 := h a (List.mem_cons_self ..)
    have h2 := ih fun l hl => h l (List.mem_cons_of_mem _ hl)
    omega
end Au

/-- Leads as cells. -/
def ldsV (L : List (Au.Trail ByteArray)) : List Value := L.flatMap fun x => [.int .i64 (x.lo : Int), .int .i64 (x.hi : Int), .string x.to]
theorem ldsV_snoc (l : List (Au.Trail ByteArray)) (x : Au.Trail ByteArray) : ldsV l ++ [.int .i64 (x.lo : Int), .int .i64 (x.hi : Int), .string x.to] = ldsV (l ++ [x]) := by simp [ldsV]
theorem ldsV_at (l : List (Au.Trail ByteArray)) : ∀ i (h : i < l.length), (ldsV l)[i * 3]? = some (.int .i64 (l[i].lo : Int)) ∧ (ldsV l)[i * 3 + 1]? = some (.int .i64 (l[i].hi : Int)) ∧ (ldsV l)[i * 3 + 2]? = some (.string l[i].to) := by
  induction l with
  | nil => intro i h; cases h
  | cons x t ih =>
    intro i h
    cases i with
    | zero => exact ⟨rfl, rfl, rfl⟩
    | succ i =>
      simp only [List.length_cons, Nat.add_lt_add_iff_right] at h
      have e : (i + 1) * 3 = i * 3 + 1 + 1 + 1 := by omega
      rw [e]
      exact ih i h
theorem Tryd.infoLd : (Tryd.prog.info? 72).map (fun i => (i.zero, i.size, i.bytes)) = some (some (.agg #[.int .i64 0, .int .i64 0, .string ByteArray.empty]), 3, 32) := by kernel_rfl
/-- The value v is a slice of leads. -/
def LdsS (F : Nat → Prop) (w : World) (v : Value) (L : List (Au.Trail ByteArray)) : Prop :=
  ∃ a cap, v = .slice a L.length cap ∧ L.length ≤ cap ∧ cap ≤ 9223372036854775807 ∧ (0 < L.length → ∃ g o, a = some ⟨g, o, none⟩ ∧ g < w.heap.size ∧ F g ∧
    ∀ j (_ : j < L.length), w.cell? ⟨g, o + j * 3, none⟩ = some (.int .i64 (L[j].lo : Int)) ∧ w.cell? ⟨g, o + j * 3 + 1, none⟩ = some (.int .i64 (L[j].hi : Int)) ∧ w.cell? ⟨g, o + j * 3 + 2, none⟩ = some (.string L[j].to))
theorem RowC.leads {κ : Nat → Nat} {c : Nat} {w : World} {v : Value} {L : List (Au.Trail ByteArray)} (h : RowC κ c w 72 3 v L.length (ldsV L)) (F : Nat → Prop) (hF : ∀ g, g < w.heap.size → κ g = c → F g) : LdsS F w v L := by
  obtain ⟨a, cap, h1, h2, h3, h4⟩ := h.form
  refine ⟨a, cap, h1, h2, h3, fun h0 => ?_⟩
  obtain ⟨g, h5, h6, h7, _, h8⟩ := h4 h0
  refine ⟨g, 0, h5, h6, hF g h6 h7, fun j hj => ?_⟩
  obtain ⟨a1, a2, a3⟩ := ldsV_at L j hj
  rw [Nat.zero_add]
  exact ⟨h8 _ _ a1, h8 _ _ a2, h8 _ _ a3⟩
end Go.Proofs.YthhfmcikfdagiaaDoor

/-
  What the program's walk over things, told by texts, holds in memory.
-/
namespace Go.Proofs.YthhfmcikfdagiaaDoor
open Go.RowKit Go.Maps
namespace Au
/-- The place of a text among texts. -/
def idxE (E : List ByteArray) (b : ByteArray) : Nat := find (fun a b => decide (a = b)) E b
theorem idxE_le (E : List ByteArray) (b : ByteArray) : idxE E b ≤ E.length := find_le _ _ _
theorem find_enc {σ : Type} (same : σ → σ → Bool) (enc : σ → ByteArray) (l : List σ) (t : σ) (h : ∀ x ∈ l, same x t = decide (enc x = enc t)) : find same l t = idxE (l.map enc) (enc t) := by
  induction l with
  | nil => rfl
  | cons x r ih =>
    unfold idxE
    rw [List.map_cons]
    simp only [find]
    rw [h x (List.mem_cons_self ..), ih fun y hy => h y (List.mem_cons_of_mem _ hy)]
    rfl
theorem leads_each {σ : Type} {W : Walk σ} {s : σ} {L : List (Trail σ)} : ∀ {c : Nat}, Leads W s c L → ∀ l ∈ L, l.lo ≤ l.hi ∧ l.hi < 256 := by
  induction L with
  | nil => intro c _ l hl; cases hl
  | cons a r ih =>
    intro c h l hl
    obtain ⟨h1, h2, h3, _, _, h6⟩ := h
    rcases List.mem_cons.1 hl with rfl | hl
    · exact ⟨h2, h3⟩
    · exact ih h6 l hl
theorem joined_hi (l : List Arc) (lo hi k : Nat) (h : ∀ a ∈ l, 0 ≤ a.hi ∧ a.hi ≤ 1000) (hh : hi ≤ 1000) : ∀ a ∈ joined l lo hi k, 0 ≤ a.hi ∧ a.hi ≤ 1000 := by
  intro a ha
  rcases last_cases l with rfl | ⟨r, x, rfl⟩
  · rw [joined_nil] at ha
    simp at ha
    subst ha
    dsimp only
    omega
  · rw [joined_snoc] at ha
    split at ha
    · rcases List.mem_append.1 ha with h1 | h1
      · exact h a (List.mem_append_left _ h1)
      · simp at h1; subst h1; dsimp only; omega
    · rcases List.mem_append.1 ha with h1 | h1
      · exact h a h1
      · simp at h1; subst h1; dsimp only; omega
theorem leads_hi {σ : Type} (W : Walk σ) (m : List σ) (L : List (Trail σ)) (hL : ∀ l ∈ L, l.hi < 256) (k : Nat) : ∀ a ∈ (W.leads m L k).2, 0 ≤ a.hi ∧ a.hi ≤ 1000 := by
  induction k with
  | zero => rw [leads_zero]; intro a ha; cases ha
  | succ k ih =>
    by_cases h : k < L.length
    · rw [leads_succ W m L k h]
      have := hL _ (List.getElem_mem h)
      exact joined_hi _ _ _ _ ih (by omega)
    · have e : W.leads m L (k + 1) = W.leads m L k := by
        unfold Walk.leads
        rw [List.take_of_length_le (by omega), List.take_of_length_le (by omega)]
      rw [e]; exact ih
theorem leads_mem {σ : Type} (W : Walk σ) (P : σ → Prop) (m : List σ) (L : List (Trail σ)) (hm : ∀ x ∈ m, P x) (hL : ∀ l ∈ L, P l.to) (k : Nat) : ∀ x ∈ (W.leads m L k).1, P x := by
  induction k with
  | zero => rw [leads_zero]; exact hm
  | succ k ih =>
    by_cases h : k < L.length
    · rw [leads_succ W m L k h]
      intro x hx
      unfold Walk.lead at hx
      dsimp only at hx
      split at hx
      · rcases List.mem_append.1 hx with h1 | h1
        · exact ih x h1
        · simp at h1; subst h1; exact hL _ (List.getElem_mem h)
      · exact ih x hx
    · have e : W.leads m L (k + 1) = W.leads m L k := by
        unfold Walk.leads
        rw [List.take_of_length_le (by omega), List.take_of_length_le (by omega)]
      rw [e]; exact ih
theorem leads_len {σ : Type} (W : Walk σ) (m : List σ) (L : List (Trail σ)) (k : Nat) : (W.leads m L k).1.length ≤ m.length + k := by
  induction k with
  | zero => rw [leads_zero]; exact Nat.le_refl _
  | succ k ih =>
    by_cases h : k < L.length
    · rw [leads_succ W m L k h]
      unfold Walk.lead
      dsimp only
      split
      · rw [List.length_append]; simp; omega
      · omega
    · have e : W.leads m L (k + 1) = W.leads m L k := by
        unfold Walk.leads
        rw [List.take_of_length_le (by omega), List.take_of_length_le (by omega)]
      rw [e]; omega
end Au

/-- Where a text stands among those met. -/
def plE (E : List ByteArray) (b : ByteArray) : Option Value := if Au.idxE E b = E.length then none else some (.int .i64 (Au.idxE E b : Int))
def keyB (b : ByteArray) : Lit := .string b.data.toList
theorem keyB_inj {s t : ByteArray} (h : keyB s = keyB t) : s = t := by
  unfold keyB at h
  simp only [Lit.string.injEq] at h
  exact ByteArray.ext (Array.toList_inj.1 h)
theorem plE_snoc {E : List ByteArray} {b : ByteArray} (h : Au.idxE E b = E.length) (c : ByteArray) : plE (E ++ [b]) c = if c = b then some (.int .i64 (E.length : Int)) else plE E c := by
  by_cases e : c = b
  · rw [if_pos e]
    subst e
    unfold plE
    have := Au.find_snoc (fun a b : ByteArray => decide (a = b)) (fun s => decide_eq_true rfl) E c h
    have h2 : Au.idxE (E ++ [c]) c = E.length := this
    rw [h2, if_neg (by rw [List.length_append]; simp)]
  · rw [if_neg e]
    unfold plE
    by_cases h1 : Au.idxE E c < E.length
    · have := Au.find_append (fun a b : ByteArray => decide (a = b)) E [b] c h1
      have h2 : Au.idxE (E ++ [b]) c = Au.idxE E c := this
      rw [h2, if_neg (by rw [List.length_append]; simp; omega), if_neg (by omega)]
    · have h3 := Au.idxE_le E c
      have h4 : Au.idxE (E ++ [b]) c = (E ++ [b]).length := by
        have h5 := Au.idxE_le (E ++ [b]) c
        rcases Nat.lt_or_ge (Au.idxE (E ++ [b]) c) (E ++ [b]).length with q | q
        · exfalso
          have h6 := Au.find_hit (fun a b : ByteArray => decide (a = b)) (E ++ [b]) c q
          have h6 := of_decide_eq_true h6
          by_cases q2 : Au.idxE (E ++ [b]) c < E.length
          · have e2 : (E ++ [b])[Au.idxE (E ++ [b]) c] = E[Au.idxE (E ++ [b]) c] := List.getElem_append_left q2
            obtain ⟨_, h7⟩ := Au.find_miss (fun a b : ByteArray => decide (a = b)) E c (Au.idxE (E ++ [b]) c) (by show _ < Au.idxE E c; omega)
            have h7 := of_decide_eq_false h7
            exact h7 (e2 ▸ h6)
          · have e3 : Au.idxE (E ++ [b]) c = E.length := by simp at q; omega
            have e2 : (E ++ [b])[Au.idxE (E ++ [b]) c] = b := by simp [e3]
            exact e (by rw [← h6]; exact e2)
        · omega
      rw [h4, if_pos rfl, if_pos (by omega)]
theorem lawSt : Keyed Tryd.prog 9 := string_keyed Tryd.underlying9
theorem keyB_of {s : ByteArray} (h : s.size ≤ maxLen) : keyOf Tryd.prog 9 (.string s) = some (keyB s) := Go.WideMaps.keyOf_string_mk Tryd.underlying9 h
theorem zeroInt (w : World) : (zeroValue 3).run Tryd.prog w = .ok (.int .i64 0) w := by kernel_rfl
theorem Tryd.infoTx : (Tryd.prog.info? 9).map (fun i => (i.zero, i.size, i.bytes)) = some (some (.string ByteArray.empty), 1, 16) := by kernel_rfl

section
variable (w : World) {ops : Array Oper} {rest : List Oper} {o : Oper} {a : Act} {Q : Exit → Act → World → Prop}
end

/-- The place map of texts. -/
def MapE (w : World) (mb : Nat) (E : List ByteArray) : Prop := ∃ F, MapG 9 w mb E.length F ∧ ∀ s, F (keyB s) = plE E s
theorem mapE_new {w : World} {mb : Nat} {E : List ByteArray} {F : Lit → Option Value} {b : ByteArray} (h : MapG 9 w mb (E.length + 1) (updG F (keyB b) (some (.int .i64 (E.length : Int))))) (hF : ∀ s, F (keyB s) = plE E s) (hb : Au.idxE E b = E.length) : MapE w mb (E ++ [b]) := by
  refine ⟨_, by rw [List.length_append]; exact h, fun s => ?_⟩
  rw [plE_snoc hb]
  by_cases e : s = b
  · rw [if_pos e, e, updG_same]
  · rw [if_neg e, updG_other _ _ _ _ fun h => e (keyB_inj h)]
    exact hF s

/-- What holds of all that lay there ahead of the call. -/
structure Bs (Inv : World → Prop) (bi : Nat) (w0 w : World) (κ : Nat → Nat) : Prop where
  go : ∀ W W', Inv W → Below w0.heap.size W W' → Inv W'
  lo : ∀ k, k < w0.heap.size → κ k = 0
  kept : KeptF (fun b => b = bi) w0 w
  inv : Inv w
theorem Bs.step {Inv : World → Prop} {bi c : Nat} {w0 w w' : World} {κ κ' : Nat → Nat} (h : Bs Inv bi w0 w κ) (hs : Step κ c w w' κ') (hc : c ≠ 0) : Bs Inv bi w0 w' κ' := by
  have hb : Below w0.heap.size w w' := ⟨hs.os, hs.tape, hs.output, hs.size, fun k hk => hs.block k (Nat.lt_of_lt_of_le hk h.kept.size) (by rw [h.lo k hk]; exact fun e => hc e.symm)⟩
  exact ⟨h.go, fun k hk => by rw [hs.col k (Nat.lt_of_lt_of_le hk h.kept.size)]; exact h.lo k hk, ⟨hb.os.trans h.kept.os, hb.tape.trans h.kept.tape, hb.output.trans h.kept.output, Nat.le_trans h.kept.size hb.size, fun b hb' hne => (hb.block b hb').trans (h.kept.block b hb' hne)⟩, h.go _ _ h.inv hb⟩
/-- The texts met, and their places. -/
structure TM (w : World) (mb : Nat) (κ : Nat → Nat) (vt : Value) (E : List ByteArray) : Prop where
  texts : RowC κ 2 w 9 1 vt E.length (E.map Value.string)
  map : MapE w mb E
  col : κ mb = 3
theorem TM.lt {w : World} {mb : Nat} {κ : Nat → Nat} {vt : Value} {E : List ByteArray} (h : TM w mb κ vt E) : mb < w.heap.size := by
  obtain ⟨F, hm, _⟩ := h.map
  exact hm.lt
theorem TM.step {w w' : World} {mb c : Nat} {κ κ' : Nat → Nat} {vt : Value} {E : List ByteArray} (h : TM w mb κ vt E) (hs : Step κ c w w' κ') (h2 : 2 ≠ c) (h3 : 3 ≠ c) : TM w' mb κ' vt E := by
  obtain ⟨F, hm, hF⟩ := h.map
  have hl := hm.lt
  exact ⟨h.texts.step hs h2, ⟨F, hm.keep (hs.block mb hl (by rw [h.col]; exact h3)), hF⟩, by rw [hs.col mb hl]; exact h.col⟩
/-- The states told. -/
structure OT (w : World) (κ : Nat → Nat) (vo : Value) (L : List (Bool × Value)) (out : List Au.St) : Prop where
  outs : RowC κ 4 w 42 2 vo L.length (stsV L)
  len : L.length = out.length
  each : ∀ j (h : j < L.length) (h' : j < out.length), L[j].1 = out[j].fin ∧ RowC κ 5 w 63 3 L[j].2 out[j].arcs.length (arcsV out[j].arcs)
theorem OT.step {w w' : World} {c : Nat} {κ κ' : Nat → Nat} {vo : Value} {L : List (Bool × Value)} {out : List Au.St} (h : OT w κ vo L out) (hs : Step κ c w w' κ') (h4 : 4 ≠ c) (h5 : 5 ≠ c) : OT w' κ' vo L out :=
  ⟨h.outs.step hs h4, h.len, fun j hj hj' => ⟨(h.each j hj hj').1, (h.each j hj hj').2.step hs h5⟩⟩
/-- The state at hand, at block bs, and its arcs. -/
structure CS (w : World) (bs : Nat) (κ : Nat → Nat) (va : Value) (fin : Bool) (arcs : List Au.Arc) : Prop where
  row : w.heap[bs]? = some (.cells #[.bool fin, va] 42 (0, 0))
  col : κ bs = 7
  arcs : RowC κ 6 w 63 3 va arcs.length (arcsV arcs)
theorem CS.lt {w : World} {bs : Nat} {κ : Nat → Nat} {va : Value} {fin : Bool} {arcs : List Au.Arc} (h : CS w bs κ va fin arcs) : bs < w.heap.size := (Array.getElem?_eq_some_iff.1 h.row).1
theorem CS.step {w w' : World} {bs c : Nat} {κ κ' : Nat → Nat} {va : Value} {fin : Bool} {arcs : List Au.Arc} (h : CS w bs κ va fin arcs) (hs : Step κ c w w' κ') (h6 : 6 ≠ c) (h7 : 7 ≠ c) : CS w' bs κ' va fin arcs :=
  ⟨(hs.block bs h.lt (by rw [h.col]; exact h7)).trans h.row, by rw [hs.col bs h.lt]; exact h.col, h.arcs.step hs h6⟩
theorem CS.cells {w : World} {bs : Nat} {κ : Nat → Nat} {va : Value} {fin : Bool} {arcs : List Au.Arc} (h : CS w bs κ va fin arcs) : w.cell? ⟨bs, 0, none⟩ = some (.bool fin) ∧ w.cell? ⟨bs, 1, none⟩ = some va ∧ w.frozen? ⟨bs, 1, none⟩ = false := by
  refine ⟨?_, ?_, ?_⟩ <;> simp [World.cell?, World.frozen?, h.row]
/-- The leads at hand. -/
theorem LdsS.step {c d : Nat} {w w' : World} {κ κ' : Nat → Nat} {v : Value} {L : List (Au.Trail ByteArray)} (h : LdsS (fun g => κ g = d) w v L) (hs : Step κ c w w' κ') (hd : d ≠ c) : LdsS (fun g => κ' g = d) w' v L := by
  obtain ⟨a, cap, h1, h2, h3, h4⟩ := h
  refine ⟨a, cap, h1, h2, h3, fun h0 => ?_⟩
  obtain ⟨g, o, h5, h6, h7, h8⟩ := h4 h0
  have hb := hs.block g h6 (by rw [h7]; exact hd)
  exact ⟨g, o, h5, Nat.lt_of_lt_of_le h6 hs.size, (hs.col g h6).trans h7, fun j hj => ⟨(cell_same hb).trans (h8 j hj).1, (cell_same hb).trans (h8 j hj).2.1, (cell_same hb).trans (h8 j hj).2.2⟩⟩

/-- Between two states. -/
structure Mo (Inv : World → Prop) (bi : Nat) (w0 w : World) (mb : Nat) (κ : Nat → Nat) (vt vo : Value) (E : List ByteArray) (L : List (Bool × Value)) (out : List Au.St) : Prop where
  bs : Bs Inv bi w0 w κ
  tm : TM w mb κ vt E
  ot : OT w κ vo L out
/-- Within one. -/
structure Mi (Inv : World → Prop) (bi : Nat) (w0 w : World) (mb sb : Nat) (κ : Nat → Nat) (vt vo va vl : Value) (E : List ByteArray) (L : List (Bool × Value)) (out : List Au.St) (fin : Bool) (arcs : List Au.Arc) (T : List (Au.Trail ByteArray)) : Prop where
  bs : Bs Inv bi w0 w κ
  tm : TM w mb κ vt E
  ot : OT w κ vo L out
  cs : CS w sb κ va fin arcs
  ld : LdsS (fun g => κ g = 8) w vl T
section
variable {Inv : World → Prop} {bi : Nat} {w0 w w' : World} {mb sb : Nat} {κ κ' : Nat → Nat} {vt vo va vl : Value} {E : List ByteArray} {L : List (Bool × Value)} {out : List Au.St} {fin : Bool} {arcs : List Au.Arc} {T : List (Au.Trail ByteArray)}
theorem Mo.step {c : Nat} (h : Mo Inv bi w0 w mb κ vt vo E L out) (hs : Step κ c w w' κ') (hc : 6 ≤ c) : Mo Inv bi w0 w' mb κ' vt vo E L out :=
  ⟨h.bs.step hs (by omega), h.tm.step hs (by omega) (by omega), h.ot.step hs (by omega) (by omega)⟩
/-- A look: what lay there is as it was, but one block that is put back. -/
theorem Mo.look (h : Mo Inv bi w0 w mb κ vt vo E L out) (hbi : bi < w0.heap.size) (hk : KeptF (fun b => b = bi) w w') (hi : Inv w') (hv : LdsS (fun g => w.heap.size ≤ g) w' vl T) :
    Mo Inv bi w0 w' mb (paint κ w.heap.size 8) vt vo E L out ∧ LdsS (fun g => paint κ w.heap.size 8 g = 8) w' vl T := by
  have hb0 : κ bi = 0 := h.bs.lo bi hbi
  have blk : ∀ k, k < w.heap.size → κ k ≠ 0 → w'.heap[k]? = w.heap[k]? := fun k hk' hc => hk.block k hk' fun e => hc (by rw [e]; exact hb0)
  have col : ∀ k, k < w.heap.size → paint κ w.heap.size 8 k = κ k := fun k hk' => paint_old _ _ _ _ hk'
  have row : ∀ {c : Nat} {e : TypeId} {z : Nat} {v : Value} {n : Nat} {xs : List Value}, RowC κ c w e z v n xs → c ≠ 0 → RowC (paint κ w.heap.size 8) c w' e z v n xs := fun {c e z v n xs} hr hc =>
    ⟨ownsRow_keep hr.own fun k hk' => blk k (hr.lt k hk').1 (by rw [(hr.lt k hk').2]; exact hc), fun b hb => by rw [col b (hr.lt b hb).1]; exact hr.col b hb⟩
  obtain ⟨F, hm, hF⟩ := h.tm.map
  refine ⟨⟨⟨h.bs.go, fun k hk' => by rw [col k (Nat.lt_of_lt_of_le hk' h.bs.kept.size)]; exact h.bs.lo k hk', h.bs.kept.trans hk, hi⟩, ⟨row h.tm.texts (by decide), ⟨F, hm.keep (blk mb hm.lt (by rw [h.tm.col]; decide)), hF⟩, by rw [col mb hm.lt]; exact h.tm.col⟩, ⟨row h.ot.outs (by decide), h.ot.len, fun j hj hj' => ⟨(h.ot.each j hj hj').1, row (h.ot.each j hj hj').2 (by decide)⟩⟩⟩, ?_⟩
  obtain ⟨a, cap, h1, h2, h3, h4⟩ := hv
  refine ⟨a, cap, h1, h2, h3, fun h0 => ?_⟩
  obtain ⟨g, o, h5, h6, h7, h8⟩ := h4 h0
  exact ⟨g, o, h5, h6, paint_new _ _ _ _ h7, h8⟩
/-- A new state. -/
theorem Mo.open (h : Mo Inv bi w0 w mb κ vt vo E L out) (hv : LdsS (fun g => κ g = 8) w vl T) (fin : Bool) :
    Mi Inv bi w0 (w.alloc (.cells #[.bool fin, .slice none 0 0] 42)) mb w.heap.size (paint κ w.heap.size 7) vt vo (.slice none 0 0) vl E L out fin [] T := by
  have hs : Step κ 7 w (w.alloc (.cells #[.bool fin, .slice none 0 0] 42)) (paint κ w.heap.size 7) := Step.of_alloc w _
  obtain ⟨h1, h2, h3⟩ := h.step hs (by decide)
  exact ⟨h1, h2, h3, ⟨Go.Deep.blk_alloc_new _ _, paint_new _ _ _ _ (Nat.le_refl _), RowC.nil _ _ _ _ _⟩, hv.step hs (by decide)⟩
theorem Mi.step {c : Nat} (h : Mi Inv bi w0 w mb sb κ vt vo va vl E L out fin arcs T) (hs : Step κ c w w' κ') (hc : 9 ≤ c) : Mi Inv bi w0 w' mb sb κ' vt vo va vl E L out fin arcs T :=
  ⟨h.bs.step hs (by omega), h.tm.step hs (by omega) (by omega), h.ot.step hs (by omega) (by omega), h.cs.step hs (by omega) (by omega), h.ld.step hs (by omega)⟩
/-- A new text: its place, -/
theorem Mi.place (h : Mi Inv bi w0 w mb sb κ vt vo va vl E L out fin arcs T) (hg : w.grownBy w' (some mb)) :
    Step κ 3 w w' (paint κ w.heap.size 3) ∧ RowC (paint κ w.heap.size 3) 2 w' 9 1 vt E.length (E.map Value.string) :=
  have hs : Step κ 3 w w' (paint κ w.heap.size 3) := Step.of_grown hg h.tm.col
  ⟨hs, h.tm.texts.step hs (by decide)⟩
/-- .. and itself. -/
theorem Mi.push {b : ByteArray} {w2 : World} {vt' : Value} (h : Mi Inv bi w0 w mb sb κ vt vo va vl E L out fin arcs T) (hm : MapE w' mb (E ++ [b])) (hs : Step κ 3 w w' κ')
    (hr : RowC (paint κ' w'.heap.size 2) 2 w2 9 1 vt' (E.length + 1) (E.map Value.string ++ [.string b])) (hs2 : Step κ' 2 w' w2 (paint κ' w'.heap.size 2)) : Mi Inv bi w0 w2 mb sb (paint κ' w'.heap.size 2) vt' vo va vl (E ++ [b]) L out fin arcs T := by
  obtain ⟨F, hmm, hF⟩ := hm
  have hl := h.tm.lt
  have hc : κ' mb = 3 := by rw [hs.col mb hl]; exact h.tm.col
  have hl' : mb < w'.heap.size := Nat.lt_of_lt_of_le hl hs.size
  refine ⟨(h.bs.step hs (by decide)).step hs2 (by decide), ⟨?_, ⟨F, hmm.keep (hs2.block mb hl' (by rw [hc]; decide)), hF⟩, by rw [hs2.col mb hl']; exact hc⟩, (h.ot.step hs (by decide) (by decide)).step hs2 (by decide) (by decide), (h.cs.step hs (by decide) (by decide)).step hs2 (by decide) (by decide), (h.ld.step hs (by decide)).step hs2 (by decide)⟩
  rw [List.map_append, List.length_append]
  exact hr
/-- Its arcs have grown, and their slice is put back. -/
theorem Mi.grow {va' : Value} {arcs' : List Au.Arc} (h : Mi Inv bi w0 w mb sb κ vt vo va vl E L out fin arcs T) (h2 : Ap.Two w w' va va') (ha : OwnA w' 0 va' arcs') :
    (w'.cell? ⟨sb, 1, none⟩ = some va ∧ w'.frozen? ⟨sb, 1, none⟩ = false) ∧ Mi Inv bi w0 (w'.setCell ⟨sb, 1, none⟩ va') mb sb (paint κ w.heap.size 6) vt vo va' vl E L out fin arcs' T := by
  have hs : Step κ 6 w w' (paint κ w.heap.size 6) := Step.of_two h2 fun b hb => h.cs.arcs.col b hb
  have hsb := h.cs.lt
  have hrow : w'.heap[sb]? = some (.cells #[.bool fin, va] 42 (0, 0)) := (hs.block sb hsb (by rw [h.cs.col]; decide)).trans h.cs.row
  have hcol : paint κ w.heap.size 6 sb = 7 := by rw [paint_old _ _ _ _ hsb]; exact h.cs.col
  have hs2 : Step (paint κ w.heap.size 6) 7 w' (w'.setCell ⟨sb, 1, none⟩ va') (paint κ w.heap.size 6) := Step.of_set w' sb 1 va' hcol
  have har : RowC (paint κ w.heap.size 6) 6 w' 63 3 va' arcs'.length (arcsV arcs') := ⟨ha, Two.col h2 fun b hb => h.cs.arcs.lt b hb⟩
  refine ⟨⟨by simp [World.cell?, hrow], by simp [World.frozen?, hrow]⟩, (h.bs.step hs (by decide)).step hs2 (by decide), (h.tm.step hs (by decide) (by decide)).step hs2 (by decide) (by decide), (h.ot.step hs (by decide) (by decide)).step hs2 (by decide) (by decide), ⟨?_, hcol, har.step hs2 (by decide)⟩, (h.ld.step hs (by decide)).step hs2 (by decide)⟩
  rw [setCell_eq_setRow w' sb 1 _ _ _ _ hrow]
  exact setRow_heap w' sb _ _ _ _ hrow
/-- The state is told. -/
theorem Mi.close {vo' : Value} (h : Mi Inv bi w0 w mb sb κ vt vo va vl E L out fin arcs T) (hr : RowC (paint κ w.heap.size 4) 4 w' 42 2 vo' (L.length + 1) (stsV L ++ [.bool fin, va])) (hs : Step κ 4 w w' (paint κ w.heap.size 4)) :
    Mo Inv bi w0 w' mb (fun k => if paint κ w.heap.size 4 k = 6 then 5 else paint κ w.heap.size 4 k) vt vo' E (L ++ [(fin, va)]) (out ++ [⟨fin, arcs⟩]) := by
  have recol : ∀ {c : Nat} {e : TypeId} {z : Nat} {v : Value} {n : Nat} {xs : List Value}, RowC (paint κ w.heap.size 4) c w' e z v n xs → c ≠ 6 → RowC (fun k => if paint κ w.heap.size 4 k = 6 then 5 else paint κ w.heap.size 4 k) c w' e z v n xs := fun {c e z v n xs} hr hc =>
    ⟨hr.own, fun b hb => by show (if _ then _ else _) = _; rw [hr.col b hb, if_neg hc]⟩
  have hb := h.bs.step hs (by decide)
  have ht := h.tm.step hs (by decide) (by decide)
  have hl := h.ot.len
  refine ⟨⟨hb.go, fun k hk => by show (if _ then _ else _) = _; rw [hb.lo k hk, if_neg (by decide)], hb.kept, hb.inv⟩, ⟨recol ht.texts (by decide), ht.map, by show (if _ then _ else _) = _; rw [ht.col, if_neg (by decide)]⟩, ⟨?_, by simp [hl], fun j hj hj' => ?_⟩⟩
  · rw [← stsV_snoc L (fin, va), List.length_append]
    exact recol hr (by decide)
  · by_cases e : j < L.length
    · rw [List.getElem_append_left e, List.getElem_append_left (by omega)]
      exact ⟨(h.ot.each j e (by omega)).1, recol ((h.ot.each j e (by omega)).2.step hs (by decide)) (by decide)⟩
    · have e' : j = L.length := by simp at hj; omega
      subst e'
      simp only [List.getElem_append_right (Nat.le_refl _), Nat.sub_self, List.getElem_cons_zero]
      have : (out ++ [(⟨fin, arcs⟩ : Au.St)])[L.length] = ⟨fin, arcs⟩ := by simp only [hl, List.getElem_append_right (Nat.le_refl _), Nat.sub_self, List.getElem_cons_zero]
      rw [this]
      refine ⟨rfl, (h.cs.arcs.step hs (by decide)).own, fun b hb => ?_⟩
      show (if _ then _ else _) = _
      rw [(h.cs.arcs.step hs (by decide)).col b hb, if_pos rfl]
/-- What has been told is a slice of states. -/
theorem OT.sts (h : OT w κ vo L out) (F : Nat → Prop) (hF : ∀ g, κ g = 4 ∨ κ g = 5 → F g) : StS F w vo out := by
  obtain ⟨a, cap, h1, h2, h3, h4⟩ := h.outs.form
  have hl := h.len
  rw [hl] at h1 h2
  refine ⟨a, cap, h1, h2, h3, fun h0 => ?_⟩
  obtain ⟨g, h5, h6, h7, _, h8⟩ := h4 (by omega)
  refine ⟨g, 0, h5, h6, hF g (.inl h7), fun j hj => ?_⟩
  obtain ⟨t1, t2⟩ := h.each j (by omega) hj
  obtain ⟨c1, c2⟩ := stsV_at L j (by omega)
  rw [Nat.zero_add]
  refine ⟨(h8 _ _ c1).trans (by rw [t1]), _, h8 _ _ c2, ?_⟩
  obtain ⟨a', cap', k1, k2, k3, k4⟩ := t2.form
  refine ⟨a', cap', k1, k2, k3, fun h0' => ?_⟩
  obtain ⟨g', k5, k6, k7, _, k8⟩ := k4 h0'
  refine ⟨g', 0, k5, k6, hF g' (.inr k7), fun i hi => ?_⟩
  obtain ⟨x1, x2, x3⟩ := arcsV_at _ i hi
  rw [Nat.zero_add]
  exact ⟨k8 _ _ x1, k8 _ _ x2, k8 _ _ x3⟩
end
end Go.Proofs.YthhfmcikfdagiaaDoor

/-
  The program's walk over things, told by texts.
-/
namespace Go.Proofs.YthhfmcikfdagiaaDoor
open Go.RowKit Go.Maps
/-- What a look answers. -/
def LookP {σ : Type} (W : Au.Walk σ) (enc : σ → ByteArray) (Inv : World → Prop) (bi : Nat) (s : σ) (w : World) : Ending → World → Prop := fun e w' =>
  ∃ v Z, e = .returned (.tuple #[.bool (W.fin s), v]) ∧ Au.Leads W s 0 Z ∧ LdsS (fun g => w.heap.size ≤ g) w' v (Z.map fun z => (⟨z.lo, z.hi, enc z.to⟩ : Au.Trail ByteArray)) ∧ KeptF (fun b => b = bi) w w' ∧ Inv w'
/-- What the walk answers. -/
def MeetP {σ : Type} (W : Au.Walk σ) (start : σ) (most : Int) (bi : Nat) (w0 : World) : Ending → World → Prop := fun e w' =>
  ∃ v er, e = .returned (.tuple #[v, .int .i64 er]) ∧ KeptF (fun b => b = bi) w0 w' ∧
    ((er = 0 ∧ ∃ i, W.Done start i ∧ ((W.met start i).length : Int) ≤ most ∧ StS (fun g => w0.heap.size ≤ g) w' v (W.out start i)) ∨ (er = 8 ∧ v = .slice none 0 0 ∧ ∃ i, most < ((W.met start i).length : Int)))

theorem mapE_start {w' : World} {mb : Nat} {b : ByteArray} (h : MapG 9 w' mb 1 (updG (fun _ => none) (keyB b) (some (.int .i64 0)))) : MapE w' mb [b] := by
  refine mapE_new (E := []) (F := fun _ => none) h (fun s => rfl) rfl

theorem run_updG (w : World) {t k e : TypeId} (K : Keyed Tryd.prog k) (ht : Tryd.prog.underlying t = some (.map k e)) {b n : Nat} {F : Lit → Option Value} (hM : MapG k w b n F) (hn : n < maxLen) {key : Value} {kl : Lit} (hkey : keyOf Tryd.prog k key = some kl) (u : Value) :
    ∃ w', (Instr.mapUpdate t (.map (some b)) key u).run Tryd.prog w = .ok () w' ∧ MapG k w' b (n + 1) (updG F kl (some u)) ∧ w.grownBy w' (some b) := by
  obtain ⟨D, hown, hF⟩ := hM
  obtain ⟨w', hrun, r1, r2⟩ := hown.update K ht hn hkey (val := u) (d := .held u) (ps := []) rfl
  refine ⟨w', hrun, ⟨_, r1, fun l z hl => ?_⟩, r2⟩
  by_cases e : l = kl
  · subst e
    rw [updG_same]
    exact ⟨has_put_same hown.isMap hl _, atKey_put_same hown.isMap hl _ _⟩
  · rw [updG_other _ _ _ _ e, has_put_other e, atKey_put_other e]
    exact hF l z hl
theorem mo_start {Inv : World → Prop} {bi : Nat} {w0 w1 : World} {b : ByteArray} (hm : MapE w1 w0.heap.size [b]) (hb : Below w0.heap.size w0 w1) (hl : w0.heap.size < w1.heap.size) (hinv : Inv w0) (hgo : ∀ W W', Inv W → Below w0.heap.size W W' → Inv W') :
    Mo Inv bi w0 (w1.alloc (.cells #[.string b] 9)) w0.heap.size (fun k => if k < w0.heap.size then 0 else if k = w0.heap.size then 3 else 2) (.slice (some ⟨w1.heap.size, 0, none⟩) 1 1) (.slice none 0 0) [b] [] [] := by
  have hb2 : Below w0.heap.size w0 (w1.alloc (.cells #[.string b] 9)) := hb.alloc hb.size _
  obtain ⟨F, hmm, hF⟩ := hm
  refine ⟨⟨hgo, fun k hk => if_pos hk, KeptF.of_below hb2, hgo _ _ hinv hb2⟩, ⟨⟨World.ownsRow_lit (e := 9) (size := 1) w1 #[.string b] 1 (Nat.zero_le _) (by unfold maxLen; omega) rfl, fun g hg => ?_⟩, ⟨F, hmm.keep (Go.Deep.blk_alloc_lt _ _ _ hl), hF⟩, ?_⟩, ⟨RowC.nil _ _ _ _ _, rfl, fun j hj => by cases hj⟩⟩
  · have e : w1.heap.size = g := by simpa [Value.ownBlock] using hg
    subst e
    show (if _ then _ else if _ then _ else _) = _
    rw [if_neg (by omega), if_neg (by omega)]
  · show (if _ then _ else if _ then _ else _) = _
    rw [if_neg (Nat.lt_irrefl _), if_pos rfl]

theorem Au.leads_P {σ : Type} {W : Au.Walk σ} {P : σ → Prop} (hP : ∀ s c t, P s → W.go s c = some t → P t) {s : σ} (hs : P s) {L : List (Au.Trail σ)} : ∀ {c : Nat}, Au.Leads W s c L → ∀ l ∈ L, P l.to := by
  induction L with
  | nil => intro c _ l hl; cases hl
  | cons a r ih =>
    intro c h l hl
    obtain ⟨_, h2, _, _, h5, h6⟩ := h
    rcases List.mem_cons.1 hl with rfl | hl
    · exact hP s _ _ hs (h5 _ (Nat.le_refl _) h2)
    · exact ih h6 l hl
theorem lookP_open {σ : Type} {W : Au.Walk σ} {enc : σ → ByteArray} {Inv : World → Prop} {bi : Nat} {s : σ} {w w' : World} {e : Ending} (h : LookP W enc Inv bi s w e w') : ∃ al z cl Z, e = .returned (.tuple #[.bool (W.fin s), .slice al z cl]) ∧ z ≤ 256 ∧
    Hid (Z.length = z ∧ Au.Leads W s 0 Z ∧ LdsS (fun g => w.heap.size ≤ g) w' (.slice al z cl) (Z.map fun z => (⟨z.lo, z.hi, enc z.to⟩ : Au.Trail ByteArray)) ∧ KeptF (fun b => b = bi) w w' ∧ Inv w') := by
  obtain ⟨v, Z, rfl, h1, h2, h3, h4⟩ := h
  have h5 := h2
  obtain ⟨al, cl, hv, _⟩ := h2
  rw [List.length_map] at hv
  subst hv
  exact ⟨al, _, cl, Z, rfl, by have := Au.Leads.few (Nat.zero_le _) h1; omega, rfl, h1, h5, h3, h4⟩

set_option maxRecDepth 100000 in
set_option maxHeartbeats 2000000 in
theorem meet_any {σ : Type} (W : Au.Walk σ) (enc : σ → ByteArray) (P : σ → Prop) (Inv : World → Prop) (bi : Nat) (w0 : World) (fn : Nat) (cap : Value) (start : σ) (most : Int) (N : Nat)
    (hrefl : ∀ s, W.same s s = true) (hP : ∀ s c t, P s → W.go s c = some t → P t) (hs : P start) (henc : ∀ s t, P s → P t → W.same s t = decide (enc s = enc t)) (hsz : ∀ s, P s → (enc s).size ≤ 1099511627776)
    (hN : N ≤ 1048576) (hfew : most ≤ N ∨ ∀ i, (W.met start i).length ≤ N) (hbi : bi < w0.heap.size) (hinv : Inv w0) (hgo : ∀ W W', Inv W → Below w0.heap.size W W' → Inv W')
    (hcf : ∀ args w, (callFunc fn args).run Tryd.prog w = .ok (.enter fn args) w)
    (hlook : ∀ w s, w0.heap.size ≤ w.heap.size → Inv w → P s → Calls Tryd.prog fn #[cap, .string (enc s)] w (LookP W enc Inv bi s w)) :
    Calls Tryd.prog 19 #[.string (enc start), .int .i64 most, .func (.func fn) #[cap] #[]] w0 (MeetP W start most bi w0) := by
  have HLK := Lib.hid hlook
  have hmm := @run_makeMap Tryd.prog
  have hk0 := keyB_of (s := enc start) (by have := hsz start hs; unfold maxLen; omega)
  obtain ⟨w1, hins, hM1, hg1⟩ := run_updG (w0.alloc (.map #[] 0)) lawSt Tryd.underlying67 (mapG_made 9 w0) (by decide) hk0 (.int .i64 0)
  have hb1 : Below w0.heap.size w0 w1 := ((Below.refl _ _).alloc (Nat.le_refl _) (.map #[] 0)).grown hg1 (by simp) (fun k hk => by cases hk; exact Nat.le_refl _)
  have hl1 : w0.heap.size < w1.heap.size := by have := hg1.size; simp at this; omega
  have HMO0 := Lib.hid (mo_start (bi := bi) (mapE_start hM1) hb1 hl1 hinv hgo)
  have HST : Hid ((W.met start 0).map enc = [enc start] ∧ W.out start 0 = []) := ⟨rfl, rfl⟩
  clear hlook hM1 hg1
  go_enter Tryd.func19, Tryd.ntmps19
  go_wp2_with fail
  generalize w1.alloc (.cells #[.string (enc start)] 9) = w2 at *
  clear hmm hk0 hins
  go_loopg [9, 10] (N + 1) (fun gg s9 s10 wx => ∃ (i : Nat) (κ : Nat → Nat) (L : List (Bool × Value)), i ≤ N ∧ gg = N + 1 - i ∧ i ≤ (W.met start i).length ∧ (0 < i → (i : Int) ≤ most) ∧ Hid (Mo Inv bi w0 wx w0.heap.size κ s9 s10 ((W.met start i).map enc) L (W.out start i)))
  case atStart => exact ⟨0, _, [], Nat.zero_le _, rfl, Nat.zero_le _, fun h => absurd h (Nat.lt_irrefl _), HMO0⟩
  case round =>
    clear HMO0
    obtain ⟨i, κ, L, hi, rfl, hil, him0, hMo⟩ := hrel
    have HIM := Lib.hid him0
    clear him0
    have hLi : L.length = i := by rw [hMo.out.ot.len, Au.out_length]; omega
    have hEl : ((W.met start i).map enc).length = (W.met start i).length := by simp
    have hF1 := hMo.out.tm.texts.form
    have hF2 := hMo.out.ot.outs.form
    rw [hEl] at hF1
    rw [hLi] at hF2
    obtain ⟨at9, cp9, rfl, ht1, ht2, ht3⟩ := hF1
    obtain ⟨at10, cp10, rfl, ho1, ho2, ho3⟩ := hF2
    by_cases him : i < (W.met start i).length
    · have j1 : (i : Int) < (((W.met start i).length : Nat) : Int) := by omega
      by_cases hmo : most < (((W.met start i).length : Nat) : Int)
      · go_wp2_with fail
        go_ret2
        exact ⟨_, 8, rfl, hMo.out.bs.kept, .inr ⟨rfl, rfl, i, hmo⟩⟩
      have hiN : i < N := by rcases hfew with h | h; (omega); (have := h i; omega)
      have hPa : P (W.met start i)[i] := Au.met_all W P hP start hs i _ (List.getElem_mem him)
      obtain ⟨g9, rfl, hg9, _, _, hc9⟩ := ht3 (by omega)
      have e9 := hc9 i (.string (enc (W.met start i)[i])) (by simp [him])
      have HPa := Lib.hid hPa
      have E1 := Lib.hid ((HLK.out wr _ hMo.out.bs.kept.size hMo.out.bs.inv hPa).mono fun _ _ h => lookP_open h)
      have hai : Hid ((W.met start i)[i]? = some (W.met start i)[i]) := List.getElem?_eq_getElem him
      have hSL := Lib.hid (fun L h => Au.states_leads W hrefl start _ i hai.out L h)
      have hPm : Hid (∀ x ∈ W.met start i, P x) := Au.met_all W P hP start hs i
      have hgl : Hid (i + 1 ≤ (W.met start (i + 1)).length) := by
        obtain ⟨r, hr⟩ := Au.met_grows W start i
        show _ ≤ _
        rw [hr, List.length_append]
        omega
      have hMl : Hid ((W.met start i).length ≤ N) := by rcases hfew with h | h; (show _ ≤ _; omega); (exact h i)
      have him1 : Hid (0 < i + 1 → ((i + 1 : Nat) : Int) ≤ most) := fun _ => by omega
      have hLd0 := Lib.hid hLi
      have hlz : Hid (∀ z k, W.leads (W.met start i) z (k + 1) = if h : k < z.length then W.lead (W.leads (W.met start i) z k) z[k] else W.leads (W.met start i) z k) := fun z k => by
        show _ = _
        split
        · rename_i h; exact Au.leads_succ W _ z k h
        · rename_i h
          unfold Au.Walk.leads
          rw [List.take_of_length_le (by omega), List.take_of_length_le (by omega)]
      have hl0 : Hid (∀ z, W.leads (W.met start i) z 0 = (W.met start i, [])) := fun z => Au.leads_zero W _ z
      have hlP : Hid (∀ z : List (Au.Trail σ), (∀ l ∈ z, P l.to) → ∀ k, ∀ x ∈ (W.leads (W.met start i) z k).1, P x) := fun z h k => Au.leads_mem W P _ z hPm.out h k
      have hln : Hid (∀ z k, (W.leads (W.met start i) z k).1.length ≤ N + k) := fun z k => by
        have := Au.leads_len W (W.met start i) z k
        have := hMl.out
        show _ ≤ _
        omega
      clear hc9 ht3 ho3 hai
      generalize (W.met start i)[i] = aa at *
      go_wp2_with (refine E1.out.mono ?_; rintro e w3 ⟨al, z, cl, Z, rfl, hZl, HQ⟩)
      obtain ⟨hz, hLd, hLs, hK3, hI3⟩ := HQ.out
      obtain ⟨hMo3, hLs3⟩ := hMo.out.look hbi hK3 hI3 hLs
      have HMI := Lib.hid (hMo3.open hLs3 (W.fin aa))
      have hsl := Lib.hid (hSL.out Z hLd)
      have HZP : Hid (∀ l ∈ Z, P l.to) := by
        intro l hl
        exact Au.leads_P hP HPa.out hLd l hl
      have HZ := Lib.hid (Au.leads_each hLd)
      have HZZ := Lib.hid hz
      clear hLd hLs hK3 hI3 hMo hMo3 hz E1 hSL HQ
      go_wp2_with fail
      generalize w3.alloc (.cells #[.bool (W.fin aa), .slice none 0 0] 42) = w4 at *
      generalize w3.heap.size = sb at *
      go_loopg [9, 46] z (fun gg s9 s46 wx => ∃ (k : Nat) (κ : Nat → Nat) (va : Value), k ≤ z ∧ gg = z - k ∧ s46 = .int .i64 k ∧ Hid (Mi Inv bi w0 wx w0.heap.size sb κ s9 (.slice at10 i cp10) va (.slice al z cl) ((W.leads (W.met start i) Z k).1.map enc) L (W.out start i) (W.fin aa) (W.leads (W.met start i) Z k).2 (Z.map fun z => (⟨z.lo, z.hi, enc z.to⟩ : Au.Trail ByteArray))))
      case atStart => exact ⟨0, _, _, Nat.zero_le _, rfl, rfl, by rw [hl0.out]; exact HMI⟩
      case round =>
        clear HMI
        obtain ⟨k, κ, va, hk, rfl, rfl, hMi⟩ := hrel
        by_cases hkz : k < z
        · have j2 : (k : Int) < (z : Int) := by omega
          have hkZ : k < Z.length := by rw [HZZ.out]; exact hkz
          have hnx := hlz.out Z k
          rw [dif_pos hkZ] at hnx
          have hzk := HZ.out _ (List.getElem_mem hkZ)
          have hpk := HZP.out _ (List.getElem_mem hkZ)
          have hpm := hlP.out Z HZP.out k
          have hlen := hln.out Z k
          have har := Au.leads_arcs W (W.met start i) Z k
          have hah := Au.leads_hi W (W.met start i) Z (fun l hl => (HZ.out l hl).2) k
          have hfe := Au.find_enc W.same enc (W.leads (W.met start i) Z k).1 Z[k].to (fun x hx => henc x _ (hpm x hx) hpk)
          unfold Au.Walk.lead at hnx
          rw [hfe] at hnx
          have hty := hsz _ hpk
          obtain ⟨_, _, hld1, _, _, hld⟩ := hMi.out.ld
          simp only [Value.slice.injEq] at hld1
          obtain ⟨rfl, hzz, rfl⟩ := hld1
          clear hzz
          obtain ⟨gl, ol, rfl, _, _, hlc⟩ := hld (by rw [List.length_map]; omega)
          have hlk := hlc k (by rw [List.length_map]; exact hkZ)
          simp only [List.getElem_map] at hlk
          obtain ⟨c1, c2, c3⟩ := hlk
          have hmi2 := Lib.hid (hMi.out.step (Step.of_alloc wr (.cells #[.int .i64 (Z[k].lo : Int), .int .i64 (Z[k].hi : Int), .string (enc Z[k].to)] 72)) (Nat.le_refl 9))
          have d0 := cell_at wr [.int .i64 (Z[k].lo : Int), .int .i64 (Z[k].hi : Int), .string (enc Z[k].to)] 72 0 _ rfl
          have d1 := cell_at wr [.int .i64 (Z[k].lo : Int), .int .i64 (Z[k].hi : Int), .string (enc Z[k].to)] 72 1 _ rfl
          have d2 := cell_at wr [.int .i64 (Z[k].lo : Int), .int .i64 (Z[k].hi : Int), .string (enc Z[k].to)] 72 2 _ rfl
          have hq : Hid (wr.heap.size < (wr.alloc (.cells #[.int .i64 (Z[k].lo : Int), .int .i64 (Z[k].hi : Int), .string (enc Z[k].to)] 72)).heap.size ∧ paint κ wr.heap.size 9 wr.heap.size = 9) := ⟨by simp, paint_new _ _ _ _ (Nat.le_refl _)⟩
          have hk2 := keyB_of (s := enc Z[k].to) (by unfold maxLen; omega)
          have hel : Hid (((W.leads (W.met start i) Z k).1.map enc).length = (W.leads (W.met start i) Z k).1.length) := by show _ = _; simp
          rw [← hel.out] at hnx hlen
          have hnx1 : Hid ((W.leads (W.met start i) Z (k + 1)).1.map enc = if Au.idxE ((W.leads (W.met start i) Z k).1.map enc) (enc Z[k].to) = ((W.leads (W.met start i) Z k).1.map enc).length then (W.leads (W.met start i) Z k).1.map enc ++ [enc Z[k].to] else (W.leads (W.met start i) Z k).1.map enc) := by
            show _ = _
            rw [hnx]
            dsimp only
            split
            · rw [List.map_append]; rfl
            · rfl
          have hnx2 : Hid ((W.leads (W.met start i) Z (k + 1)).2 = Au.joined (W.leads (W.met start i) Z k).2 Z[k].lo Z[k].hi (Au.idxE ((W.leads (W.met start i) Z k).1.map enc) (enc Z[k].to))) := by
            show _ = _
            rw [hnx]
          have hidl := Au.idxE_le ((W.leads (W.met start i) Z k).1.map enc) (enc Z[k].to)
          obtain ⟨at9', cp9', rfl, _, _, _⟩ := hMi.out.tm.texts.form
          clear hnx hpm hfe hMi hlc hld hpk hel
          generalize (W.leads (W.met start i) Z k).1.map enc = E at *
          generalize (W.leads (W.met start i) Z k).2 = ar at *
          generalize enc Z[k].to = b at *
          generalize Z[k].lo = lo at *
          generalize Z[k].hi = hi at *
          obtain ⟨F, hMF, hFE⟩ := hmi2.out.tm.map
          have hF1 := hFE b
          have HFE := Lib.hid hFE
          have HMF := Lib.hid hMF
          have hsbq : Hid (sb < (wr.alloc (.cells #[.int .i64 (lo : Int), .int .i64 (hi : Int), .string b] 72)).heap.size) := hmi2.out.cs.lt
          have HLD : Hid (∀ w5 κ5, Step (paint κ wr.heap.size 9) 3 (wr.alloc (.cells #[.int .i64 (lo : Int), .int .i64 (hi : Int), .string b] 72)) w5 κ5 → (w5.cell? ⟨wr.heap.size, 0, none⟩ = some (.int .i64 (lo : Int)) ∧ w5.cell? ⟨wr.heap.size, 1, none⟩ = some (.int .i64 (hi : Int)) ∧ w5.cell? ⟨wr.heap.size, 2, none⟩ = some (.string b)) ∧ wr.heap.size < w5.heap.size ∧ κ5 wr.heap.size = 9) := fun w5 κ5 h => by
            have hbk := h.block wr.heap.size hq.out.1 (by rw [hq.out.2]; decide)
            exact ⟨⟨(cell_same (a := ⟨wr.heap.size, 0, none⟩) hbk).trans d0, (cell_same (a := ⟨wr.heap.size, 1, none⟩) hbk).trans d1, (cell_same (a := ⟨wr.heap.size, 2, none⟩) hbk).trans d2⟩, Nat.lt_of_lt_of_le hq.out.1 h.size, (h.col _ hq.out.1).trans hq.out.2⟩
          have HLE : Hid (∀ w5 κ5 w6 κ6, Step (paint κ wr.heap.size 9) 3 (wr.alloc (.cells #[.int .i64 (lo : Int), .int .i64 (hi : Int), .string b] 72)) w5 κ5 → Step κ5 2 w5 w6 κ6 → w6.cell? ⟨wr.heap.size, 0, none⟩ = some (.int .i64 (lo : Int)) ∧ w6.cell? ⟨wr.heap.size, 1, none⟩ = some (.int .i64 (hi : Int))) := fun w5 κ5 w6 κ6 h h' => by
            obtain ⟨⟨x0, x1, _⟩, y1, y2⟩ := HLD.out w5 κ5 h
            have hbk := h'.block wr.heap.size y1 (by rw [y2]; decide)
            exact ⟨(cell_same (a := ⟨wr.heap.size, 0, none⟩) hbk).trans x0, (cell_same (a := ⟨wr.heap.size, 1, none⟩) hbk).trans x1⟩
          have HJO : Hid (∀ w6 vt' κ' E' (k' : Nat), Mi Inv bi w0 w6 w0.heap.size sb κ' vt' (.slice at10 i cp10) va (.slice (some ⟨gl, ol, none⟩) z cl) E' L (W.out start i) (W.fin aa) ar (Z.map fun z => (⟨z.lo, z.hi, enc z.to⟩ : Au.Trail ByteArray)) →
            (w6.cell? ⟨sb, 1, none⟩ = some va) ∧ Calls Tryd.prog 32 #[va, .agg #[.int .i64 (lo : Int), .int .i64 (hi : Int), .int .i64 (k' : Int)]] w6 fun e w' => ∃ a8 n8 cp8, e = .returned (.slice a8 n8 cp8) ∧ w'.cell? ⟨sb, 1, none⟩ = some va ∧ w'.frozen? ⟨sb, 1, none⟩ = false ∧
              Hid (Mi Inv bi w0 (w'.setCell ⟨sb, 1, none⟩ (.slice a8 n8 cp8)) w0.heap.size sb (paint κ' w6.heap.size 6) vt' (.slice at10 i cp10) (.slice a8 n8 cp8) (.slice (some ⟨gl, ol, none⟩) z cl) E' L (W.out start i) (W.fin aa) (Au.joined ar lo hi k') (Z.map fun z => (⟨z.lo, z.hi, enc z.to⟩ : Au.Trail ByteArray)))) := fun w6 vt' κ' E' k' h => by
            refine ⟨h.cs.cells.2.1, (joined_any w6 0 va ar lo hi k' h.cs.arcs.own (Nat.zero_le _) (by omega) hah ⟨by omega, by omega⟩).mono fun e w' hh => ?_⟩
            obtain ⟨v', rfl, ho, ht⟩ := hh
            obtain ⟨a8, cp8, rfl, _⟩ := ho.opened
            obtain ⟨⟨s1, s2⟩, s3⟩ := h.grow ht ho
            exact ⟨a8, _, cp8, rfl, s1, s2, s3⟩
          clear hFE hMF
          by_cases hix : Au.idxE E b = E.length
          · unfold plE at hF1
            rw [if_pos hix] at hF1
            have HPL := Lib.hid (fun w5 (h5 : (wr.alloc (.cells #[.int .i64 (lo : Int), .int .i64 (hi : Int), .string b] 72)).grownBy w5 (some w0.heap.size)) => hmi2.out.place h5)
            have HPU := Lib.hid (fun w5 h5 κ' h5s w6 vt' hr6 hs6 => hmi2.out.push (b := b) (w' := w5) (κ' := κ') (w2 := w6) (vt' := vt') (mapE_new h5 HFE.out hix) h5s hr6 hs6)
            rw [hix, if_pos rfl] at hnx1
            rw [hix] at hnx2
            have HIX := Lib.hid hix
            clear hix
            obtain ⟨ii, hi1, hz0, hz1, hz2⟩ := info_parts Tryd.infoTx
            go_wp2_with (first | (at_lookup; refine wpList_lookOkG _ rfl _ _ 67 9 3 rfl lawSt Tryd.underlying67 (.int .i64 0) zeroInt w0.heap.size _ F rfl HMF.out (.string b) (keyB b) rfl hk2 ?_; rw [hF1]; dsimp only [Option.getD, Option.isSome]) | (at_mapUpdate; refine wpList_storeG _ rfl _ _ _ 67 9 3 rfl lawSt Tryd.underlying67 w0.heap.size E.length F rfl HMF.out (by unfold maxLen; omega) (.string b) (keyB b) rfl hk2 _ rfl ?_; intro w5 hm5 hg5; have HM5 := Lib.hid hm5; have HS5 := Lib.hid (HPL.out w5 hg5); obtain ⟨⟨_, _, x2⟩, _, _⟩ := HLD.out w5 _ HS5.out.1; clear hm5 hg5) | (at_builtin; refine wpList_pushC rfl _ _ 68 9 rfl ii _ 1 16 Tryd.underlying68 hi1 hz0 hz1 hz2 rfl (by decide) _ 2 _ E.length (E.map Value.string) rfl HS5.out.2 [.string b] rfl (one_of rfl) rfl (by omega) (by omega) ?_; intro g6 cp6 w6 hr6 hs6; have HM6 := Lib.hid (HPU.out w5 HM5.out _ HS5.out.1 w6 _ hr6 hs6); obtain ⟨y0, y1⟩ := HLE.out w5 _ w6 _ HS5.out.1 hs6; obtain ⟨y2, hjo⟩ := HJO.out w6 _ _ _ E.length HM6.out; have HJ6 := Lib.hid hjo; clear hr6 hs6 hjo) | (go_at_call 32; refine HJ6.out.mono ?_; rintro e w7 ⟨a8, n8, cp8, rfl, s1, s2, HM7⟩))
            go_roundg (z - (k + 1))
            case rel => exact ⟨k + 1, _, _, by omega, rfl, by go_num, by rw [hnx1.out, hnx2.out]; exact HM7⟩
            case measure => omega
          · have hil : Au.idxE E b < E.length := by omega
            have hilI : ¬ ((Au.idxE E b : Nat) : Int) = ((E.length : Nat) : Int) := by omega
            unfold plE at hF1
            rw [if_neg hix] at hF1
            rw [if_neg hix] at hnx1
            have HIX := Lib.hid hix
            obtain ⟨y2, hjo⟩ := HJO.out _ _ _ E (Au.idxE E b) hmi2.out
            have HJ6 := Lib.hid hjo
            clear hix hjo hil hilI hidl
            generalize Au.idxE E b = j at *
            go_wp2_with (first | (at_lookup; refine wpList_lookOkG _ rfl _ _ 67 9 3 rfl lawSt Tryd.underlying67 (.int .i64 0) zeroInt w0.heap.size _ F rfl HMF.out (.string b) (keyB b) rfl hk2 ?_; rw [hF1]; dsimp only [Option.getD, Option.isSome]) | (go_at_call 32; refine HJ6.out.mono ?_; rintro e w7 ⟨a8, n8, cp8, rfl, s1, s2, HM7⟩))
            go_roundg (z - (k + 1))
            case rel => exact ⟨k + 1, _, _, by omega, rfl, by go_num, by rw [hnx1.out, hnx2.out]; exact HM7⟩
            case measure => omega
        · obtain rfl : k = z := by omega
          obtain ⟨m1, m2⟩ := hsl.out
          rw [HZZ.out] at m1 m2
          have HN1 : Hid ((W.leads (W.met start i) Z k).1.map enc = (W.met start (i + 1)).map enc) := by show _ = _; rw [m1]
          have HN2 := Lib.hid m2
          clear m1 m2 hsl
          generalize (W.leads (W.met start i) Z k).1.map enc = E' at *
          generalize (W.leads (W.met start i) Z k).2 = ar' at *
          have hcs := hMi.out.cs.cells
          obtain ⟨a7, cp7, rfl, _⟩ := hMi.out.cs.arcs.form
          obtain ⟨s0, s1, _⟩ := hcs
          obtain ⟨at9', cp9', rfl, _, _, _⟩ := hMi.out.tm.texts.form
          have HRO : Hid (RowC κ 4 wr 42 2 (.slice at10 i cp10) i (stsV L)) := by
            have h := hMi.out.ot.outs
            rw [hLd0.out] at h
            exact h
          have HCL := Lib.hid (fun vo' w' h1 h2 => hMi.out.close (vo' := vo') (w' := w') (by rw [hLd0.out]; exact h1) h2)
          obtain ⟨ii, hi1, hz0, hz1, hz2⟩ := info_parts Tryd.infoSt
          go_wp2_with (at_builtin; refine wpList_pushC rfl _ _ 27 42 rfl ii _ 2 32 Tryd.underlying27 hi1 hz0 hz1 hz2 rfl (by decide) _ 4 _ i (stsV L) rfl HRO.out [.bool (W.fin aa), .slice a7 _ cp7] rfl (one_of rfl) rfl (by omega) (by omega) ?_; intro g6 cp6 w6 hr6 hs6; have HM6 := Lib.hid (HCL.out _ w6 hr6 hs6); clear hr6 hs6)
          go_roundg (N + 1 - (i + 1))
          case rel => exact ⟨i + 1, _, _, by omega, by omega, hgl.out, him1.out, by rw [← HN1.out, ← HN2.out]; exact HM6⟩
          case measure => omega
    · have hdone : W.Done start i := by unfold Au.Walk.Done; omega
      have hpos := Au.out_pos W start i
      have hmm : ((W.met start i).length : Int) ≤ most := by have := HIM.out (by omega); omega
      have HK := Lib.hid hMo.out.bs
      have HO := Lib.hid (hMo.out.ot.sts (fun g => w0.heap.size ≤ g) fun g hg => by
        apply Classical.byContradiction
        intro h
        have := hMo.out.bs.lo g (by omega)
        omega)
      clear hMo ht3 ho3
      go_wp2_with fail
      go_ret2
      exact ⟨_, 0, rfl, HK.out.kept, .inl ⟨rfl, i, hdone, hmm, HO.out⟩⟩
end Go.Proofs.YthhfmcikfdagiaaDoor

/-
  Classes of states in memory: where they lie, and what each kind of store does to them.
-/
namespace Go.Proofs.YthhfmcikfdagiaaDoor
open Go.RowKit
/-- Even colours; these and 9. -/
def E (c : Nat) : Prop := c % 2 = 0
def E9 (c : Nat) : Prop := c % 2 = 0 ∨ c = 9
/-- Blocks of some colours are as they were. -/
structure Pst (K : Nat → Prop) (κ : Nat → Nat) (w w' : World) (κ' : Nat → Nat) : Prop where
  os : w'.os = w.os
  tape : w'.tape = w.tape
  output : w'.output = w.output
  size : w.heap.size ≤ w'.heap.size
  block : ∀ k, k < w.heap.size → K (κ k) → w'.heap[k]? = w.heap[k]?
  col : ∀ k, k < w.heap.size → K (κ k) → κ' k = κ k
theorem Pst.refl (K : Nat → Prop) (κ : Nat → Nat) (w : World) : Pst K κ w w κ := ⟨rfl, rfl, rfl, Nat.le_refl _, fun _ _ _ => rfl, fun _ _ _ => rfl⟩
theorem Pst.trans {K : Nat → Prop} {κ κ1 κ2 : Nat → Nat} {w w1 w2 : World} (h : Pst K κ w w1 κ1) (k : Pst K κ1 w1 w2 κ2) : Pst K κ w w2 κ2 :=
  ⟨k.os.trans h.os, k.tape.trans h.tape, k.output.trans h.output, Nat.le_trans h.size k.size,
    fun b hb hc => (k.block b (Nat.lt_of_lt_of_le hb h.size) (by rw [h.col b hb hc]; exact hc)).trans (h.block b hb hc),
    fun b hb hc => (k.col b (Nat.lt_of_lt_of_le hb h.size) (by rw [h.col b hb hc]; exact hc)).trans (h.col b hb hc)⟩
theorem Pst.of_step {K : Nat → Prop} {κ κ' : Nat → Nat} {c : Nat} {w w' : World} (h : Step κ c w w' κ') (hc : ¬ K c) : Pst K κ w w' κ' :=
  ⟨h.os, h.tape, h.output, h.size, fun b hb hk => h.block b hb (fun e => hc (e ▸ hk)), fun b hb _ => h.col b hb⟩
theorem Pst.recol {K : Nat → Prop} {κ κ1 κ2 : Nat → Nat} {w w1 : World} (h : Pst K κ w w1 κ1) (hc : ∀ k, k < w1.heap.size → K (κ1 k) → κ2 k = κ1 k) : Pst K κ w w1 κ2 :=
  h.trans ⟨rfl, rfl, rfl, Nat.le_refl _, fun _ _ _ => rfl, hc⟩
theorem Pst.drew {K : Nat → Prop} {κ κ1 : Nat → Nat} {w w1 : World} (h : Pst K κ w w1 κ1) : Pst K κ w w1.drew κ1 := ⟨h.os, h.tape, h.output, h.size, h.block, h.col⟩
theorem Pst.weak {κ κ1 : Nat → Nat} {w w1 : World} (h : Pst E9 κ w w1 κ1) : Pst E κ w w1 κ1 := ⟨h.os, h.tape, h.output, h.size, fun k hk he => h.block k hk (.inl he), fun k hk he => h.col k hk (.inl he)⟩
theorem Pst.row {K : Nat → Prop} {κ κ1 : Nat → Nat} {w w1 : World} (h : Pst K κ w w1 κ1) {c : Nat} {e : TypeId} {z : Nat} {v : Value} {n : Nat} {xs : List Value} (hr : RowC κ c w e z v n xs) (hc : K c) : RowC κ1 c w1 e z v n xs :=
  ⟨ownsRow_keep hr.own fun k hk => h.block k (hr.lt k hk).1 (by rw [(hr.lt k hk).2]; exact hc), fun b hb => (h.col b (hr.lt b hb).1 (by rw [(hr.lt b hb).2]; exact hc)).trans (hr.lt b hb).2⟩
theorem notE9 {c : Nat} (h : c % 2 = 1) (h9 : c ≠ 9) : ¬ E9 c := fun k => by unfold E9 at k; omega
/-- The classes at block p. -/
structure ClsS (n : Nat) (w : World) (p : Nat) (κ : Nat → Nat) (C : Au.Cls) (X : List Value) (bo ba : Nat) (vm vw vq : Value) : Prop where
  prow : w.heap[p]? = some (.cells #[.slice (some ⟨bo, 0, none⟩) n n, .slice (some ⟨ba, 0, none⟩) n n, vm, vw, vq] 110 (0, 0))
  kp : κ p = 5
  of : w.rowIs bo 3 n (fun j => .int .i64 (C.of j))
  ko : κ bo = 1
  pos : w.rowIs ba 3 n (fun j => .int .i64 (C.pos j : Int))
  ka : κ ba = 3
  mem : RowC κ 7 w 22 1 vm X.length X
  lenX : X.length = C.mem.length
  each : ∀ c (h : c < X.length), RowC κ (15 + 2 * c) w 3 1 X[c] (C.row c).length (natsV (C.row c))
  waits : RowC κ 11 w 4 1 vw C.waits.length (boolsV C.waits)
  wq : RowC κ 13 w 3 1 vq C.wq.length (natsV C.wq)
section
variable {n p : Nat} {w w' : World} {κ κ' : Nat → Nat} {C : Au.Cls} {X : List Value} {bo ba : Nat} {vm vw vq : Value} {c : Nat}
theorem ClsS.plt (h : ClsS n w p κ C X bo ba vm vw vq) : p < w.heap.size := (Array.getElem?_eq_some_iff.1 h.prow).1
theorem ClsS.cells (h : ClsS n w p κ C X bo ba vm vw vq) : w.cell? ⟨p, 0, none⟩ = some (.slice (some ⟨bo, 0, none⟩) n n) ∧ w.cell? ⟨p, 1, none⟩ = some (.slice (some ⟨ba, 0, none⟩) n n) ∧ w.cell? ⟨p, 2, none⟩ = some vm ∧ w.cell? ⟨p, 3, none⟩ = some vw ∧ w.cell? ⟨p, 4, none⟩ = some vq ∧ ∀ j, w.frozen? ⟨p, j, none⟩ = false := by
  refine ⟨?_, ?_, ?_, ?_, ?_, fun j => ?_⟩ <;> simp [World.cell?, World.frozen?, h.prow]
theorem ClsS.others (h : ClsS n w p κ C X bo ba vm vw vq) (hs : Step κ c w w' κ') :
    (c ≠ 5 → w'.heap[p]? = some (.cells #[.slice (some ⟨bo, 0, none⟩) n n, .slice (some ⟨ba, 0, none⟩) n n, vm, vw, vq] 110 (0, 0))) ∧ κ' p = 5 ∧
    (c ≠ 1 → w'.rowIs bo 3 n (fun j => .int .i64 (C.of j))) ∧ κ' bo = 1 ∧ (c ≠ 3 → w'.rowIs ba 3 n (fun j => .int .i64 (C.pos j : Int))) ∧ κ' ba = 3 ∧
    (c ≠ 7 → RowC κ' 7 w' 22 1 vm X.length X) ∧ (∀ j (hj : j < X.length), c ≠ 15 + 2 * j → RowC κ' (15 + 2 * j) w' 3 1 X[j] (C.row j).length (natsV (C.row j))) ∧
    (c ≠ 11 → RowC κ' 11 w' 4 1 vw C.waits.length (boolsV C.waits)) ∧ (c ≠ 13 → RowC κ' 13 w' 3 1 vq C.wq.length (natsV C.wq)) :=
  ⟨fun e => (hs.block p h.plt (by rw [h.kp]; exact fun k => e k.symm)).trans h.prow, (hs.col p h.plt).trans h.kp,
    fun e => h.of.of_block (hs.block bo h.of.lt (by rw [h.ko]; exact fun k => e k.symm)), (hs.col bo h.of.lt).trans h.ko,
    fun e => h.pos.of_block (hs.block ba h.pos.lt (by rw [h.ka]; exact fun k => e k.symm)), (hs.col ba h.pos.lt).trans h.ka,
    fun e => h.mem.step hs fun k => e k.symm, fun j hj e => (h.each j hj).step hs fun k => e k.symm, fun e => h.waits.step hs fun k => e k.symm, fun e => h.wq.step hs fun k => e k.symm⟩
/-- A change of something else. -/
theorem ClsS.step (h : ClsS n w p κ C X bo ba vm vw vq) (hs : Step κ c w w' κ') (hc : c % 2 = 0) : ClsS n w' p κ' C X bo ba vm vw vq := by
  obtain ⟨q1, q2, q3, q4, q5, q6, q7, q8, q9, q10⟩ := h.others hs
  exact ⟨q1 (by omega), q2, q3 (by omega), q4, q5 (by omega), q6, q7 (by omega), h.lenX, fun j hj => q8 j hj (by omega), q9 (by omega), q10 (by omega)⟩
theorem ClsS.drew (h : ClsS n w p κ C X bo ba vm vw vq) : ClsS n w.drew p κ C X bo ba vm vw vq := ⟨h.prow, h.kp, h.of, h.ko, h.pos, h.ka, h.mem.drew, h.lenX, fun j hj => (h.each j hj).drew, h.waits.drew, h.wq.drew⟩
/-- A class waits, or no longer. -/
theorem ClsS.setW {gw m cw : Nat} (h : ClsS n w p κ C X bo ba vm (.slice (some ⟨gw, 0, none⟩) m cw) vq) (hm : m = C.waits.length) (i : Nat) (b : Bool) (hm0 : i < m) :
    (w.frozen? ⟨gw, i, none⟩ = false ∧ ∃ u, w.cell? ⟨gw, i, none⟩ = some u) ∧ ClsS n (w.setCell ⟨gw, i, none⟩ (.bool b)) p κ { C with waits := C.waits.set i b } X bo ba vm (.slice (some ⟨gw, 0, none⟩) m cw) vq ∧ Pst E9 κ w (w.setCell ⟨gw, i, none⟩ (.bool b)) κ := by
  subst hm
  have ha := h.waits.at
  have hs : Step κ 11 w (w.setCell ⟨gw, i, none⟩ (.bool b)) κ := Step.of_set w gw i (.bool b) ha.2.1
  obtain ⟨q1, q2, q3, q4, q5, q6, q7, q8, _, q10⟩ := h.others hs
  refine ⟨⟨ha.2.2.2.2.1 i, _, ha.2.2.2.2.2 i (.bool C.waits[i]) (by simp [boolsV, hm0])⟩, ⟨q1 (by decide), q2, q3 (by decide), q4, q5 (by decide), q6, q7 (by decide), h.lenX, fun j hj => q8 j hj (by omega), ?_, q10 (by decide)⟩, Pst.of_step hs (notE9 rfl (by decide))⟩
  show RowC κ 11 _ _ 1 _ (C.waits.set i b).length (boolsV (C.waits.set i b))
  rw [List.length_set, show boolsV (C.waits.set i b) = (boolsV C.waits).set i (.bool b) by simp [boolsV, List.map_set]]
  exact h.waits.set i (.bool b)
/-- .. and stands behind the others that wait. -/
theorem ClsS.setQ {κ1 : Nat → Nat} {w3 : World} {v' : Value} (h : ClsS n w p κ C X bo ba vm vw vq) (hs : Step κ 13 w w3 κ1) {l : List Nat} {m : Nat} (hm : m = l.length) (hr : RowC κ1 13 w3 3 1 v' m (natsV l)) :
    (w3.cell? ⟨p, 4, none⟩ = some vq ∧ w3.frozen? ⟨p, 4, none⟩ = false) ∧ ClsS n (w3.setCell ⟨p, 4, none⟩ v') p κ1 { C with wq := l } X bo ba vm vw v' ∧ Pst E9 κ w (w3.setCell ⟨p, 4, none⟩ v') κ1 := by
  subst hm
  obtain ⟨q1, q2, q3, q4, q5, q6, q7, q8, q9, _⟩ := h.others hs
  have hp := q1 (by decide)
  have hs2 : Step κ1 5 w3 (w3.setCell ⟨p, 4, none⟩ v') κ1 := Step.of_set w3 p 4 v' q2
  refine ⟨⟨by simp [World.cell?, hp], by simp [World.frozen?, hp]⟩, ⟨?_, q2, (q3 (by decide)).of_block (hs2.block bo (q3 (by decide)).lt (by rw [q4]; decide)), q4, (q5 (by decide)).of_block (hs2.block ba (q5 (by decide)).lt (by rw [q6]; decide)), q6, (q7 (by decide)).step hs2 (by decide), h.lenX, fun j hj => (q8 j hj (by omega)).step hs2 (by omega), (q9 (by decide)).step hs2 (by decide), hr.step hs2 (by decide)⟩, (Pst.of_step hs (notE9 rfl (by decide))).trans (Pst.of_step hs2 (notE9 rfl (by decide)))⟩
  rw [setCell_eq_setRow w3 p 4 _ _ _ _ hp]
  exact setRow_heap w3 p _ _ _ _ hp
/-- One class more waits for nothing yet. -/
theorem ClsS.pushW {κ1 : Nat → Nat} {w3 : World} {v' : Value} (h : ClsS n w p κ C X bo ba vm vw vq) (hs : Step κ 11 w w3 κ1) {l : List Bool} {m : Nat} (hm : m = l.length) (hr : RowC κ1 11 w3 4 1 v' m (boolsV l)) :
    (w3.cell? ⟨p, 3, none⟩ = some vw ∧ w3.frozen? ⟨p, 3, none⟩ = false) ∧ ClsS n (w3.setCell ⟨p, 3, none⟩ v') p κ1 { C with waits := l } X bo ba vm v' vq ∧ Pst E9 κ w (w3.setCell ⟨p, 3, none⟩ v') κ1 := by
  subst hm
  obtain ⟨q1, q2, q3, q4, q5, q6, q7, q8, _, q10⟩ := h.others hs
  have hp := q1 (by decide)
  have hs2 : Step κ1 5 w3 (w3.setCell ⟨p, 3, none⟩ v') κ1 := Step.of_set w3 p 3 v' q2
  refine ⟨⟨by simp [World.cell?, hp], by simp [World.frozen?, hp]⟩, ⟨?_, q2, (q3 (by decide)).of_block (hs2.block bo (q3 (by decide)).lt (by rw [q4]; decide)), q4, (q5 (by decide)).of_block (hs2.block ba (q5 (by decide)).lt (by rw [q6]; decide)), q6, (q7 (by decide)).step hs2 (by decide), h.lenX, fun j hj => (q8 j hj (by omega)).step hs2 (by omega), hr.step hs2 (by decide), (q10 (by decide)).step hs2 (by decide)⟩, (Pst.of_step hs (notE9 rfl (by decide))).trans (Pst.of_step hs2 (notE9 rfl (by decide)))⟩
  rw [setCell_eq_setRow w3 p 3 _ _ _ _ hp]
  exact setRow_heap w3 p _ _ _ _ hp
/-- A list becomes a class. -/
theorem ClsS.pushM {κ1 : Nat → Nat} {w3 : World} {v' v : Value} {l : List Nat} {m : Nat} (h : ClsS n w p κ C X bo ba vm vw vq) (hs : Step κ 7 w w3 κ1) (hm : m = X.length + 1) (hr : RowC κ1 7 w3 22 1 v' m (X ++ [v])) (hl : RowC κ 9 w 3 1 v l.length (natsV l)) :
    (w3.cell? ⟨p, 2, none⟩ = some vm ∧ w3.frozen? ⟨p, 2, none⟩ = false) ∧ ClsS n (w3.setCell ⟨p, 2, none⟩ v') p (fun k => if κ1 k = 9 then 15 + 2 * X.length else κ1 k) { C with mem := C.mem ++ [l] } (X ++ [v]) bo ba v' vw vq ∧ Pst E κ w (w3.setCell ⟨p, 2, none⟩ v') (fun k => if κ1 k = 9 then 15 + 2 * X.length else κ1 k) := by
  subst hm
  obtain ⟨q1, q2, q3, q4, q5, q6, _, q8, q9, q10⟩ := h.others hs
  have hp := q1 (by decide)
  have hs2 : Step κ1 5 w3 (w3.setCell ⟨p, 2, none⟩ v') κ1 := Step.of_set w3 p 2 v' q2
  have rc : ∀ {d : Nat} {W : World} {e : TypeId} {z : Nat} {u : Value} {k : Nat} {xs : List Value}, RowC κ1 d W e z u k xs → d ≠ 9 → RowC (fun k => if κ1 k = 9 then 15 + 2 * X.length else κ1 k) d W e z u k xs := fun hh hd => ⟨hh.own, fun b hb => by show (if _ then _ else _) = _; rw [hh.col b hb, if_neg hd]⟩
  have kk : ∀ {b d : Nat}, κ1 b = d → d ≠ 9 → (fun k => if κ1 k = 9 then 15 + 2 * X.length else κ1 k) b = d := fun {b d} hb hd => by show (if _ then _ else _) = _; rw [hb, if_neg hd]
  have hlx := h.lenX
  have hro : ∀ j, j < X.length → ({ C with mem := C.mem ++ [l] } : Au.Cls).row j = C.row j := fun j hj => by
    show (C.mem ++ [l]).getD j [] = C.mem.getD j []
    rw [List.getD_eq_getElem?_getD, List.getD_eq_getElem?_getD, List.getElem?_append_left (by omega)]
  have hrn : ({ C with mem := C.mem ++ [l] } : Au.Cls).row X.length = l := by
    show (C.mem ++ [l]).getD X.length [] = l
    rw [hlx, List.getD_eq_getElem?_getD, List.getElem?_append_right (Nat.le_refl _), Nat.sub_self]
    rfl
  have hl3 := (hl.step hs (by decide)).step hs2 (by decide)
  refine ⟨⟨by simp [World.cell?, hp], by simp [World.frozen?, hp]⟩, ⟨?_, kk q2 (by decide), (q3 (by decide)).of_block (hs2.block bo (q3 (by decide)).lt (by rw [q4]; decide)), kk q4 (by decide), (q5 (by decide)).of_block (hs2.block ba (q5 (by decide)).lt (by rw [q6]; decide)), kk q6 (by decide), ?_, ?_, fun j hj => ?_, rc ((q9 (by decide)).step hs2 (by decide)) (by decide), rc ((q10 (by decide)).step hs2 (by decide)) (by decide)⟩, ((Pst.of_step hs (by unfold E; decide)).trans (Pst.of_step hs2 (by unfold E; decide))).recol fun k _ hk => by unfold E at hk; show (if _ then _ else _) = _; rw [if_neg (by omega)]⟩
  · rw [setCell_eq_setRow w3 p 2 _ _ _ _ hp]
    exact setRow_heap w3 p _ _ _ _ hp
  · rw [List.length_append]
    exact rc (hr.step hs2 (by decide)) (by decide)
  · rw [List.length_append]
    show _ = (C.mem ++ [l]).length
    rw [List.length_append, hlx]
    rfl
  · by_cases e : j < X.length
    · rw [List.getElem_append_left e, hro j e]
      exact rc ((q8 j e (by omega)).step hs2 (by omega)) (by omega)
    · have e' : j = X.length := by simp at hj; omega
      subst e'
      rw [hrn]
      simp only [List.getElem_append_right (Nat.le_refl _), Nat.sub_self, List.getElem_cons_zero]
      exact ⟨hl3.own, fun b hb => by show (if _ then _ else _) = _; rw [hl3.col b hb, if_pos rfl]⟩
/-- A state's class. -/
theorem ClsS.setOf (h : ClsS n w p κ C X bo ba vm vw vq) (s : Nat) (x : Int) (hs0 : s < n) :
    (w.frozen? ⟨bo, s, none⟩ = false ∧ w.cell? ⟨bo, s, none⟩ = some (.int .i64 (C.of s))) ∧ ClsS n (w.setCell ⟨bo, s, none⟩ (.int .i64 x)) p κ { C with of := fun j => if j = s then x else C.of j } X bo ba vm vw vq ∧ Pst E9 κ w (w.setCell ⟨bo, s, none⟩ (.int .i64 x)) κ := by
  have hs : Step κ 1 w (w.setCell ⟨bo, s, none⟩ (.int .i64 x)) κ := Step.of_set w bo s _ h.ko
  obtain ⟨q1, q2, _, q4, q5, q6, q7, q8, q9, q10⟩ := h.others hs
  exact ⟨⟨h.of.frozen s, h.of.cell hs0⟩, ⟨q1 (by decide), q2, (h.of.set s _).congr fun j _ => by by_cases e : j = s <;> simp [e], q4, q5 (by decide), q6, q7 (by decide), h.lenX, fun j hj => q8 j hj (by omega), q9 (by decide), q10 (by decide)⟩, Pst.of_step hs (notE9 rfl (by decide))⟩
/-- A state's place. -/
theorem ClsS.setPos (h : ClsS n w p κ C X bo ba vm vw vq) (s x : Nat) (hs0 : s < n) :
    (w.frozen? ⟨ba, s, none⟩ = false ∧ w.cell? ⟨ba, s, none⟩ = some (.int .i64 (C.pos s : Int))) ∧ ClsS n (w.setCell ⟨ba, s, none⟩ (.int .i64 (x : Int))) p κ { C with pos := fun j => if j = s then x else C.pos j } X bo ba vm vw vq ∧ Pst E9 κ w (w.setCell ⟨ba, s, none⟩ (.int .i64 (x : Int))) κ := by
  have hs : Step κ 3 w (w.setCell ⟨ba, s, none⟩ (.int .i64 (x : Int))) κ := Step.of_set w ba s _ h.ka
  obtain ⟨q1, q2, q3, q4, _, q6, q7, q8, q9, q10⟩ := h.others hs
  exact ⟨⟨h.pos.frozen s, h.pos.cell hs0⟩, ⟨q1 (by decide), q2, q3 (by decide), q4, (h.pos.set s _).congr fun j _ => by by_cases e : j = s <;> simp [e], q6, q7 (by decide), h.lenX, fun j hj => q8 j hj (by omega), q9 (by decide), q10 (by decide)⟩, Pst.of_step hs (notE9 rfl (by decide))⟩
/-- A place of a class: another state. -/
theorem ClsS.setM {g m cp i : Nat} (h : ClsS n w p κ C X bo ba vm vw vq) (hc : c < X.length) (hx : X[c] = .slice (some ⟨g, 0, none⟩) m cp) (hm : m = (C.row c).length) (x : Nat) (hi : i < m) :
    (w.frozen? ⟨g, i, none⟩ = false ∧ ∃ u, w.cell? ⟨g, i, none⟩ = some u) ∧ ClsS n (w.setCell ⟨g, i, none⟩ (.int .i64 (x : Int))) p κ { C with mem := C.mem.set c ((C.row c).set i x) } X bo ba vm vw vq ∧ Pst E9 κ w (w.setCell ⟨g, i, none⟩ (.int .i64 (x : Int))) κ := by
  subst hm
  have hr := h.each c hc
  rw [hx] at hr
  have ha := hr.at
  have hs : Step κ (15 + 2 * c) w (w.setCell ⟨g, i, none⟩ (.int .i64 (x : Int))) κ := Step.of_set w g i _ ha.2.1
  obtain ⟨q1, q2, q3, q4, q5, q6, q7, q8, q9, q10⟩ := h.others hs
  have hlx := h.lenX
  refine ⟨⟨ha.2.2.2.2.1 i, _, ha.2.2.2.2.2 i (.int .i64 ((C.row c)[i] : Int)) (by simp [natsV, hi])⟩, ⟨q1 (by omega), q2, q3 (by omega), q4, q5 (by omega), q6, q7 (by omega), by show _ = (C.mem.set c _).length; rw [List.length_set]; exact hlx, fun j hj => ?_, q9 (by omega), q10 (by omega)⟩, Pst.of_step hs (notE9 (by omega) (by omega))⟩
  have e := Au.row_set C c ((C.row c).set i x) (by omega) j
  rw [e]
  by_cases ej : j = c
  · subst ej
    rw [if_pos rfl, hx, List.length_set, show natsV ((C.row j).set i x) = (natsV (C.row j)).set i (.int .i64 (x : Int)) by simp [natsV, List.map_set]]
    exact hr.set i _
  · rw [if_neg ej]
    exact q8 j hj (by omega)
/-- A class has less. -/
theorem ClsS.lessM {g m cp gm cm k N : Nat} (h : ClsS n w p κ C X bo ba (.slice (some ⟨gm, 0, none⟩) N cm) vw vq) (hN : N = X.length) (hc : c < X.length) (hx : X[c] = .slice (some ⟨g, 0, none⟩) m cp) (hm : m = (C.row c).length) (hk : k ≤ m) :
    ClsS n (w.setCell ⟨gm, c, none⟩ (.slice (some ⟨g, 0, none⟩) k cp)) p κ { C with mem := C.mem.set c ((C.row c).take k) } (X.set c (.slice (some ⟨g, 0, none⟩) k cp)) bo ba (.slice (some ⟨gm, 0, none⟩) N cm) vw vq ∧ Pst E9 κ w (w.setCell ⟨gm, c, none⟩ (.slice (some ⟨g, 0, none⟩) k cp)) κ := by
  subst hm hN
  have hr := h.each c hc
  rw [hx] at hr
  have ha := h.mem.at
  have hs : Step κ 7 w (w.setCell ⟨gm, c, none⟩ (.slice (some ⟨g, 0, none⟩) k cp)) κ := Step.of_set w gm c _ ha.2.1
  obtain ⟨q1, q2, q3, q4, q5, q6, _, q8, q9, q10⟩ := h.others hs
  have hlx := h.lenX
  refine ⟨⟨q1 (by decide), q2, q3 (by decide), q4, q5 (by decide), q6, by rw [List.length_set]; exact h.mem.set c _, by show _ = (C.mem.set c _).length; rw [List.length_set, List.length_set]; exact hlx, fun j hj => ?_, q9 (by decide), q10 (by decide)⟩, Pst.of_step hs (notE9 rfl (by decide))⟩
  have e := Au.row_set C c ((C.row c).take k) (by omega) j
  rw [e]
  have hj' : j < X.length := by rw [List.length_set] at hj; exact hj
  by_cases ej : j = c
  · subst ej
    rw [if_pos rfl, List.getElem_set_self]
    have h2 := q8 j hj' (by omega)
    rw [hx] at h2
    have h3 := h2.less k hk
    rw [List.length_take, Nat.min_eq_left hk, show natsV ((C.row j).take k) = (natsV (C.row j)).take (k * 1) by simp [natsV, List.map_take]]
    exact h3
  · rw [if_neg ej, List.getElem_set_ne (fun e => ej e.symm)]
    exact q8 j hj' (by omega)
end
theorem Tryd.infoIs : (Tryd.prog.info? 22).map (fun i => (i.zero, i.size, i.bytes)) = some (some (.slice none 0 0), 1, 24) := by kernel_rfl
/-- Wherever its parts lie. -/
def ClsM (n : Nat) (w : World) (p : Nat) (κ : Nat → Nat) (C : Au.Cls) : Prop := ∃ X bo ba vm vw vq, ClsS n w p κ C X bo ba vm vw vq
theorem ClsM.step {n p c : Nat} {w w' : World} {κ κ' : Nat → Nat} {C : Au.Cls} (h : ClsM n w p κ C) (hs : Step κ c w w' κ') (hc : c % 2 = 0) : ClsM n w' p κ' C := by
  obtain ⟨X, bo, ba, vm, vw, vq, h⟩ := h
  exact ⟨X, bo, ba, vm, vw, vq, h.step hs hc⟩
theorem ClsM.drew {n p : Nat} {w : World} {κ : Nat → Nat} {C : Au.Cls} (h : ClsM n w p κ C) : ClsM n w.drew p κ C := by
  obtain ⟨X, bo, ba, vm, vw, vq, h⟩ := h
  exact ⟨X, bo, ba, vm, vw, vq, h.drew⟩
/-- What a call that works on the classes leaves. -/
def ClsP (K : Nat → Prop) (n p : Nat) (κ : Nat → Nat) (w : World) (C : Au.Cls) (w' : World) : Prop := ∃ κ', ClsM n w' p κ' C ∧ Pst K κ w w' κ'
end Go.Proofs.YthhfmcikfdagiaaDoor

/-
  The program's small calls on classes: wait, takeOut.
-/
namespace Go.Proofs.YthhfmcikfdagiaaDoor
open Go.RowKit

set_option maxRecDepth 100000 in
set_option maxHeartbeats 2000000 in
theorem wait_any (n : Nat) (w : World) (p : Nat) (κ : Nat → Nat) (C : Au.Cls) (c : Nat) (h : ClsM n w p κ C) (hc : c < C.waits.length) (hw : C.waits.length ≤ 1099511627776) (hq : C.wq.length ≤ 1099511627776) :
    Calls Tryd.prog 59 #[.pointer (some ⟨p, 0, none⟩), .int .i64 (c : Int)] w fun e w' => e = .returned (.tuple #[]) ∧ ClsP E9 n p κ w (C.wait c) w' := by
  obtain ⟨X, bo, ba, vm, vw, vq, h⟩ := h
  obtain ⟨a, cw, rfl, _, _, h4⟩ := h.waits.form
  obtain ⟨gw, rfl, _⟩ := h4 (by omega)
  obtain ⟨m, hm⟩ : ∃ m, m = C.waits.length := ⟨_, rfl⟩
  rw [← hm] at h hc hw h4
  obtain ⟨⟨f1, u, c1⟩, h1, p1⟩ := h.setW hm c true hc
  obtain ⟨b0, b1, b2, b3, b4, b5⟩ := h.cells
  obtain ⟨_, _, _, d3, d4, d5⟩ := h1.cells
  have j1 : (c : Int) < (m : Int) := by omega
  have H1 := Lib.hid h1
  have P1 := Lib.hid p1
  have b6 := b5 3
  obtain ⟨aq, cq, rfl, _, _, _⟩ := h.wq.form
  have HQ1 : Hid (C.wq.length ≤ 1099511627776) := hq
  clear h4 h h1 p1 hm b5 d5 hq
  obtain ⟨ii, hi1, hz0, hz1, hz2⟩ := info_parts Tryd.infoN
  go_enter Tryd.func59, Tryd.ntmps59
  go_upto_region 1 with (fail)
  generalize w.setCell ⟨gw, c, none⟩ (.bool true) = w1 at *
  go_wp2_with (at_builtin; refine wpList_pushC rfl _ _ 22 3 rfl ii _ 1 8 Tryd.underlying22 hi1 hz0 hz1 hz2 rfl (by decide) κ 13 _ C.wq.length (natsV C.wq) rfl H1.out.wq [.int .i64 (c : Int)] rfl (one_of rfl) rfl (by have := HQ1.out; omega) (by have := HQ1.out; omega) ?_; intro g6 cp6 w6 hr6 hs6; obtain ⟨⟨s1, s2⟩, s3, s4⟩ := H1.out.setQ hs6 (l := C.wq ++ [c]) (m := C.wq.length + 1) (by simp) (by rw [← natsV_snoc]; exact hr6); have H2 := Lib.hid (And.intro s3 s4); clear hr6 hs6 s3 s4)
  go_end0
  exact ⟨rfl, _, ⟨X, bo, ba, vm, _, _, H2.out.1⟩, P1.out.trans H2.out.2⟩

set_option maxRecDepth 100000 in
set_option maxHeartbeats 4000000 in
theorem takeOut_any (n : Nat) (w : World) (p : Nat) (κ : Nat → Nat) (C : Au.Cls) (c s : Nat) (h : ClsM n w p κ C) (hc : c < C.mem.length) (hs : s < n) (hp : C.pos s < (C.row c).length) (hrow : ∀ x ∈ C.row c, x < n) (hm0 : C.mem.length ≤ 1099511627776) (hr0 : (C.row c).length ≤ 1099511627776) :
    Calls Tryd.prog 94 #[.pointer (some ⟨p, 0, none⟩), .int .i64 (c : Int), .int .i64 (s : Int)] w fun e w' => e = .returned (.tuple #[]) ∧ ClsP E9 n p κ w (C.takeOut c s) w' := by
  obtain ⟨X, bo, ba, vm, vw, vq, h⟩ := h
  have hcX : c < X.length := by rw [h.lenX]; exact hc
  obtain ⟨am, cm, rfl, _, _, hm4⟩ := h.mem.form
  obtain ⟨gm, rfl, hmz⟩ := hm4 (by omega)
  obtain ⟨ar, cp, hx, _, _, hr4⟩ := (h.each c hcX).form
  obtain ⟨g, rfl, hrz⟩ := hr4 (by omega)
  obtain ⟨last, hl⟩ : ∃ last, (C.row c).length = last + 1 := ⟨(C.row c).length - 1, by omega⟩
  have hlr : last < (C.row c).length := by omega
  obtain ⟨mv, hmv⟩ : ∃ mv, (C.row c)[last] = mv := ⟨_, rfl⟩
  have hmn : mv < n := by rw [← hmv]; exact hrow _ (List.getElem_mem hlr)
  have hgd : (C.row c).getD ((C.row c).length - 1) 0 = mv := by
    rw [hl, Nat.add_sub_cancel, List.getD_eq_getElem?_getD, List.getElem?_eq_getElem hlr, hmv]
    rfl
  obtain ⟨ps, hps⟩ : ∃ ps, C.pos s = ps := ⟨_, rfl⟩
  rw [hps] at hp
  have k1 : (c : Int) < (X.length : Int) := by omega
  have k2 : (s : Int) < (n : Int) := by omega
  have k3 : (mv : Int) < (n : Int) := by omega
  have k4 : (ps : Int) < ((last + 1 : Nat) : Int) := by omega
  have k4' : (ps : Int) < (last : Int) + 1 := by omega
  have k6' : (last : Int) < (last : Int) + 1 := by omega
  have k6 : (last : Int) < ((last + 1 : Nat) : Int) := by omega
  have k7 : ∀ _ : True, wrap64 (last : Int) = (last : Int) := fun _ => by unfold wrap64; omega
  have k8 : (last : Int) ≤ (cp : Int) := by
    have := (h.each c hcX)
    rw [hx] at this
    have := this.at.2.2.1
    omega
  obtain ⟨⟨f1, u1, c1⟩, h1, p1⟩ := h.drew.setM (i := ps) hcX hx rfl mv (by omega)
  have h1 := h1.drew
  obtain ⟨⟨f2, c2⟩, h2, p2⟩ := h1.setPos mv ps hmn
  have h2 := h2.drew
  have hrw : ({ { C with mem := C.mem.set c ((C.row c).set ps mv) } with pos := fun j => if j = mv then ps else C.pos j } : Au.Cls).row c = (C.row c).set ps mv := by
    have := Au.row_set C c ((C.row c).set ps mv) hc c
    rw [if_pos rfl] at this
    exact this
  have hfin : ClsS n (((w.drew.setCell ⟨g, ps, none⟩ (.int .i64 (mv : Int))).drew.setCell ⟨ba, mv, none⟩ (.int .i64 (ps : Int))).drew.setCell ⟨gm, c, none⟩ (.slice (some ⟨g, 0, none⟩) last cp)) p κ (C.takeOut c s) (X.set c (.slice (some ⟨g, 0, none⟩) last cp)) bo ba (.slice (some ⟨gm, 0, none⟩) X.length cm) vw vq ∧ Pst E9 κ w (((w.drew.setCell ⟨g, ps, none⟩ (.int .i64 (mv : Int))).drew.setCell ⟨ba, mv, none⟩ (.int .i64 (ps : Int))).drew.setCell ⟨gm, c, none⟩ (.slice (some ⟨g, 0, none⟩) last cp)) κ := by
    obtain ⟨h3, p3⟩ := h2.lessM (k := last) rfl hcX hx (by rw [hrw, List.length_set]) (by omega)
    refine ⟨?_, (((Pst.refl E9 κ w).drew.trans p1).drew.trans p2).drew.trans p3⟩
    rw [hrw] at h3
    have e : (C.takeOut c s) = { { { C with mem := C.mem.set c ((C.row c).set ps mv) } with pos := fun j => if j = mv then ps else C.pos j } with mem := ({ { C with mem := C.mem.set c ((C.row c).set ps mv) } with pos := fun j => if j = mv then ps else C.pos j } : Au.Cls).mem.set c (((C.row c).set ps mv).take last) } := by
      unfold Au.Cls.takeOut
      rw [hgd, hps, hl, Nat.add_sub_cancel]
      dsimp only
      rw [List.set_set]
    rw [e]
    exact h3
  have HF := Lib.hid hfin
  obtain ⟨b0, b1, b2, b3, b4, _⟩ := h.cells
  obtain ⟨d0, d1, d2, d3, d4, _⟩ := h1.cells
  obtain ⟨e0, e1, e2, e3, e4, _⟩ := h2.cells
  have m1 := h.mem.at.2.2.2.2.2 c X[c] (List.getElem?_eq_getElem hcX)
  have m2 := h1.mem.at.2.2.2.2.2 c X[c] (List.getElem?_eq_getElem hcX)
  have m3 := h2.mem.at.2.2.2.2.2 c X[c] (List.getElem?_eq_getElem hcX)
  have m4 := h2.mem.at.2.2.2.2.1 c
  rw [hx] at m1 m2 m3
  have hea := h.each c hcX
  rw [hx] at hea
  have r1 := hea.at.2.2.2.2.2 last (.int .i64 (mv : Int)) (by simp [natsV, List.getElem?_eq_getElem hlr, hmv])
  have q1 := h.pos.cell hs
  have q2 := h1.pos.cell hs
  rw [hl] at m1 m2 m3 hp
  rw [hps] at q1
  change _ = some (Value.int .i64 (C.pos s : Int)) at q2
  rw [hps] at q2
  have HW0 := Lib.hid (And.intro f1 c1)
  clear hmz hrz h h1 h2 p1 p2 hfin hea hr4 hm4 hgd hx hmv hrow hps hl hlr hrw f1 c1
  go_enter Tryd.func94, Tryd.ntmps94
  go_upto_region 2 with (fail)
  go_still_tail 16, (by kernel_rfl)
  change wpList _ _ _ _ _ w.drew
  obtain ⟨f1, c1⟩ := HW0.out
  generalize w.drew = w1 at *
  go_upto_region 3 with (fail)
  generalize w1.setCell ⟨g, ps, none⟩ (.int .i64 (mv : Int)) = w2 at *
  go_still_tail 13, (by kernel_rfl)
  change wpList _ _ _ _ _ w2.drew
  have f2 : w2.drew.frozen? ⟨ba, mv, none⟩ = false := f2
  have c2 : w2.drew.cell? ⟨ba, mv, none⟩ = _ := c2
  generalize w2.drew = w3 at *
  go_upto_region 4 with (fail)
  generalize w3.setCell ⟨ba, mv, none⟩ (.int .i64 (ps : Int)) = w4 at *
  go_still_tail 15, (by kernel_rfl)
  change wpList _ _ _ _ _ w4.drew
  generalize w4.drew = w5 at *
  go_wp2_with fail
  go_end0
  exact ⟨rfl, _, ⟨_, _, _, _, _, _, HF.out.1⟩, HF.out.2⟩
end Go.Proofs.YthhfmcikfdagiaaDoor

/-
  The program's found: a list becomes a class.
-/
namespace Go.Proofs.YthhfmcikfdagiaaDoor
open Go.RowKit
namespace Au
/-- So far: the first k of the list know their class. -/
def Cls.foundTo (C : Cls) (l : List Nat) (k : Nat) : Cls :=
  { C with
    of := fun j => if j ∈ l.take k then (C.mem.length : Int) else C.of j
    pos := fun j => if j ∈ l.take k then l.idxOf j else C.pos j
    mem := C.mem ++ [l]
    waits := C.waits ++ [false] }
theorem foundTo_zero (C : Cls) (l : List Nat) : { { C with mem := C.mem ++ [l] } with waits := C.waits ++ [false] } = C.foundTo l 0 := by
  unfold Cls.foundTo
  simp
theorem foundTo_all (C : Cls) (l : List Nat) : C.foundTo l l.length = C.found l := by
  unfold Cls.foundTo Cls.found
  rw [List.take_of_length_le (Nat.le_refl _)]
theorem foundTo_succ (C : Cls) (l : List Nat) (hn : l.Nodup) (k : Nat) (h : k < l.length) :
    { { C.foundTo l k with of := fun j => if j = l[k] then (C.mem.length : Int) else (C.foundTo l k).of j } with pos := fun j => if j = l[k] then k else (C.foundTo l k).pos j } = C.foundTo l (k + 1) := by
  unfold Cls.foundTo
  rw [List.take_succ_eq_append_getElem h]
  have hi : l.idxOf l[k] = k := idxOf_at hn (List.getElem?_eq_getElem h)
  simp only [List.mem_append, List.mem_singleton]
  congr 1
  · funext j
    by_cases e : j = l[k]
    · simp [e]
    · simp [e]
  · funext j
    by_cases e : j = l[k]
    · simp [e, hi]
    · simp [e]
end Au

set_option maxRecDepth 100000 in
set_option maxHeartbeats 4000000 in
theorem found_any (n : Nat) (w : World) (p : Nat) (κ : Nat → Nat) (C : Au.Cls) (l : List Nat) (v : Value) (h : ClsM n w p κ C) (hv : RowC κ 9 w 3 1 v l.length (natsV l)) (hl : ∀ s ∈ l, s < n) (hn : l.Nodup) (hm : C.mem.length ≤ 1099511627776) (hw : C.waits.length ≤ 1099511627776) (hll : l.length ≤ 1099511627776) :
    Calls Tryd.prog 60 #[.pointer (some ⟨p, 0, none⟩), v] w fun e w' => e = .returned (.int .i64 (C.mem.length : Int)) ∧ ClsP E n p κ w (C.found l) w' := by
  obtain ⟨X, bo, ba, vm, vw, vq, h⟩ := h
  obtain ⟨av, cv, rfl, _, _, _⟩ := hv.form
  obtain ⟨am, cm, rfl, _, _, hmz⟩ := h.mem.form
  obtain ⟨aw, cw, rfl, _, _, hwz⟩ := h.waits.form
  obtain ⟨b0, b1, b2, b3, b4, b5⟩ := h.cells
  have b6 := b5 2
  have b7 := b5 3
  have hXl : X.length ≤ 1099511627776 := by rw [h.lenX]; exact hm
  have H0 := Lib.hid h
  have HV := Lib.hid hv
  have HXL : Hid (X.length = C.mem.length) := h.lenX
  have HWL := Lib.hid hw
  rw [← HXL.out]
  obtain ⟨ia, hia, ha0, ha1, ha2⟩ := info_parts Tryd.infoIs
  obtain ⟨ib, hib, hb0, hb1, hb2⟩ := info_parts Tryd.infoBo
  obtain ⟨ln, hln⟩ : ∃ ln, ln = l.length := ⟨_, rfl⟩
  have HLN := Lib.hid hln
  rw [← hln] at hll ⊢
  clear hmz hwz h hv b5 hw hm hln
  go_enter Tryd.func60, Tryd.ntmps60
  go_upto_region 3 with (at_builtin; refine wpList_pushC rfl _ _ 32 22 rfl ia _ 1 24 Tryd.underlying32 hia ha0 ha1 ha2 rfl (by decide) κ 7 _ X.length X rfl H0.out.mem [.slice av ln cv] rfl (one_of rfl) rfl (by omega) (by omega) ?_; intro g6 cp6 w6 hr6 hs6; obtain ⟨⟨s1, s2⟩, s3, s4⟩ := H0.out.pushM hs6 rfl hr6 (l := l) (by rw [HLN.out]; exact HV.out); have H2 := Lib.hid (And.intro s3 s4); clear hr6 hs6 s3 s4)
  generalize w6.setCell ⟨p, 2, none⟩ (.slice (some ⟨g6, 0, none⟩) (X.length + 1) cp6) = w7 at *
  obtain ⟨d0, d1, d2, d3, d4, d5⟩ := H2.out.1.cells
  have d6 := d5 3
  clear b0 b1 b2 b3 b4 b6 b7 d5 s1 s2
  go_upto_region 4 with (at_builtin; refine wpList_pushC rfl _ _ 48 4 rfl ib _ 1 1 Tryd.underlying48 hib hb0 hb1 hb2 rfl (by decide) _ 11 _ C.waits.length (boolsV C.waits) rfl H2.out.1.waits [.bool false] rfl (one_of rfl) rfl (by have := HWL.out; omega) (by have := HWL.out; omega) ?_; intro g8 cp8 w8 hr8 hs8; obtain ⟨⟨s1, s2⟩, s3, s4⟩ := H2.out.1.pushW hs8 (l := C.waits ++ [false]) (m := C.waits.length + 1) (by simp) (by rw [← boolsV_snoc]; exact hr8); have H3 := Lib.hid (And.intro s3 (H2.out.2.trans s4.weak)); clear hr8 hs8 s3 s4)
  rw [Au.foundTo_zero] at H3
  generalize w8.setCell ⟨p, 3, none⟩ (.slice (some ⟨g8, 0, none⟩) (C.waits.length + 1) cp8) = w9 at *
  have hk9 : ∃ κ9, Hid (ClsS n w9 p κ9 (C.foundTo l 0) (X ++ [.slice av ln cv]) bo ba (.slice (some ⟨g6, 0, none⟩) (X.length + 1) cp6) (.slice (some ⟨g8, 0, none⟩) (C.waits.length + 1) cp8) vq ∧ Pst E κ w w9 κ9) := ⟨_, H3⟩
  obtain ⟨κ9, H4⟩ := hk9
  clear H2 H3 d0 d1 d2 d3 d4 d6 s1 s2
  go_wp2_with fail
  go_loopg [34] ln (fun gg s34 wx => ∃ (k : Nat), k ≤ ln ∧ gg = ln - k ∧ s34 = .int .i64 k ∧ Hid (ClsS n wx p κ9 (C.foundTo l k) (X ++ [.slice av ln cv]) bo ba (.slice (some ⟨g6, 0, none⟩) (X.length + 1) cp6) (.slice (some ⟨g8, 0, none⟩) (C.waits.length + 1) cp8) vq ∧ Pst E κ w wx κ9))
  case atStart => exact ⟨0, Nat.zero_le _, rfl, rfl, H4⟩
  case round =>
    clear H4
    obtain ⟨k, hk, rfl, rfl, hP⟩ := hrel
    by_cases hkn : k < ln
    · have j1 : (k : Int) < (ln : Int) := by omega
      have hkl : k < l.length := by rw [← HLN.out]; exact hkn
      have hsl := hl _ (List.getElem_mem hkl)
      have hX1 : X.length < (X ++ [Value.slice av ln cv]).length := by simp
      have hea := hP.out.1.each X.length hX1
      have hrow : (C.foundTo l k).row X.length = l := by
        show (C.mem ++ [l]).getD X.length [] = l
        rw [HXL.out, List.getD_eq_getElem?_getD, List.getElem?_append_right (Nat.le_refl _), Nat.sub_self]
        rfl
      have hxx : (X ++ [Value.slice av ln cv])[X.length] = .slice av ln cv := by simp
      rw [hrow, hxx] at hea
      have hea2 := hea.form
      rw [← HLN.out] at hea2
      obtain ⟨a9, cp9, he1, _, _, he4⟩ := hea2
      simp only [Value.slice.injEq, true_and] at he1
      obtain ⟨rfl, rfl⟩ := he1
      obtain ⟨gl, rfl, lgl, _, _, hgc⟩ := he4 (by omega)
      have r1 := hgc k (.int .i64 (l[k] : Int)) (by simp [natsV, List.getElem?_eq_getElem hkl])
      obtain ⟨b0, b1, b2, b3, b4, b5⟩ := hP.out.1.cells
      have hd := hP.out.1
      obtain ⟨⟨f1, c1⟩, h1, p1⟩ := hd.setOf l[k] (C.mem.length : Int) hsl
      obtain ⟨⟨f2, c2⟩, h2, p2⟩ := h1.setPos l[k] k hsl
      have he := Au.foundTo_succ C l hn k hkl
      have H5 : Hid (ClsS n ((wr.setCell ⟨bo, l[k], none⟩ (.int .i64 (C.mem.length : Int))).setCell ⟨ba, l[k], none⟩ (.int .i64 (k : Int))).drew p κ9 (C.foundTo l (k + 1)) (X ++ [.slice (some ⟨gl, 0, none⟩) ln cv]) bo ba (.slice (some ⟨g6, 0, none⟩) (X.length + 1) cp6) (.slice (some ⟨g8, 0, none⟩) (C.waits.length + 1) cp8) vq ∧ Pst E κ w ((wr.setCell ⟨bo, l[k], none⟩ (.int .i64 (C.mem.length : Int))).setCell ⟨ba, l[k], none⟩ (.int .i64 (k : Int))).drew κ9) := by
        refine ⟨?_, (hP.out.2.trans (p1.trans p2).weak).drew⟩
        rw [← he]
        exact h2.drew
      rw [← HXL.out] at f2 c2 H5
      have j2 : (l[k] : Int) < (n : Int) := by omega
      obtain ⟨d0, d1, d2, d3, d4, _⟩ := h1.cells
      rw [← HXL.out] at d0 d1
      clear hgc he4 hea hrow hxx hX1 hd h1 h2 p1 p2 he hP b5 d2 d3 d4
      generalize l[k] = x at *
      go_wp2_with fail
      go_region
      go_wp2_with fail
      go_roundg (ln - (k + 1))
      case rel => exact ⟨k + 1, by omega, rfl, by go_num, H5⟩
      case measure => omega
    · obtain rfl : k = ln := by omega
      have HE := hP.out
      rw [HLN.out, Au.foundTo_all] at HE
      have HE := Lib.hid HE
      clear hP
      go_wp2_with fail
      go_ret
      exact ⟨rfl, _, ⟨_, _, _, _, _, _, HE.out.1⟩, HE.out.2⟩
end Go.Proofs.YthhfmcikfdagiaaDoor

/-
  The program's split: some of a class's states become a class of their own.
-/
namespace Go.Proofs.YthhfmcikfdagiaaDoor
open Go.RowKit
namespace Au
theorem out_snoc (C : Cls) (c : Nat) (l : List Nat) (k : Nat) (h : k < l.length) : C.out c (l.take (k + 1)) = (C.out c (l.take k)).takeOut c l[k] := by
  unfold Cls.out
  rw [List.take_succ_eq_append_getElem h, List.foldl_append]
  rfl
end Au
theorem ClsM.recol {n p : Nat} {w : World} {κ κ' : Nat → Nat} {C : Au.Cls} (h : ClsM n w p κ C) (hc : ∀ k, k < w.heap.size → κ k % 2 = 1 → κ k ≠ 9 → κ' k = κ k) : ClsM n w p κ' C := by
  obtain ⟨X, bo, ba, vm, vw, vq, h⟩ := h
  have hr : ∀ {d : Nat} {e : TypeId} {z : Nat} {u : Value} {k : Nat} {xs : List Value}, RowC κ d w e z u k xs → d % 2 = 1 → d ≠ 9 → RowC κ' d w e z u k xs := fun hh h1 h2 => ⟨hh.own, fun b hb => by
    have := hh.lt b hb
    rw [hc b this.1 (by rw [this.2]; exact h1) (by rw [this.2]; exact h2)]
    exact this.2⟩
  have hk : ∀ {b d : Nat}, b < w.heap.size → κ b = d → d % 2 = 1 → d ≠ 9 → κ' b = d := fun hl hb h1 h2 => by rw [hc _ hl (by rw [hb]; exact h1) (by rw [hb]; exact h2)]; exact hb
  exact ⟨X, bo, ba, vm, vw, vq, h.prow, hk h.plt h.kp rfl (by decide), h.of, hk h.of.lt h.ko rfl (by decide), h.pos, hk h.pos.lt h.ka rfl (by decide), hr h.mem rfl (by decide), h.lenX, fun j hj => hr (h.each j hj) (by omega) (by omega), hr h.waits rfl (by decide), hr h.wq rfl (by decide)⟩

set_option maxRecDepth 100000 in
set_option maxHeartbeats 4000000 in
theorem split_any (n : Nat) (w : World) (p : Nat) (κ : Nat → Nat) (C : Au.Cls) (c : Nat) (l : List Nat) (v : Value) (h : ClsM n w p κ C) (hok : Au.OkBut n C []) (hwo : Au.WaitOk C) (hc : c < C.mem.length) (hv : RowC κ 9 w 3 1 v l.length (natsV l)) (hn : l.Nodup)
    (hl : ∀ s ∈ l, s < n ∧ C.of s = (c : Int)) (hm : C.mem.length ≤ 1073741824) (hnn : n ≤ 1073741824) (hq : C.wq.length ≤ 1073741824) :
    Calls Tryd.prog 84 #[.pointer (some ⟨p, 0, none⟩), .int .i64 (c : Int), v] w fun e w' => e = .returned (.tuple #[]) ∧ ClsP E n p κ w (C.split c l) w' := by
  have hll : l.length ≤ n := by
    have := hn.length_le_of_subset (l₂ := List.range n) fun x hx => List.mem_range.2 (hl x hx).1
    simpa using this
  have HOUT : Hid (∀ k, k ≤ l.length → Au.OkBut n (C.out c (l.take k)) (l.take k).reverse ∧ (C.out c (l.take k)).of = C.of ∧ (C.out c (l.take k)).waits = C.waits ∧ (C.out c (l.take k)).wq = C.wq ∧ (C.out c (l.take k)).mem.length = C.mem.length) := fun k _ => by
    obtain ⟨h1, _, h3, h4, h5, h6, _⟩ := Au.out_ok c (l.take k) C [] hok (hn.sublist (List.take_sublist ..)) fun s hs => ⟨(hl s (List.mem_of_mem_take hs)).1, by simp, (hl s (List.mem_of_mem_take hs)).2⟩
    rw [List.append_nil] at h1
    exact ⟨h1, h3, h4, h5, h6⟩
  have HTK : Hid (∀ k (hk : k < l.length) W κ', ClsM n W p κ' (C.out c (l.take k)) → Calls Tryd.prog 94 #[.pointer (some ⟨p, 0, none⟩), .int .i64 (c : Int), .int .i64 (l[k] : Int)] W fun e w' => e = .returned (.tuple #[]) ∧ ClsP E9 n p κ' W (C.out c (l.take (k + 1))) w') := fun k hk W κ' hM => by
    obtain ⟨h1, h3, h4, h5, h6⟩ := HOUT.out k (Nat.le_of_lt hk)
    have hs := hl _ (List.getElem_mem hk)
    have hnot : l[k] ∉ (l.take k).reverse := by
      rw [List.mem_reverse]
      intro hm
      obtain ⟨j, hj, e⟩ := List.getElem_of_mem hm
      rw [List.length_take] at hj
      rw [List.getElem_take] at e
      exact (List.pairwise_iff_getElem.1 (List.nodup_iff_pairwise_ne.1 hn) j k (by omega) hk (by omega)) e
    have hrl : ∀ c', ((C.out c (l.take k)).row c').length ≤ n := fun c' => by
      have := (h1.nodup c').length_le_of_subset (l₂ := List.range n) fun x hx => List.mem_range.2 (h1.mem_row hx).1
      simpa using this
    have hps : (C.out c (l.take k)).pos l[k] < ((C.out c (l.take k)).row c).length := by
      rcases h1.of l[k] hs.1 hnot with e | ⟨c', e, h2⟩
      · rw [h3, hs.2] at e; omega
      · rw [h3, hs.2] at e
        obtain rfl : c' = c := by omega
        exact (List.getElem?_eq_some_iff.1 h2).1
    have := takeOut_any n W p κ' (C.out c (l.take k)) c l[k] hM (by rw [h6]; exact hc) hs.1 hps (fun x hx => (h1.mem_row hx).1) (by rw [h6]; omega) (by have := hrl c; omega)
    rw [← Au.out_snoc C c l k hk] at this
    exact this
  have HFO : Hid (∀ W κ', ClsM n W p κ' (C.out c l) → RowC κ' 9 W 3 1 v l.length (natsV l) → Calls Tryd.prog 60 #[.pointer (some ⟨p, 0, none⟩), v] W fun e w' => e = .returned (.int .i64 (C.mem.length : Int)) ∧ ClsP E n p κ' W ((C.out c l).found l) w') := fun W κ' hM hr => by
    obtain ⟨h1, h3, h4, h5, h6⟩ := HOUT.out l.length (Nat.le_refl _)
    rw [List.take_of_length_le (Nat.le_refl _)] at h1 h3 h4 h5 h6
    have := found_any n W p κ' (C.out c l) l v hM hr (fun s hs => (hl s hs).1) hn (by rw [h6]; omega) (by rw [h4, hwo.len]; omega) (by omega)
    rw [h6] at this
    exact this
  have hC2 : Hid (((C.out c l).found l).waits.length = C.mem.length + 1 ∧ ((C.out c l).found l).mem.length = C.mem.length + 1 ∧ ((C.out c l).found l).wq.length = C.wq.length) := by
    obtain ⟨h1, h3, h4, h5, h6⟩ := HOUT.out l.length (Nat.le_refl _)
    rw [List.take_of_length_le (Nat.le_refl _)] at h1 h3 h4 h5 h6
    show (((C.out c l).waits ++ [false]).length = _ ∧ ((C.out c l).mem ++ [l]).length = _ ∧ (C.out c l).wq.length = _)
    rw [List.length_append, List.length_append, h4, h5, h6, hwo.len]
    exact ⟨rfl, rfl, rfl⟩
  have HWT : Hid (∀ W κ' x, ClsM n W p κ' ((C.out c l).found l) → x < C.mem.length + 1 → Calls Tryd.prog 59 #[.pointer (some ⟨p, 0, none⟩), .int .i64 (x : Int)] W fun e w' => e = .returned (.tuple #[]) ∧ ClsP E9 n p κ' W (((C.out c l).found l).wait x) w') := fun W κ' x hM hx =>
    wait_any n W p κ' _ x hM (by rw [hC2.out.1]; exact hx) (by rw [hC2.out.1]; omega) (by rw [hC2.out.2.2]; omega)
  have HSP : Hid (C.split c l = if ((C.out c l).found l).waits.getD c false = false ∧ (((C.out c l).found l).row c).length < l.length then ((C.out c l).found l).wait c else ((C.out c l).found l).wait C.mem.length) := rfl
  have hrl2 : Hid ((((C.out c l).found l).row c).length ≤ 1099511627776) := by
    obtain ⟨h1, _⟩ := HOUT.out l.length (Nat.le_refl _)
    rw [List.take_of_length_le (Nat.le_refl _)] at h1
    rw [Au.found_row]
    split
    · show _ ≤ _; omega
    · have := (h1.nodup c).length_le_of_subset (l₂ := List.range n) fun x hx => List.mem_range.2 (h1.mem_row hx).1
      simp at this
      show _ ≤ _; omega
  have HV := Lib.hid hv
  obtain ⟨av, cv, hve, _, _, hv4⟩ := hv.form
  have h0 : C.out c (l.take 0) = C := by simp [Au.Cls.out]
  have H0 : Hid (ClsM n w p κ (C.out c (l.take 0)) ∧ Pst E9 κ w w κ) := ⟨by rw [h0]; exact h, Pst.refl _ _ _⟩
  obtain ⟨ln, hln⟩ : ∃ ln, ln = l.length := ⟨_, rfl⟩
  have HLN := Lib.hid hln
  rw [← hln] at hve hll hv4
  subst hve
  have hcm : c < C.mem.length + 1 := by omega
  have HF : Hid (C.out c (l.take ln) = C.out c l) := by show _ = _; rw [hln, List.take_of_length_le (Nat.le_refl _)]
  generalize hC2e : (C.out c l).found l = C2 at *
  clear hv h h0 hok hwo hl hn hln hv4 hC2e
  go_enter Tryd.func84, Tryd.ntmps84
  go_wp2_with fail
  go_loopg [11] ln (fun gg s11 wx => ∃ (k : Nat) (κ' : Nat → Nat), k ≤ ln ∧ gg = ln - k ∧ s11 = .int .i64 k ∧ Hid (ClsM n wx p κ' (C.out c (l.take k)) ∧ Pst E9 κ w wx κ'))
  case atStart => exact ⟨0, _, Nat.zero_le _, rfl, rfl, H0⟩
  case round =>
    clear H0
    obtain ⟨k, κ', hk, rfl, rfl, hP⟩ := hrel
    by_cases hkn : k < ln
    · have j1 : (k : Int) < (ln : Int) := by omega
      have hkl : k < l.length := by rw [← HLN.out]; exact hkn
      have hrow := hP.out.2.row HV.out (.inr rfl)
      rw [← HLN.out] at hrow
      obtain ⟨_, _, he1, _, _, he4⟩ := hrow.form
      simp only [Value.slice.injEq, true_and] at he1
      obtain ⟨rfl, rfl⟩ := he1
      obtain ⟨gl, rfl, _, _, _, hgc⟩ := he4 (by omega)
      have r1 := hgc k (.int .i64 (l[k] : Int)) (by simp [natsV, List.getElem?_eq_getElem hkl])
      have HT := Lib.hid (HTK.out k hkl wr κ' hP.out.1)
      have HPS := Lib.hid hP.out.2
      clear hgc he4 hrow hP
      generalize l[k] = x at *
      go_wp2_with (go_at_call 94; refine HT.out.mono ?_; rintro e w3 ⟨rfl, κ3, h3, h4⟩; have HM3 : Hid (ClsM n w3 p κ3 (C.out c (l.take (k + 1))) ∧ Pst E9 κ w w3 κ3) := ⟨h3, HPS.out.trans h4⟩; clear h3 h4)
      go_roundg (ln - (k + 1))
      case rel => exact ⟨k + 1, κ3, by omega, rfl, by go_num, HM3⟩
      case measure => omega
    · obtain rfl : k = ln := by omega
      have hM := hP.out.1
      rw [HF.out] at hM
      have HFD := Lib.hid (HFO.out wr κ' hM (hP.out.2.row HV.out (.inr rfl)))
      have HPS := Lib.hid hP.out.2.weak
      clear hP hM
      go_upto_region 6 with (go_at_call 60; refine HFD.out.mono ?_; rintro e w5 ⟨rfl, κ5, h5, h6⟩; have HM5 := Lib.hid (And.intro h5 (HPS.out.trans h6)); clear h5 h6)
      have HWA := Lib.hid (fun x hx => HWT.out w5 κ5 x HM5.out.1 hx)
      obtain ⟨X, bo, ba, vm, vw, vq, hS⟩ := HM5.out.1
      obtain ⟨b0, b1, b2, b3, b4, b5⟩ := hS.cells
      obtain ⟨aw, cw, rfl, _, _, hw4⟩ := hS.waits.form
      obtain ⟨gw, rfl, _, _, _, hwc⟩ := hw4 (by rw [hC2.out.1]; omega)
      have hcw : c < C2.waits.length := by rw [hC2.out.1]; exact hcm
      have c1 := hwc c (.bool C2.waits[c]) (by simp [boolsV, List.getElem?_eq_getElem hcw])
      have hcX : c < X.length := by rw [hS.lenX, hC2.out.2.1]; exact hcm
      obtain ⟨am, cm, rfl, _, _, hm4⟩ := hS.mem.form
      obtain ⟨gm, rfl, _, _, _, hmc⟩ := hm4 (by omega)
      obtain ⟨ar, cp, hx, _, _, _⟩ := (hS.each c hcX).form
      have c2 := hmc c X[c] (List.getElem?_eq_getElem hcX)
      rw [hx] at c2
      have hgd : C2.waits.getD c false = C2.waits[c] := by rw [List.getD_eq_getElem?_getD, List.getElem?_eq_getElem hcw]; rfl
      rw [hgd] at HSP
      have j1 : (c : Int) < (C2.waits.length : Int) := by omega
      have j2 : (c : Int) < (X.length : Int) := by omega
      rw [← HLN.out] at HSP
      clear hmc hm4 hwc hw4 hx hS hgd b0 b1 b4 b5
      generalize C2.waits[c] = bw at *
      have HSP2 := Lib.hid HSP.out
      clear HSP
      cases bw with
      | true =>
        have he : C.split c l = C2.wait C.mem.length := by rw [HSP2.out, if_neg (by simp)]
        have HE := Lib.hid he
        have HWB := Lib.hid (HWA.out C.mem.length (Nat.lt_succ_self _))
        clear he
        go_wp2_with (go_at_call 59; refine HWB.out.mono ?_; rintro e w7 ⟨rfl, κ7, h7, h8⟩; have HM7 := Lib.hid (And.intro h7 (HM5.out.2.trans h8.weak)); clear h7 h8)
        go_end0
        exact ⟨rfl, κ7, by rw [HE.out]; exact HM7.out.1, HM7.out.2⟩
      | false =>
        by_cases hlt : (C2.row c).length < k
        · have he : C.split c l = C2.wait c := by rw [HSP2.out, if_pos ⟨rfl, hlt⟩]
          have HE := Lib.hid he
          have HWB := Lib.hid (HWA.out c hcm)
          have j3 : (((C2.row c).length : Nat) : Int) < (k : Int) := by omega
          clear he hlt
          go_wp2_with (go_at_call 59; refine HWB.out.mono ?_; rintro e w7 ⟨rfl, κ7, h7, h8⟩; have HM7 := Lib.hid (And.intro h7 (HM5.out.2.trans h8.weak)); clear h7 h8)
          go_end0
          exact ⟨rfl, κ7, by rw [HE.out]; exact HM7.out.1, HM7.out.2⟩
        · have he : C.split c l = C2.wait C.mem.length := by rw [HSP2.out, if_neg (fun h => hlt h.2)]
          have HE := Lib.hid he
          have HWB := Lib.hid (HWA.out C.mem.length (Nat.lt_succ_self _))
          have j3 : ¬ (((C2.row c).length : Nat) : Int) < (k : Int) := by omega
          clear he hlt
          go_wp2_with (go_at_call 59; refine HWB.out.mono ?_; rintro e w7 ⟨rfl, κ7, h7, h8⟩; have HM7 := Lib.hid (And.intro h7 (HM5.out.2.trans h8.weak)); clear h7 h8)
          go_end0
          exact ⟨rfl, κ7, by rw [HE.out]; exact HM7.out.1, HM7.out.2⟩
end Go.Proofs.YthhfmcikfdagiaaDoor

/-
  The program's splitBy: classes split by the states of a list.
-/
namespace Go.Proofs.YthhfmcikfdagiaaDoor
open Go.RowKit Go.Maps
def keyN (c : Nat) : Lit := .int .i64 (c : Int)
theorem keyN_inj {a b : Nat} (h : keyN a = keyN b) : a = b := by
  unfold keyN at h
  simp only [Lit.int.injEq, true_and] at h
  omega
theorem lawIn : Keyed Tryd.prog 3 := int_keyed Tryd.underlying3
theorem keyN_of {c : Nat} (h : c ≤ 1099511627776) : keyOf Tryd.prog 3 (.int .i64 (c : Int)) = some (keyN c) := keyOf_int_mk Tryd.underlying3 (by simp [Lit.wf, IntKind.min, IntKind.max, IntKind.signed, IntKind.bits]; omega)
theorem zeroSl (w : World) : (zeroValue 22).run Tryd.prog w = .ok (.slice none 0 0) w := by kernel_rfl
theorem run_lookG (w : World) {t k e : TypeId} (K : Keyed Tryd.prog k) (ht : Tryd.prog.underlying t = some (.map k e)) (z : Value) (hz : ∀ w, (zeroValue e).run Tryd.prog w = .ok z w) {b n : Nat} {F : Lit → Option Value} (hM : MapG k w b n F) {key : Value} {kl : Lit} (hkey : keyOf Tryd.prog k key = some kl) :
    (Instr.lookup t (.map (some b)) key false).run Tryd.prog w = .ok ((F kl).getD z) w := by
  obtain ⟨D, hown, hF⟩ := hM
  obtain ⟨v, ps, hrun, hv⟩ := hown.lookup K ht (hz w) (zd := .held z) (zp := []) rfl hkey
  obtain ⟨h1, h2⟩ := hF kl z (K.key hkey)
  rw [h2] at hv
  unfold rV at hv
  simp only [Option.some.injEq, Prod.mk.injEq, DataW.held.injEq] at hv
  rw [hrun, hv.1]
/-- Colour 0 alone. -/
def O0 (c : Nat) : Prop := c = 0
theorem Pst.zero {κ κ1 : Nat → Nat} {w w1 : World} (h : Pst E κ w w1 κ1) : Pst O0 κ w w1 κ1 := ⟨h.os, h.tape, h.output, h.size, fun k hk he => h.block k hk (by unfold O0 at he; rw [he]; rfl), fun k hk he => h.col k hk (by unfold O0 at he; rw [he]; rfl)⟩
/-- The lists of the states that are inside, class by class. -/
structure InsM (w : World) (mb m : Nat) (κ : Nat → Nat) (F : Lit → Option Value) (I : Nat → List Nat) (P : Nat → Prop) : Prop where
  map : MapG 3 w mb m F
  km : κ mb = 2
  row : ∀ c, P c → RowC κ (6 + 2 * c) w 3 1 ((F (keyN c)).getD (.slice none 0 0)) (I c).length (natsV (I c))
theorem InsM.step {w w' : World} {mb m c : Nat} {κ κ' : Nat → Nat} {F : Lit → Option Value} {I : Nat → List Nat} {P : Nat → Prop} (h : InsM w mb m κ F I P) (hs : Step κ c w w' κ') (h2 : c ≠ 2) (h6 : ∀ j, P j → c ≠ 6 + 2 * j) : InsM w' mb m κ' F I P :=
  ⟨h.map.keep (hs.block mb h.map.lt (by rw [h.km]; exact fun e => h2 e.symm)), (hs.col mb h.map.lt).trans h.km, fun j hj => (h.row j hj).step hs fun e => h6 j hj e.symm⟩
theorem InsM.pst {w w' : World} {mb m : Nat} {κ κ' : Nat → Nat} {F : Lit → Option Value} {I : Nat → List Nat} {P : Nat → Prop} (h : InsM w mb m κ F I P) (hs : Pst E κ w w' κ') : InsM w' mb m κ' F I P :=
  ⟨h.map.keep (hs.block mb h.map.lt (by rw [h.km]; rfl)), (hs.col mb h.map.lt (by rw [h.km]; rfl)).trans h.km, fun j hj => hs.row (h.row j hj) (by unfold E; omega)⟩
theorem InsM.drew {w : World} {mb m : Nat} {κ : Nat → Nat} {F : Lit → Option Value} {I : Nat → List Nat} {P : Nat → Prop} (h : InsM w mb m κ F I P) : InsM w.drew mb m κ F I P := ⟨h.map.keep rfl, h.km, fun j hj => (h.row j hj).drew⟩
/-- One state more in a list. -/
theorem InsM.put {w w1 w2 : World} {mb m c s : Nat} {κ : Nat → Nat} {F : Lit → Option Value} {I I' : Nat → List Nat} {u : Value} (h : InsM w mb m κ F I fun _ => True)
    (hr : RowC (paint κ w.heap.size (6 + 2 * c)) (6 + 2 * c) w1 3 1 u ((I c).length + 1) (natsV (I c) ++ [.int .i64 (s : Int)])) (hs : Step κ (6 + 2 * c) w w1 (paint κ w.heap.size (6 + 2 * c)))
    (hm : MapG 3 w2 mb (m + 1) (updG F (keyN c) (some u))) (hg : w1.grownBy w2 (some mb)) (hI : ∀ j, I' j = if j = c then I c ++ [s] else I j) :
    InsM w2 mb (m + 1) (paint (paint κ w.heap.size (6 + 2 * c)) w1.heap.size 2) (updG F (keyN c) (some u)) I' (fun _ => True) ∧ Step (paint κ w.heap.size (6 + 2 * c)) 2 w1 w2 (paint (paint κ w.heap.size (6 + 2 * c)) w1.heap.size 2) := by
  have hk1 : paint κ w.heap.size (6 + 2 * c) mb = 2 := (hs.col mb h.map.lt).trans h.km
  have hs2 : Step (paint κ w.heap.size (6 + 2 * c)) 2 w1 w2 (paint (paint κ w.heap.size (6 + 2 * c)) w1.heap.size 2) := Step.of_grown hg hk1
  refine ⟨⟨hm, (hs2.col mb (Nat.lt_of_lt_of_le h.map.lt hs.size)).trans hk1, fun j _ => ?_⟩, hs2⟩
  rw [hI j]
  by_cases e : j = c
  · subst e
    rw [updG_same, if_pos rfl, List.length_append, ← natsV_snoc]
    exact hr.step hs2 (by omega)
  · rw [updG_other _ _ _ _ fun k => e (keyN_inj k), if_neg e]
    exact ((h.row j trivial).step hs (by omega)).step hs2 (by omega)
theorem WaitOk_few {C : Au.Cls} (h : Au.WaitOk C) : C.wq.length ≤ C.mem.length := by
  have := h.nodup.length_le_of_subset (l₂ := List.range C.mem.length) fun x hx => List.mem_range.2 (h.lt hx)
  simpa using this
/-- Between two states of the list. -/
structure Sp1 (n : Nat) (w0 w : World) (p mb m : Nat) (κ0 κ : Nat → Nat) (C : Au.Cls) (l : List Nat) (vo : Value) (F : Lit → Option Value) : Prop where
  cls : ClsM n w p κ C
  pst : Pst O0 κ0 w0 w κ
  ord : RowC κ 4 w 3 1 vo (Au.order C l).length (natsV (Au.order C l))
  ins : InsM w mb m κ F (Au.inside C l) fun _ => True
section
variable {n p mb m : Nat} {w0 w w' : World} {κ0 κ κ' : Nat → Nat} {C : Au.Cls} {l : List Nat} {vo : Value} {F : Lit → Option Value}
theorem Sp1.skip (h : Sp1 n w0 w p mb m κ0 κ C l vo F) (s : Nat) (h1 : (C.row (Au.cl C s)).length = 1) : Sp1 n w0 w p mb (m + 1) κ0 κ C (l ++ [s]) vo F := by
  have e1 : Au.order C (l ++ [s]) = Au.order C l := by rw [Au.order_snoc]; unfold Au.orderStep; rw [if_pos h1]
  have e2 : Au.inside C (l ++ [s]) = Au.inside C l := funext fun c => by rw [Au.inside_snoc, if_neg (fun ⟨e, h⟩ => h (e ▸ h1))]
  exact ⟨h.cls, h.pst, by rw [e1]; exact h.ord, by rw [e2]; exact ⟨h.ins.map.mono (Nat.le_succ _), h.ins.km, h.ins.row⟩⟩
/-- A class met. -/
theorem Sp1.meet {vo' : Value} {s : Nat} (h : Sp1 n w0 w p mb m κ0 κ C l vo F) (h1 : (C.row (Au.cl C s)).length ≠ 1) (h2 : Au.inside C l (Au.cl C s) = [])
    (hr : RowC (paint κ w.heap.size 4) 4 w' 3 1 vo' ((Au.order C l).length + 1) (natsV (Au.order C l) ++ [.int .i64 (Au.cl C s : Int)])) (hs : Step κ 4 w w' (paint κ w.heap.size 4)) :
    ClsM n w' p (paint κ w.heap.size 4) C ∧ Pst O0 κ0 w0 w' (paint κ w.heap.size 4) ∧ RowC (paint κ w.heap.size 4) 4 w' 3 1 vo' (Au.order C (l ++ [s])).length (natsV (Au.order C (l ++ [s]))) ∧ InsM w' mb m (paint κ w.heap.size 4) F (Au.inside C l) (fun _ => True) := by
  have hc : Au.cl C s ∉ Au.order C l := fun k => (Au.order_iff C l _).1 k h2
  have e1 : Au.order C (l ++ [s]) = Au.order C l ++ [Au.cl C s] := by rw [Au.order_snoc]; unfold Au.orderStep; rw [if_neg h1, if_neg hc]
  refine ⟨h.cls.step hs rfl, h.pst.trans (Pst.of_step hs (by unfold O0; decide)), ?_, h.ins.step hs (by decide) fun j _ => by omega⟩
  rw [e1, List.length_append, ← natsV_snoc]
  exact hr
theorem Sp1.again (h : Sp1 n w0 w p mb m κ0 κ C l vo F) {s : Nat} (h1 : (C.row (Au.cl C s)).length ≠ 1) (h2 : Au.inside C l (Au.cl C s) ≠ []) :
    ClsM n w p κ C ∧ Pst O0 κ0 w0 w κ ∧ RowC κ 4 w 3 1 vo (Au.order C (l ++ [s])).length (natsV (Au.order C (l ++ [s]))) ∧ InsM w mb m κ F (Au.inside C l) (fun _ => True) := by
  have hc : Au.cl C s ∈ Au.order C l := (Au.order_iff C l _).2 h2
  have e1 : Au.order C (l ++ [s]) = Au.order C l := by rw [Au.order_snoc]; unfold Au.orderStep; rw [if_neg h1, if_pos hc]
  exact ⟨h.cls, h.pst, by rw [e1]; exact h.ord, h.ins⟩
theorem Sp1.more {s : Nat} {w1 w2 : World} {u : Value} (h : ClsM n w p κ C ∧ Pst O0 κ0 w0 w κ ∧ RowC κ 4 w 3 1 vo (Au.order C (l ++ [s])).length (natsV (Au.order C (l ++ [s]))) ∧ InsM w mb m κ F (Au.inside C l) (fun _ => True)) (h1 : (C.row (Au.cl C s)).length ≠ 1)
    (hr : RowC (paint κ w.heap.size (6 + 2 * Au.cl C s)) (6 + 2 * Au.cl C s) w1 3 1 u ((Au.inside C l (Au.cl C s)).length + 1) (natsV (Au.inside C l (Au.cl C s)) ++ [.int .i64 (s : Int)])) (hs : Step κ (6 + 2 * Au.cl C s) w w1 (paint κ w.heap.size (6 + 2 * Au.cl C s)))
    (hm : MapG 3 w2 mb (m + 1) (updG F (keyN (Au.cl C s)) (some u))) (hg : w1.grownBy w2 (some mb)) :
    Sp1 n w0 w2 p mb (m + 1) κ0 (paint (paint κ w.heap.size (6 + 2 * Au.cl C s)) w1.heap.size 2) C (l ++ [s]) vo (updG F (keyN (Au.cl C s)) (some u)) := by
  obtain ⟨k1, k2, k3, k4⟩ := h
  obtain ⟨q1, q2⟩ := k4.put (I' := Au.inside C (l ++ [s])) hr hs hm hg fun j => by
    rw [Au.inside_snoc]
    by_cases e : j = Au.cl C s
    · subst e
      rw [if_pos ⟨rfl, h1⟩, if_pos rfl]
    · rw [if_neg fun ⟨k, _⟩ => e k.symm, if_neg e]
  exact ⟨(k1.step hs (by omega)).step q2 rfl, (k2.trans (Pst.of_step hs (by unfold O0; omega))).trans (Pst.of_step q2 (by unfold O0; decide)), (k3.step hs (by omega)).step q2 (by decide), q1⟩
end
end Go.Proofs.YthhfmcikfdagiaaDoor

/-
  The program's splitBy: the walk.
-/
namespace Go.Proofs.YthhfmcikfdagiaaDoor
open Go.RowKit Go.Maps

set_option maxRecDepth 100000 in
set_option maxHeartbeats 4000000 in
theorem splitBy_any (d : List Au.St) (O : Option Nat → Prop) (R : Nat → Prop) (w : World) (p : Nat) (κ : Nat → Nat) (C : Au.Cls) (l : List Nat) (v : Value) (n : Nat) (hd : d.length = n) (h : ClsM n w p κ C)
    (hI : Au.HInv d O R C) (hv : NumS (fun g => κ g = 0) w v (l.map fun (i : Nat) => (i : Int))) (hn : l.Nodup) (hl : ∀ s ∈ l, s < n ∧ 0 ≤ C.of s) (hX : ∀ s t, s < d.length → t < d.length → Au.Eqv (Au.ofL d) (Au.ofL d) s t → (s ∈ l ↔ t ∈ l)) (hnn : n ≤ 20000) :
    Calls Tryd.prog 62 #[.pointer (some ⟨p, 0, none⟩), v] w fun e w' => e = .returned (.tuple #[]) ∧ ∃ κ', ClsM n w' p κ' (Au.splitBy C l) ∧ Pst O0 κ w w' κ' ∧ ∀ k, k < w'.heap.size → κ' k % 2 = 0 → κ' k = 0 := by
  have hmm := @run_makeMap Tryd.prog
  have hll : l.length ≤ n := by
    have := hn.length_le_of_subset (l₂ := List.range n) fun x hx => List.mem_range.2 (hl x hx).1
    simpa using this
  have hmem : C.mem.length ≤ n + 1 := by rw [← hd]; exact Au.few_classes hI.ok hI.ne
  have hcl : ∀ s ∈ l, C.of s = (Au.cl C s : Int) ∧ Au.cl C s < C.mem.length := fun s hs => by
    obtain ⟨h1, h2⟩ := hl s hs
    have e := (Au.of_cl h2 _).1 rfl
    refine ⟨e, ?_⟩
    rcases hI.lt (by rw [hd]; exact h1) with k | k <;> omega
  have HCL := Lib.hid hcl
  have hil : ∀ l' c, (Au.inside C l' c).length ≤ l'.length := fun l' c => List.length_filter_le ..
  have hol : ∀ k, (Au.order C (l.take k)).length ≤ k := fun k => by
    induction k with
    | zero => simp [Au.order]
    | succ k ih =>
      by_cases hk : k < l.length
      · rw [List.take_succ_eq_append_getElem hk, Au.order_snoc]
        unfold Au.orderStep
        split
        · omega
        · split
          · omega
          · rw [List.length_append]; simp; omega
      · rw [List.take_of_length_le (by omega), ← List.take_of_length_le (l := l) (i := k) (by omega)]
        omega
  have HIL := Lib.hid hil
  have HOL := Lib.hid hol
  obtain ⟨av, cv, rfl, hv1, hv2, hv3⟩ := hv
  rw [List.length_map]
  obtain ⟨ln, hln⟩ : ∃ ln, ln = l.length := ⟨_, rfl⟩
  have HLN := Lib.hid hln
  rw [← hln] at hll ⊢
  have HV : Hid (∀ W κ', Pst O0 κ w W κ' → 0 < ln → ∃ g o, av = some ⟨g, o, none⟩ ∧ ∀ j (hj : j < l.length), W.cell? ⟨g, o + j, none⟩ = some (.int .i64 (l[j] : Int))) := fun W κ' hP h0 => by
    obtain ⟨g, o, rfl, hg, hgF, hc⟩ := hv3 (by rw [List.length_map, ← hln]; exact h0)
    refine ⟨g, o, rfl, fun j hj => ?_⟩
    have := hc j (by rw [List.length_map]; exact hj)
    rw [List.getElem_map] at this
    exact (cell_same (hP.block g hg hgF)).trans this
  have HMM0 : Hid (Sp1 n w (w.alloc (.map #[] 0)) p w.heap.size 0 κ (paint κ w.heap.size 2) C (l.take 0) (.slice none 0 0) (fun _ => none)) := by
    have hs : Step κ 2 w (w.alloc (.map #[] 0)) (paint κ w.heap.size 2) := Step.of_alloc w _
    exact ⟨h.step hs rfl, Pst.of_step hs (by unfold O0; decide), RowC.nil _ _ _ _ _, mapG_made _ w, paint_new _ _ _ _ (Nat.le_refl _), fun c _ => RowC.nil _ _ _ _ _⟩
  have HI := Lib.hid hI
  clear h hv1 hv2 hv3 hln hcl hil hol hI
  go_enter Tryd.func62, Tryd.ntmps62
  go_wp2_with fail
  generalize w.heap.size = mb at *
  go_loopg [5, 14] ln (fun gg s5 s14 wx => ∃ (k : Nat) (κ' : Nat → Nat) (F : Lit → Option Value), k ≤ ln ∧ gg = ln - k ∧ s14 = .int .i64 k ∧ Hid (Sp1 n w wx p mb k κ κ' C (l.take k) s5 F))
  case atStart => exact ⟨0, _, _, Nat.zero_le _, rfl, rfl, HMM0⟩
  case round =>
    clear HMM0
    obtain ⟨k, κ', F, hk, rfl, rfl, hP⟩ := hrel
    have hof := hP.out.ord.form
    obtain ⟨ao, co, rfl, _, _, hoz⟩ := hof
    by_cases hkn : k < ln
    · have j1 : (k : Int) < (ln : Int) := by omega
      have hkl : k < l.length := by rw [← HLN.out]; exact hkn
      obtain ⟨gv, ov, rfl, hvc⟩ := HV.out wr κ' hP.out.pst (by omega)
      have r1 := hvc k hkl
      have htk : Hid (l.take (k + 1) = l.take k ++ [l[k]]) := List.take_succ_eq_append_getElem hkl
      obtain ⟨hc1, hc2⟩ := HCL.out _ (List.getElem_mem hkl)
      obtain ⟨hs1, hs2⟩ := hl _ (List.getElem_mem hkl)
      obtain ⟨X, bo, ba, vm, vw, vq, hS⟩ := hP.out.cls
      obtain ⟨b0, b1, b2, b3, b4, b5⟩ := hS.cells
      have r2 := hS.of.cell hs1
      rw [hc1] at r2
      have hcX : Au.cl C l[k] < X.length := by rw [hS.lenX]; exact hc2
      obtain ⟨am, cm, rfl, _, _, hm4⟩ := hS.mem.form
      obtain ⟨gm, rfl, _, _, _, hmc⟩ := hm4 (by omega)
      obtain ⟨ar, cp, hx, _, _, _⟩ := (hS.each _ hcX).form
      have r3 := hmc _ X[Au.cl C l[k]] (List.getElem?_eq_getElem hcX)
      rw [hx] at r3
      have hkey := keyN_of (c := Au.cl C l[k]) (by omega)
      have j2 : (l[k] : Int) < (n : Int) := by omega
      have j3 : (Au.cl C l[k] : Int) < (X.length : Int) := by omega
      have hcb := hS.cells
      clear hmc hm4 hx hS hvc hc1 hs2 hoz b1 b3 b4 b5 hcb
      by_cases h1 : (C.row (Au.cl C l[k])).length = 1
      · have HS1 := Lib.hid (hP.out.skip _ h1)
        rw [← htk.out] at HS1
        rw [h1] at r3
        clear hP h1
        generalize l[k] = s at *
        go_wp2_with fail
        go_roundg (ln - (k + 1))
        case rel => exact ⟨k + 1, κ', F, by omega, rfl, by go_num, HS1⟩
        case measure => omega
      · have h1i : ¬ (((C.row (Au.cl C l[k])).length : Nat) : Int) = 1 := by omega
        generalize l[k] = s at *
        obtain ⟨ii, hi1, hz0, hz1, hz2⟩ := info_parts Tryd.infoN
        have hu := hP.out.ins.row (Au.cl C s) trivial
        have hlen := HIL.out (l.take k) (Au.cl C s)
        have hoo := HOL.out k
        rw [List.length_take] at hlen
        have hlen : (Au.inside C (l.take k) (Au.cl C s)).length ≤ 20000 := by omega
        have hoo : (Au.order C (l.take k)).length ≤ 20000 := by omega
        obtain ⟨au, cu, hue, _, _, huz⟩ := hu.form
        clear huz hu
        have hmk : k + 1 < maxLen := by unfold maxLen; omega
        have hmk0 : k < maxLen := by unfold maxLen; omega
        by_cases h2 : Au.inside C (l.take k) (Au.cl C s) = []
        · have HME := Lib.hid (fun w' vo' hr hs => hP.out.meet (w' := w') (vo' := vo') h1 h2 hr hs)
          have HMO := Lib.hid (fun (w6 w7 w8 : World) κ6 vo' u hh hr hs hm hg => Sp1.more (n := n) (p := p) (mb := mb) (m := k) (w0 := w) (w := w6) (κ0 := κ) (κ := κ6) (C := C) (l := l.take k) (vo := vo') (F := F) (s := s) (w1 := w7) (w2 := w8) (u := u) hh h1 hr hs hm hg)
          rw [← htk.out] at HMO HME
          have HMAP := Lib.hid hP.out.ins.map
          have HORD := Lib.hid hP.out.ord
          have hl0 : (Au.inside C (l.take k) (Au.cl C s)).length = 0 := by rw [h2]; rfl
          rw [hl0] at hue
          have HL0 := Lib.hid hl0
          clear hP h1 h2 hl0
          go_upto_region 9 with (first | (at_lookup; refine wpList_lookG _ rfl _ _ 143 3 22 rfl lawIn Tryd.underlying143 (.slice none 0 0) zeroSl mb k F rfl HMAP.out (.int .i64 (Au.cl C s : Int)) (keyN (Au.cl C s)) rfl hkey ?_; rw [hue]) | (at_builtin; refine wpList_pushC rfl _ _ 22 3 rfl ii _ 1 8 Tryd.underlying22 hi1 hz0 hz1 hz2 rfl (by decide) κ' 4 _ _ _ rfl HORD.out [.int .i64 (Au.cl C s : Int)] rfl (one_of rfl) rfl (by omega) (by omega) ?_; intro g6 cp6 w6 hr6 hs6; have HM6 := Lib.hid (HME.out w6 _ hr6 hs6); clear hr6 hs6))
          have hro6 := HM6.out.2.2.2.row (Au.cl C s) trivial
          rw [HL0.out, hue] at hro6
          have HR6 := Lib.hid hro6
          have HMP6 := Lib.hid HM6.out.2.2.2.map
          clear hro6
          go_wp2_with (first | (at_lookup; refine wpList_lookG _ rfl _ _ 143 3 22 rfl lawIn Tryd.underlying143 (.slice none 0 0) zeroSl mb k F rfl HMP6.out (.int .i64 (Au.cl C s : Int)) (keyN (Au.cl C s)) rfl hkey ?_; rw [hue]) | (at_mapUpdate; refine wpList_storeG _ rfl _ _ _ 143 3 22 rfl lawIn Tryd.underlying143 mb k F rfl HMP7.out hmk0 (.int .i64 (Au.cl C s : Int)) (keyN (Au.cl C s)) rfl hkey _ rfl ?_; intro w8 hm8 hg8; have HM8 := Lib.hid (HMO.out w6 w7 w8 _ _ _ HM6.out HRS7.out.1 HRS7.out.2 hm8 hg8); clear hm8 hg8) | (at_builtin; refine wpList_pushC rfl _ _ 22 3 rfl ii _ 1 8 Tryd.underlying22 hi1 hz0 hz1 hz2 rfl (by decide) _ (6 + 2 * Au.cl C s) _ 0 _ rfl HR6.out [.int .i64 (s : Int)] rfl (one_of rfl) rfl (by omega) (by omega) ?_; intro g7 cp7 w7 hr7 hs7; have HMP7 := Lib.hid (HMP6.out.keep (w' := w7) (hs7.block mb HMP6.out.lt (by rw [HM6.out.2.2.2.km]; omega))); have HRS7 := Lib.hid (And.intro (show RowC _ (6 + 2 * Au.cl C s) w7 3 1 (.slice (some ⟨g7, 0, none⟩) 1 cp7) ((Au.inside C (l.take k) (Au.cl C s)).length + 1) _ by rw [HL0.out]; exact hr7) hs7); clear hr7 hs7))
          go_roundg (ln - (k + 1))
          case rel => exact ⟨k + 1, _, _, by omega, rfl, by go_num, HM8⟩
          case measure => omega
        · have HM6 := Lib.hid (hP.out.again h1 h2)
          have HMO := Lib.hid (fun (w7 w8 : World) u hr hs hm hg => Sp1.more (n := n) (p := p) (mb := mb) (m := k) (w0 := w) (w := wr) (κ0 := κ) (κ := κ') (C := C) (l := l.take k) (vo := .slice ao (Au.order C (l.take k)).length co) (F := F) (s := s) (w1 := w7) (w2 := w8) (u := u) HM6.out h1 hr hs hm hg)
          have hor : Au.order C (l.take k ++ [s]) = Au.order C (l.take k) := by
            rw [Au.order_snoc]
            unfold Au.orderStep
            rw [if_neg h1, if_pos ((Au.order_iff C _ _).2 h2)]
          rw [← htk.out] at HMO
          have hR6 := HM6.out.2.2.2.row (Au.cl C s) trivial
          rw [hue] at hR6
          have HR6 := Lib.hid hR6
          have HMP6 := Lib.hid HM6.out.2.2.2.map
          have hl0 : ¬ ((((Au.inside C (l.take k) (Au.cl C s)).length : Nat) : Int) = 0) := fun e => h2 (List.length_eq_zero_iff.1 (by omega))
          obtain ⟨li, hli⟩ : ∃ li, (Au.inside C (l.take k) (Au.cl C s)).length = li := ⟨_, rfl⟩
          have HLI := Lib.hid hli
          rw [hli] at hue hl0 hlen
          rw [hli] at HR6
          have hl1 : ((li : Int) == 0) = false := by simpa using hl0
          clear hP h1 h2 hli hR6
          go_wp2_with (first | (at_lookup; refine wpList_lookG _ rfl _ _ 143 3 22 rfl lawIn Tryd.underlying143 (.slice none 0 0) zeroSl mb k F rfl HMP6.out (.int .i64 (Au.cl C s : Int)) (keyN (Au.cl C s)) rfl hkey ?_; rw [hue]) | (at_mapUpdate; refine wpList_storeG _ rfl _ _ _ 143 3 22 rfl lawIn Tryd.underlying143 mb k F rfl HMP7.out hmk0 (.int .i64 (Au.cl C s : Int)) (keyN (Au.cl C s)) rfl hkey _ rfl ?_; intro w8 hm8 hg8; have HM8 := Lib.hid (HMO.out w7 w8 _ HRS7.out.1 HRS7.out.2 hm8 hg8); clear hm8 hg8) | (at_builtin; refine wpList_pushC rfl _ _ 22 3 rfl ii _ 1 8 Tryd.underlying22 hi1 hz0 hz1 hz2 rfl (by decide) _ (6 + 2 * Au.cl C s) _ li _ rfl HR6.out [.int .i64 (s : Int)] rfl (one_of rfl) rfl (by omega) (by omega) ?_; intro g7 cp7 w7 hr7 hs7; have HMP7 := Lib.hid (HMP6.out.keep (w' := w7) (hs7.block mb HMP6.out.lt (by rw [HM6.out.2.2.2.km]; omega))); have HRS7 := Lib.hid (And.intro (show RowC _ (6 + 2 * Au.cl C s) w7 3 1 (.slice (some ⟨g7, 0, none⟩) (li + 1) cp7) ((Au.inside C (l.take k) (Au.cl C s)).length + 1) _ by rw [HLI.out]; exact hr7) hs7); clear hr7 hs7))
          go_roundg (ln - (k + 1))
          case rel => exact ⟨k + 1, _, _, by omega, rfl, by go_num, HM8⟩
          case measure => omega
    · obtain rfl : k = ln := by omega
      have hfl : l.take k = l := List.take_of_length_le (by rw [← HLN.out]; exact Nat.le_refl _)
      rw [hfl] at hP hoz ⊢
      have hlt : ∀ s ∈ l, s < d.length ∧ 0 ≤ C.of s := fun s hs => by rw [hd]; exact hl s hs
      have HSB : Hid (∀ i, i ≤ (Au.order C l).length → Au.SB d O R l C ((Au.order C l).take i) (((Au.order C l).take i).foldl (Au.splitC C l) C)) := fun i hi => Au.SB.upTo HI.out hn hlt hX i hi
      have HND := Lib.hid (Au.order_nodup C l)
      have hon : (Au.order C l).length ≤ 20000 := by
        have := HOL.out k
        rw [hfl] at this
        omega
      have HMI : Hid (∀ c s, s ∈ Au.inside C l c ↔ s ∈ l ∧ Au.cl C s = c ∧ (C.row c).length ≠ 1) := fun c s => Au.mem_inside C l c s
      have HIN : Hid (∀ c, (Au.inside C l c).Nodup) := fun c => hn.sublist List.filter_sublist
      have HOI : Hid (∀ c, c ∈ Au.order C l ↔ Au.inside C l c ≠ []) := fun c => Au.order_iff C l c
      have HIL2 : Hid (∀ c, (Au.inside C l c).length ≤ k) := fun c => by have := HIL.out l c; rw [← HLN.out] at this; exact this
      have HBY : Hid (Au.splitBy C l = (Au.order C l).foldl (Au.splitC C l) C) := rfl
      have HSC : Hid (∀ C' c, Au.splitC C l C' c = if (Au.inside C l c).length < (C'.row c).length then C'.split c (Au.inside C l c) else C') := fun _ _ => rfl
      obtain ⟨I, hIe⟩ : ∃ I, I = Au.inside C l := ⟨_, rfl⟩
      obtain ⟨S, hSe⟩ : ∃ S, S = Au.splitC C l := ⟨_, rfl⟩
      have HCLS := Lib.hid hP.out.cls
      have HP0 := Lib.hid hP.out.pst
      have HO0 := Lib.hid hP.out.ord
      have HI0 := Lib.hid hP.out.ins
      obtain ⟨ord, hordE⟩ : ∃ ord, ord = Au.order C l := ⟨_, rfl⟩
      obtain ⟨on, hone⟩ : ∃ on, on = (Au.order C l).length := ⟨_, rfl⟩
      have HON : Hid (on = ord.length) := by show _ = _; rw [hone, hordE]
      rw [← hIe] at HMI HIN HOI HIL2 HSC HI0
      rw [← hSe] at HSB HSC
      rw [← hordE] at HSB HND HOI
      rw [← hone] at hon HO0 ⊢
      rw [← hordE] at HO0 HBY
      rw [← hSe] at HBY
      have HONN := HON.out
      rw [← HONN] at HSB
      have HL0 : Hid (ClsM n wr p κ' ((ord.take 0).foldl S C) ∧ Pst O0 κ w wr κ' ∧ RowC κ' 4 wr 3 1 (.slice ao on co) on (natsV ord) ∧ InsM wr mb k κ' F I (fun c => c ∉ ord.take 0)) := ⟨HCLS.out, HP0.out, HO0.out, HI0.out.map, HI0.out.km, fun c _ => HI0.out.row c trivial⟩
      clear hP hoz HCLS HP0 HO0 HI0 hIe hSe hordE hone HONN hfl hlt HIL HOL HCL hX hmm
      go_wp2_with fail
      go_loopg [54] on (fun gg s54 wx => ∃ (i : Nat) (κ2 : Nat → Nat), i ≤ on ∧ gg = on - i ∧ s54 = .int .i64 i ∧ Hid (ClsM n wx p κ2 ((ord.take i).foldl S C) ∧ Pst O0 κ w wx κ2 ∧ RowC κ2 4 wx 3 1 (.slice ao on co) on (natsV ord) ∧ InsM wx mb k κ2 F I (fun c => c ∉ ord.take i)))
      case atStart => exact ⟨0, _, Nat.zero_le _, rfl, rfl, HL0⟩
      case round =>
        clear HL0
        obtain ⟨i, κ2, hi, rfl, rfl, hQ⟩ := hrel
        by_cases hin : i < on
        · have j1 : (i : Int) < (on : Int) := by omega
          have hio : i < ord.length := by rw [← HON.out]; exact hin
          obtain ⟨_, _, hoe, _, _, hoc⟩ := hQ.out.2.2.1.form
          simp only [Value.slice.injEq, true_and] at hoe
          obtain ⟨rfl, rfl⟩ := hoe
          obtain ⟨go, rfl, _, _, _, hoc⟩ := hoc (by omega)
          have r1 := hoc i (.int .i64 (ord[i] : Int)) (by simp [natsV, List.getElem?_eq_getElem hio])
          have hsb := HSB.out i (Nat.le_of_lt hin)
          have hnot : ord[i] ∉ ord.take i := by
            intro hm
            obtain ⟨j, hj, e⟩ := List.getElem_of_mem hm
            rw [List.length_take] at hj
            rw [List.getElem_take] at e
            exact (List.pairwise_iff_getElem.1 (List.nodup_iff_pairwise_ne.1 HND.out) j i (by omega) hio (by omega)) e
          have hnx : Hid ((ord.take (i + 1)).foldl S C = S ((ord.take i).foldl S C) ord[i]) := by
            show _ = _
            rw [List.take_succ_eq_append_getElem hio, List.foldl_append]
            rfl
          have hms : Hid (∀ c, c ∉ ord.take (i + 1) ↔ c ∉ ord.take i ∧ c ≠ ord[i]) := fun c => by
            rw [List.take_succ_eq_append_getElem hio, List.mem_append, List.mem_singleton, not_or]
          have hco : ord[i] ∈ ord := List.getElem_mem hio
          have hrow := hQ.out.2.2.2.row ord[i] hnot
          obtain ⟨s0, hs0⟩ := List.exists_mem_of_ne_nil _ ((HOI.out _).1 hco)
          obtain ⟨hs1, hs2, _⟩ := (HMI.out _ _).1 hs0
          obtain ⟨hs3, hs4⟩ := hl s0 hs1
          have hcm : ord[i] < C.mem.length := by
            have e := (Au.of_cl hs4 _).1 hs2
            rcases HI.out.lt (by rw [hd]; exact hs3) with q | q <;> omega
          have hof : ∀ s ∈ I ord[i], s < n ∧ (((ord.take i).foldl S C)).of s = (ord[i] : Int) := fun s hs => by
            obtain ⟨q1, q2, _⟩ := (HMI.out _ _).1 hs
            obtain ⟨q3, q4⟩ := hl s q1
            have q5 := (Au.of_cl q4 _).1 q2
            refine ⟨q3, ?_⟩
            rcases hsb.ref s (by rw [hd]; exact q3) with e | ⟨_, c', hc', e2⟩
            · rw [e]; exact q5
            · have : c' = ord[i] := by omega
              exact absurd (this ▸ hc') hnot
          have HOF := Lib.hid hof
          have HIV := Lib.hid hsb.inv
          have hmem' : (((ord.take i).foldl S C)).mem.length ≤ n + 1 := by rw [← hd]; exact Au.few_classes hsb.inv.ok hsb.inv.ne
          have hcm' : ord[i] < (((ord.take i).foldl S C)).mem.length := Nat.lt_of_lt_of_le hcm hsb.mem
          clear hoc hsb hnot hco hs0 hs1 hs2 hs3 hs4 hof
          generalize (ord.take i).foldl S C = C' at *
          generalize ord[i] = c at *
          obtain ⟨X, bo, ba, vm, vw, vq, hS⟩ := hQ.out.1
          obtain ⟨b0, b1, b2, b3, b4, b5⟩ := hS.cells
          have hcX : c < X.length := by rw [hS.lenX]; exact hcm'
          obtain ⟨am, cm, rfl, _, _, hm4⟩ := hS.mem.form
          obtain ⟨gm, rfl, _, _, _, hmc⟩ := hm4 (by omega)
          obtain ⟨ar, cp, hx, _, _, _⟩ := (hS.each _ hcX).form
          have r3 := hmc _ X[c] (List.getElem?_eq_getElem hcX)
          rw [hx] at r3
          have hkey := keyN_of (c := c) (by omega)
          have j3 : (c : Int) < (X.length : Int) := by omega
          obtain ⟨au, cu, hue, _, _, huz⟩ := hrow.form
          have hlk := run_lookG wr lawIn Tryd.underlying143 (.slice none 0 0) zeroSl hQ.out.2.2.2.map hkey
          have hlk2 := run_lookG wr.drew lawIn Tryd.underlying143 (.slice none 0 0) zeroSl hQ.out.2.2.2.drew.map hkey
          rw [hue] at hlk hlk2 hrow
          have HROW := Lib.hid hrow
          have HSCC := Lib.hid (HSC.out C' c)
          clear hmc hm4 hx hS huz hrow b0 b1 b3 b4 b5
          have hiln := HIL2.out c
          by_cases hlt : (I c).length < (C'.row c).length
          · have hltI : (((I c).length : Nat) : Int) < (((C'.row c).length : Nat) : Int) := by omega
            have hsp : Hid (S C' c = C'.split c (I c)) := by show _ = _; rw [HSCC.out, if_pos hlt]
            have hrc : Hid (ClsM n wr.drew p (fun b => if κ2 b = 6 + 2 * c then 9 else κ2 b) C') := (hQ.out.1.drew).recol fun b _ ho _ => by show (if _ then _ else _) = _; rw [if_neg (by omega)]
            have HSP := Lib.hid (split_any n wr.drew p (fun b => if κ2 b = 6 + 2 * c then 9 else κ2 b) C' c (I c) (.slice au (I c).length cu) hrc.out (by have := HIV.out.ok; rw [hd] at this; exact this) HIV.out.wait hcm' ⟨HROW.out.drew.own, fun b hb => by show (if _ then _ else _) = _; rw [HROW.out.col b hb, if_pos rfl]⟩ (HIN.out c) (HOF.out) (by omega) (by omega) (by have := WaitOk_few HIV.out.wait; omega))
            have HFIN : Hid (∀ w', (∃ κ', ClsM n w' p κ' (C'.split c (I c)) ∧ Pst E (fun b => if κ2 b = 6 + 2 * c then 9 else κ2 b) wr.drew w' κ') → ∃ κ', Hid (ClsM n w' p κ' (S C' c) ∧ Pst O0 κ w w' κ' ∧ RowC κ' 4 w' 3 1 (.slice (some ⟨go, 0, none⟩) on co) on (natsV ord) ∧ InsM w' mb k κ' F I (fun c => c ∉ ord.take (i + 1)))) := by
              rintro w' ⟨κ3, q1, q2⟩
              refine ⟨κ3, by rw [hsp.out]; exact q1, ?_, ?_, ?_⟩
              · have q0 := hQ.out.2.1.drew
                refine (q0.recol (κ2 := fun b => if κ2 b = 6 + 2 * c then 9 else κ2 b) fun b _ hb => ?_).trans q2.zero
                unfold O0 at hb
                show (if _ then _ else _) = _
                rw [if_neg (by omega)]
              · refine q2.row (c := 4) ⟨hQ.out.2.2.1.drew.own, fun b hb => ?_⟩ rfl
                show (if _ then _ else _) = _
                rw [hQ.out.2.2.1.col b hb, if_neg (by omega)]
              · have q4 := hQ.out.2.2.2.drew
                refine InsM.pst (κ := fun b => if κ2 b = 6 + 2 * c then 9 else κ2 b) (w := wr.drew) ⟨q4.map, ?_, fun j hj => ?_⟩ q2
                · show (if _ then _ else _) = _
                  rw [q4.km, if_neg (by omega)]
                · obtain ⟨j1, j2⟩ := (hms.out j).1 hj
                  have q5 := q4.row j j1
                  exact ⟨q5.own, fun b hb => by show (if _ then _ else _) = _; rw [q5.col b hb, if_neg (by omega)]⟩
            have HMD := Lib.hid hQ.out.2.2.2.drew.map
            clear hQ hlt hrc
            go_upto_region 14 with (fail)
            go_still_tail 12, (by kernel_rfl)
            change wpList _ _ _ _ _ wr.drew
            generalize wr.drew = wd at *
            go_wp2_with (first | (at_lookup; refine wpList_lookG _ rfl _ _ 143 3 22 rfl lawIn Tryd.underlying143 (.slice none 0 0) zeroSl mb k F rfl HMD.out (.int .i64 (c : Int)) (keyN c) rfl hkey ?_; rw [hue]) | (go_at_call 84; refine HSP.out.mono ?_; rintro e w7 ⟨rfl, hw7⟩; obtain ⟨κ7, HM7⟩ := HFIN.out w7 hw7; clear hw7))
            go_roundg (on - (i + 1))
            case rel => exact ⟨i + 1, κ7, by omega, rfl, by go_num, by rw [hnx.out]; exact HM7⟩
            case measure => omega
          · have hltI : ¬ (((I c).length : Nat) : Int) < (((C'.row c).length : Nat) : Int) := by omega
            have hsp : Hid (S C' c = C') := by show _ = _; rw [HSCC.out, if_neg hlt]
            have HM7 : Hid (ClsM n wr.drew p κ2 (S C' c) ∧ Pst O0 κ w wr.drew κ2 ∧ RowC κ2 4 wr.drew 3 1 (.slice (some ⟨go, 0, none⟩) on co) on (natsV ord) ∧ InsM wr.drew mb k κ2 F I (fun c => c ∉ ord.take (i + 1))) :=
              ⟨by rw [hsp.out]; exact hQ.out.1.drew, hQ.out.2.1.drew, hQ.out.2.2.1.drew, hQ.out.2.2.2.drew.map, hQ.out.2.2.2.km, fun j hj => hQ.out.2.2.2.drew.row j ((hms.out j).1 hj).1⟩
            clear hQ hlt
            go_upto_region 14 with (fail)
            go_still_tail 12, (by kernel_rfl)
            change wpList _ _ _ _ _ wr.drew
            generalize wr.drew = wd at *
            go_wp2_with fail
            go_roundg (on - (i + 1))
            case rel => exact ⟨i + 1, κ2, by omega, rfl, by go_num, by rw [hnx.out]; exact HM7⟩
            case measure => omega
        · have hie : i = on := by omega
          have hfo : ord.take i = ord := List.take_of_length_le (by rw [hie, HON.out]; exact Nat.le_refl _)
          rw [hfo] at hQ
          clear hie hfo
          go_wp2_with fail
          go_end0
          refine ⟨rfl, fun b => if κ2 b % 2 = 0 then 0 else κ2 b, ?_, ?_, fun b _ hb => ?_⟩
          · rw [HBY.out]
            exact hQ.out.1.recol fun b _ ho _ => by show (if _ then _ else _) = _; rw [if_neg (by omega)]
          · refine hQ.out.2.1.recol fun b _ hb => ?_
            unfold O0 at hb
            show (if _ then _ else _) = _
            rw [hb]
            rfl
          · change (if _ then _ else _) % 2 = 0 at hb
            show (if _ then _ else _) = _
            split at hb
            · rename_i h; rw [if_pos h]
            · rename_i h; exact absurd hb h
end Go.Proofs.YthhfmcikfdagiaaDoor

/-
  The program's look at a pair of states.
-/
namespace Go.Proofs.YthhfmcikfdagiaaDoor
open Go.RowKit
namespace Au
theorem row_few {n : Nat} {c : Int} {l : List Arc} (h : Row n c l) : (l.length : Int) ≤ max c 0 := by
  have hk : ∀ k (hk : k < l.length), (k : Int) ≤ l[k].lo := by
    intro k
    induction k with
    | zero => intro hk; exact (h.1 0 hk).1
    | succ k ih =>
      intro hk
      have := ih (by omega)
      have := h.1 k (by omega)
      have := h.2 k hk
      omega
  by_cases h0 : l.length = 0
  · omega
  · have := hk (l.length - 1) (by omega)
    have := h.1 (l.length - 1) (by omega)
    omega
end Au
end Go.Proofs.YthhfmcikfdagiaaDoor

/-
  The program's look at a set of loose states: the walk.
-/
namespace Go.Proofs.YthhfmcikfdagiaaDoor
open Go.RowKit

theorem Tryd.infoAs : (Tryd.prog.info? 40).map (fun i => (i.zero, i.size, i.bytes)) = some (some (.slice none 0 0), 1, 24) := by kernel_rfl
theorem run_make_rows (n : Nat) (hn : n * 24 ≤ 281474976710656) : ∀ w, (Instr.makeSlice 78 (.int .i64 0) (.int .i64 (n : Int))).run Tryd.prog w = .ok (.slice (some ⟨w.heap.size, 0, none⟩) 0 n) (w.alloc (.cells (madeCells #[.slice none 0 0] n) 40)) := by
  intro w
  obtain ⟨i, hi, hz0, hz1, hz2⟩ := info_parts Tryd.infoAs
  have hr := run_make (P := Tryd.prog) w 78 40 i (.slice none 0 0) Tryd.underlying78 hi hz0 .i64 .i64 0 (n : Int) (by omega) (by omega) (by rw [hz2]; omega) (by omega)
  simp only [Int.toNat_natCast, hz1, Nat.mul_one] at hr
  exact hr
/-- The rows of a set's states, while they are put together. -/
structure Rw (F : Nat → Prop) (w0 w : World) (sg m : Nat) (f : Nat → Int) (κ : Nat → Nat) (v : Value) (X : List Value) (L : List (List Au.Arc)) : Prop where
  row : RowC κ 1 w 40 1 v X.length X
  len : X.length = L.length
  each : ∀ j (h : j < X.length) (h2 : j < L.length), ArcS F w0 X[j] L[j]
  below : Below w0.heap.size w0 w
  set : RowI w sg m f
  col : κ sg = 2
  lo : LoB κ w w0.heap.size
theorem Rw.start (F : Nat → Prop) (w0 w : World) (sg m : Nat) (f : Nat → Int) (hs : RowI w sg m f) (hb : Below w0.heap.size w0 w) (hg : w0.heap.size ≤ sg) (hm : m ≤ 1099511627776) : Rw F w0 (w.alloc (.cells (madeCells #[.slice none 0 0] m) 40)) sg m f (fun k => if k = sg then 2 else if k = w.heap.size then 1 else 0) (.slice (some ⟨w.heap.size, 0, none⟩) 0 m) [] [] := by
  have hl : sg < w.heap.size := World.rowIs.lt hs
  refine ⟨⟨⟨rfl, .inr ⟨w.heap.size, m, madeCells #[.slice none 0 0] m, rfl, Nat.zero_le _, Go.Deep.blk_alloc_new _ _, Nat.zero_le _, ?_, by simp [madeCells], rfl⟩⟩, fun b hb => ?_⟩, rfl, fun j h _ => by simp at h, hb.alloc hb.size _, World.rowIs.alloc hs _, if_pos rfl, fun k _ hc => ?_⟩
  · unfold maxLen; omega
  · have : b = w.heap.size := by simpa [Value.ownBlock] using hb.symm
    rw [this, if_neg (by omega), if_pos rfl]
  · have := hb.size
    split at hc
    · omega
    · split at hc <;> omega
theorem Rw.push {F : Nat → Prop} {w0 w w' : World} {sg m g cp : Nat} {f : Nat → Int} {κ : Nat → Nat} {v va : Value} {X : List Value} {L : List (List Au.Arc)} {l : List Au.Arc} (h : Rw F w0 w sg m f κ v X L) (ha : ArcS F w0 va l)
    (hr : RowC (paint κ w.heap.size 1) 1 w' 40 1 (.slice (some ⟨g, 0, none⟩) (X.length + 1) cp) (X.length + 1) (X ++ [va])) (hs : Step κ 1 w w' (paint κ w.heap.size 1)) : Rw F w0 w' sg m f (paint κ w.heap.size 1) (.slice (some ⟨g, 0, none⟩) (X.length + 1) cp) (X ++ [va]) (L ++ [l]) := by
  have hl := h.len
  have hsl : sg < w.heap.size := World.rowIs.lt h.set
  refine ⟨?_, by simp [hl], fun j hj hj2 => ?_, hs.below h.lo (by decide) h.below h.below.size, World.rowIs.of_block h.set (hs.block sg hsl (by rw [h.col]; decide)), by rw [hs.col sg hsl, h.col], h.lo.step hs h.below.size⟩
  · rw [List.length_append]
    exact hr
  · by_cases e : j < X.length
    · rw [List.getElem_append_left e, List.getElem_append_left (by omega)]
      exact h.each j e (by omega)
    · have e' : j = X.length := by simp at hj; omega
      subst e'
      simp only [List.getElem_append_right (Nat.le_refl _), Nat.sub_self, List.getElem_cons_zero]
      have : (L ++ [l])[X.length] = l := by simp only [hl, List.getElem_append_right (Nat.le_refl _), Nat.sub_self, List.getElem_cons_zero]
      rw [this]
      exact ha
theorem Rw.rows {F : Nat → Prop} {w0 w : World} {sg m : Nat} {f : Nat → Int} {κ : Nat → Nat} {v : Value} {X : List Value} {L : List (List Au.Arc)} (h : Rw F w0 w sg m f κ v X L) : RowsS (fun g => F g ∨ w0.heap.size ≤ g) w v L := by
  obtain ⟨a, cap, h1, h2, h3, h4⟩ := h.row.form
  have hl := h.len
  rw [hl] at h1 h2
  refine ⟨a, cap, h1, h2, h3, fun h0 => ?_⟩
  obtain ⟨g, h5, h6, h7, _, h8⟩ := h4 (by omega)
  refine ⟨g, 0, h5, h6, .inr (h.lo g h6 (by rw [h7]; decide)), fun j hj => ?_⟩
  have e := h.each j (by omega) hj
  refine ⟨X[j]'(by omega), ?_, (e.below h.below).wide fun g _ hg => .inl hg⟩
  rw [Nat.zero_add]
  exact h8 j _ (List.getElem?_eq_getElem (by omega))
theorem StrS.wide {F G : Nat → Prop} {w : World} {v : Value} {L : List Au.Strch} (h : StrS F w v L) (hm : ∀ g, g < w.heap.size → F g → G g) : StrS G w v L := by
  obtain ⟨a, cap, h1, h2, h3, h4⟩ := h
  refine ⟨a, cap, h1, h2, h3, fun h0 => ?_⟩
  obtain ⟨g, o, h5, h6, h7, h8⟩ := h4 h0
  refine ⟨g, o, h5, h6, hm g h6 h7, fun j hj => ?_⟩
  obtain ⟨b1, b2, va, a2, a3⟩ := h8 j hj
  exact ⟨b1, b2, va, a2, a3.wide hm⟩
/-- The leads of a set, while they are told. -/
structure Lk (w5 w : World) (bi n : Nat) (κ : Nat → Nat) (v : Value) (T : List (Au.Trail ByteArray)) : Prop where
  row : RowC κ 1 w 72 3 v T.length (ldsV T)
  kept : KeptF (fun b => b = bi) w5 w
  lo : ∀ k, k < w5.heap.size → κ k ≠ 1
  brow : w.rowIs bi 4 n (fun _ => .bool false)
theorem Lk.text {w5 w w' : World} {bi n : Nat} {κ : Nat → Nat} {v : Value} {T : List (Au.Trail ByteArray)} (h : Lk w5 w bi n κ v T) (hbi : bi < w5.heap.size) (hk : KeptF (fun b => b = bi) w w') (hb : w'.rowIs bi 4 n (fun _ => .bool false)) : Lk w5 w' bi n κ v T :=
  ⟨⟨ownsRow_keep h.row.own fun k hk' => hk.block k (h.row.lt k hk').1 fun e => h.lo bi hbi (by rw [← e]; exact (h.row.lt k hk').2), h.row.col⟩, h.kept.trans hk, h.lo, hb⟩
theorem Lk.push {w5 w w' : World} {bi n g cp : Nat} {κ : Nat → Nat} {v : Value} {T : List (Au.Trail ByteArray)} {x : Au.Trail ByteArray} (h : Lk w5 w bi n κ v T) (hbi : bi < w5.heap.size)
    (hr : RowC (paint κ w.heap.size 1) 1 w' 72 3 (.slice (some ⟨g, 0, none⟩) (T.length + 1) cp) (T.length + 1) (ldsV T ++ [.int .i64 (x.lo : Int), .int .i64 (x.hi : Int), .string x.to])) (hs : Step κ 1 w w' (paint κ w.heap.size 1)) : Lk w5 w' bi n (paint κ w.heap.size 1) (.slice (some ⟨g, 0, none⟩) (T.length + 1) cp) (T ++ [x]) := by
  refine ⟨?_, ⟨hs.os.trans h.kept.os, hs.tape.trans h.kept.tape, hs.output.trans h.kept.output, Nat.le_trans h.kept.size hs.size, fun b hb hbi2 => (hs.block b (Nat.lt_of_lt_of_le hb h.kept.size) (h.lo b hb)).trans (h.kept.block b hb hbi2)⟩, fun k hk => ?_, h.brow.of_block (hs.block bi h.brow.lt (h.lo bi hbi))⟩
  · rw [← ldsV_snoc, List.length_append]
    exact hr
  · rw [paint_old _ _ _ _ (Nat.lt_of_lt_of_le hk h.kept.size)]
    exact h.lo k hk
theorem Lk.alloc {w5 w : World} {bi n : Nat} {κ : Nat → Nat} {v : Value} {T : List (Au.Trail ByteArray)} (h : Lk w5 w bi n κ v T) (hbi : bi < w5.heap.size) (o : Obj) : Lk w5 (w.alloc o) bi n κ v T :=
  h.text hbi (KeptF.of_below ((Below.refl _ _).alloc (Nat.le_refl _) _)) (h.brow.alloc _)
theorem Lk.drew {w5 w : World} {bi n : Nat} {κ : Nat → Nat} {v : Value} {T : List (Au.Trail ByteArray)} (h : Lk w5 w bi n κ v T) (hbi : bi < w5.heap.size) : Lk w5 w.drew bi n κ v T :=
  h.text hbi (KeptF.drew (KeptF.refl _ _)) h.brow.drew
/-- The leads that are told of stretches. -/
noncomputable def ldOf (d : List Au.Lo) (g : Au.Strch) : Au.Trail ByteArray := ⟨g.lo, g.hi, encS (Au.toSet d g.to)⟩
theorem nat_back {l : List Int} (h : ∀ x ∈ l, 0 ≤ x) : (l.map Int.toNat).map (fun (i : Nat) => (i : Int)) = l := by
  induction l with
  | nil => rfl
  | cons x r ih =>
    rw [List.map_cons, List.map_cons, ih fun y hy => h y (List.mem_cons_of_mem _ hy)]
    have := h x (List.mem_cons_self ..)
    congr 1
    omega

set_option maxRecDepth 100000 in
set_option maxHeartbeats 4000000 in
theorem look_any (w : World) (p bi n : Nat) (vst : Value) (d : List Au.Lo) (S : List Bool) (hdn : d.length = n) (hp : w.heap[p]? = some (.cells #[vst, .slice (some ⟨bi, 0, none⟩) n n] 50 (0, 0))) (hb : w.rowIs bi 4 n (fun _ => .bool false))
    (hst : LoS (fun g => g ≠ bi) w vst d) (hmay : Au.May d) (hS : S.length = n) (hn : n ≤ 1073741824) (hbig : (Au.rowsOf d S).flatten.length ≤ 1099511627776) :
    Calls Tryd.prog 21 #[.pointer (some ⟨p, 0, none⟩), .string (encS S)] w fun e w' => ∃ v Z, e = .returned (.tuple #[.bool (Au.ends d S), v]) ∧ Au.Cut (Au.rowsOf d S).flatten 0 Z ∧ LdsS (fun g => w.heap.size ≤ g) w' v (Z.map (ldOf d)) ∧ KeptF (fun b => b = bi) w w' ∧ w'.rowIs bi 4 n (fun _ => .bool false) := by
  have hpb : p ≠ bi := fun e => by
    obtain ⟨c, h1, _⟩ := hb
    rw [← e, hp] at h1
    cases h1
  have lp : p < w.heap.size := (Array.getElem?_eq_some_iff.1 hp).1
  have lb : bi < w.heap.size := hb.lt
  obtain ⟨xs, hxs⟩ : ∃ xs, xs = (Au.idx S).map fun (i : Nat) => (i : Int) := ⟨_, rfl⟩
  have hml : (Au.idx S).length ≤ n := by rw [← hS]; exact Nat.le_trans (List.length_filter_le ..) (by simp)
  obtain ⟨m, hm⟩ : ∃ m, m = (Au.idx S).length := ⟨_, rfl⟩
  have hxl : xs.length = m := by rw [hxs, List.length_map, hm]
  have hm2 : m ≤ 1073741824 := by omega
  have hwf : Wf xs := by rw [hxs]; exact nat_wf fun x hx => by have := Au.idx_lt S x hx; omega
  have HNO := Lib.hid (numbersOf_any w (dl 0 xs) (dl_wf _ _) (by rw [dl_length]; omega))
  have henc : encS S = encI (dl 0 xs) := by rw [hxs]; rfl
  have HSU : Hid (∀ W v, NumS (fun g => w.heap.size ≤ g) W v (dl 0 xs) → Calls Tryd.prog 37 #[v] W fun e w' => e = .returned (.slice (some ⟨W.heap.size, 0, none⟩) m m) ∧ RowI w' W.heap.size m (fun j => xs.getD j 0) ∧ Below W.heap.size W w') := fun W v h => by
    have := sums_any W v (dl 0 xs) _ h (by rw [dl_length]; omega)
    unfold NewI at this
    rw [sm_dl _ _ hwf, hxl] at this
    exact this
  have hmk := run_make_rows m (by omega)
  have HSTR : Hid (∀ W v, RowsS (fun g => g ≠ bi ∨ w.heap.size ≤ g) W v (Au.rowsOf d S) → Calls Tryd.prog 39 #[v] W fun e w' => ∃ u Z, e = .returned u ∧ Au.Cut (Au.rowsOf d S).flatten 0 Z ∧ StrS (fun g => W.heap.size ≤ g) w' u Z ∧ Below W.heap.size W w') := fun W v h => stretches_any _ W v _ h (Au.rows_byte hmay S) hbig
  have HHI := Lib.hid (fun c => Au.hits_in hmay S c)
  have HTX : Hid (∀ W vt tz, KeptF (fun b => b = bi) w W → W.rowIs bi 4 n (fun _ => .bool false) → NumS (fun g => g ≠ bi) W vt tz → (∀ x ∈ tz, 0 ≤ x ∧ x < d.length) → tz ≠ [] → Calls Tryd.prog 20 #[.pointer (some ⟨p, 0, none⟩), vt] W fun e w' => e = .returned (.string (encS (Au.toSet d tz))) ∧ KeptF (fun b => b = bi) W w' ∧ w'.rowIs bi 4 n (fun _ => .bool false)) := fun W vt tz hk hr hnu hto h0 => by
    have h := textOf_any W p bi n vst d vt (tz.map Int.toNat) hdn ((hk.block p lp hpb).trans hp) hr (hst.keep hk.size fun g hg hl => hk.block g hl hg) (by rw [nat_back fun x hx => (hto x hx).1]; exact hnu) (fun x hx => by
      obtain ⟨y, hy, rfl⟩ := List.mem_map.1 hx
      have := hto y hy
      omega) (fun e => h0 (by simpa using e)) hmay hn
    unfold Au.toSet
    rw [hdn]
    exact h
  have HLO := Lib.hid hst
  have HP := Lib.hid hp
  have HDN := Lib.hid hdn
  have HMM := Lib.hid hm
  have HIL : Hid (∀ i ∈ Au.idx S, i < n) := fun i hi => by rw [← hS]; exact Au.idx_lt S i hi
  have HXG : Hid (∀ k (h : k < (Au.idx S).length), xs.getD k 0 = ((Au.idx S)[k] : Int)) := fun k h => by rw [hxs]; simp [List.getD, h]
  have HEN := Lib.hid (Au.ends_idx d S)
  have HPB := Lib.hid hpb
  have HB0 := Lib.hid hb
  rw [henc]
  clear henc hxs hwf hst hp hb hdn hmay hbig hS hml hpb hm hxl
  go_enter Tryd.func21, Tryd.ntmps21
  go_wp2_with (first | (go_at_call 38; refine HNO.out.mono ?_; rintro e w1 ⟨v1, rfl, h1, hb1⟩; have HS1 := Lib.hid (HSU.out w1 v1 h1); have HB1 := Lib.hid hb1; clear h1 hb1) | (go_at_call 37; refine HS1.out.mono ?_; rintro e w2 ⟨rfl, h2, hb2⟩; have HB2 : Hid (Below w.heap.size w w2) := chain HB1.out hb2; have HR2 : Hid (Rw (fun g => g ≠ bi) w _ w1.heap.size m _ _ (.slice (some ⟨w2.heap.size, 0, none⟩) 0 m) [] []) := Rw.start (fun g => g ≠ bi) w w2 w1.heap.size m _ h2 HB2.out HB1.out.size (by omega); clear hb2 h2))
  go_loopg [4, 7, 20] m (fun gg v4 v7 v20 wx => ∃ (k : Nat) (X : List Value) (κ : Nat → Nat), k ≤ m ∧ gg = m - k ∧ v4 = .bool (((Au.idx S).take k).any (Au.finOf d)) ∧ v20 = .int .i64 k ∧ Hid (X.length = k) ∧ Hid (Rw (fun g => g ≠ bi) w wx w1.heap.size m (fun j => xs.getD j 0) κ v7 X ((Au.rowsOf d S).take k)))
  case atStart => exact ⟨0, [], _, Nat.zero_le _, rfl, rfl, rfl, rfl, HR2⟩
  case round =>
    clear HR2 HB2 hmk HS1
    obtain ⟨k, X, κ, hk, rfl, rfl, rfl, hXk, hR⟩ := hrel
    by_cases hkm : k < m
    · have j1 : (k : Int) < (m : Int) := by omega
      have hki : k < (Au.idx S).length := by rw [← HMM.out]; exact hkm
      have e0 : wr.cell? ⟨w1.heap.size, k, none⟩ = some (.int .i64 ((Au.idx S)[k] : Int)) := (World.rowIs.cell hR.out.set hkm).trans (congrArg (fun x => some (Value.int .i64 x)) (HXG.out k hki))
      have hin : (Au.idx S)[k] < n := HIL.out _ (List.getElem_mem hki)
      have hid : (Au.idx S)[k] < d.length := by rw [HDN.out]; exact hin
      have h2 : (((Au.idx S)[k] : Nat) : Int) < (n : Int) := by omega
      obtain ⟨ad, cd, hvd, hd1, hd2, hd3⟩ := HLO.out
      obtain ⟨gd, od, rfl, hgd, hgdb, hdc⟩ := hd3 (by omega)
      obtain ⟨f1, ⟨va, f2, f3⟩, f4⟩ := hdc _ hid
      have hblk := hR.out.below.block gd hgd
      have g1 := (cell_same (a := ⟨gd, od + (Au.idx S)[k] * 3, none⟩) hblk).trans f1
      have g2 := (cell_same (a := ⟨gd, od + (Au.idx S)[k] * 3 + 1, none⟩) hblk).trans f2
      have hp1 := (cell_same (a := ⟨p, 0, none⟩) (hR.out.below.block p lp)).trans (show w.cell? ⟨p, 0, none⟩ = some vst by simp [World.cell?, HP.out])
      have hfin : Hid (Au.finOf d (Au.idx S)[k] = d[(Au.idx S)[k]].fin) := by
        show _ = _
        unfold Au.finOf
        rw [List.getElem?_eq_getElem hid]
        rfl
      have hnext : Hid (((Au.idx S).take (k + 1)).any (Au.finOf d) = (((Au.idx S).take k).any (Au.finOf d) || d[(Au.idx S)[k]].fin)) := by
        show _ = _
        rw [Au.any_take _ _ _ hki, hfin.out]
      have hrow1 : Hid ((Au.rowsOf d S).take (k + 1) = (Au.rowsOf d S).take k ++ [d[(Au.idx S)[k]].arcs]) := by
        show _ = _
        unfold Au.rowsOf
        rw [← List.map_take, List.take_succ_eq_append_getElem hki, List.map_append, List.map_take]
        simp only [List.map_cons, List.map_nil, Au.rowOf, List.getElem?_eq_getElem hid]
        rfl
      have HA := Lib.hid f3
      obtain ⟨aa, ca, rfl, _, _, _⟩ := f3
      have HPU := Lib.hid (fun g cp w3 h1 h2 => hR.out.push (g := g) (cp := cp) (w' := w3) HA.out h1 h2)
      have hrw := Lib.hid hR.out.row
      rw [HDN.out] at hvd
      subst hvd
      rw [hXk.out] at HPU hrw
      have hX1 : Hid (∀ u : Value, (X ++ [u]).length = k + 1) := fun u => by rw [List.length_append, hXk.out]; rfl
      generalize ((Au.idx S).take k).any (Au.finOf d) = fb at *
      generalize d[(Au.idx S)[k]].fin = fx at *
      generalize (Au.idx S)[k] = x at *
      generalize d[x].arcs = la at *
      clear hR f1 f2 hdc hd3 hfin hki hblk
      obtain ⟨ii, hi, hz0, hz1, hz2⟩ := info_parts Tryd.infoAs
      cases fb
      all_goals
        go_wp2_with (at_builtin; refine wpList_pushC rfl _ _ 78 40 rfl ii _ 1 24 Tryd.underlying78 hi hz0 hz1 hz2 rfl (by decide) κ 1 _ k X rfl hrw.out [.slice aa la.length ca] rfl (one_of rfl) rfl (by omega) (by omega) ?_; intro g3 cp3 w4 hr4 hs4; have HQ := Lib.hid (HPU.out g3 cp3 w4 hr4 hs4); clear hr4 hs4)
        go_roundg (m - (k + 1))
        case rel => exact ⟨k + 1, _, _, by omega, rfl, by rw [hnext.out]; rfl, by go_num, hX1.out _, by rw [hrow1.out]; exact HQ.out⟩
        case measure => omega
    · obtain rfl : k = m := by omega
      have hfull : (Au.idx S).take k = Au.idx S := List.take_of_length_le (by rw [← HMM.out]; exact Nat.le_refl _)
      have hfull2 : (Au.rowsOf d S).take k = Au.rowsOf d S := List.take_of_length_le (by unfold Au.rowsOf; rw [List.length_map, ← HMM.out]; exact Nat.le_refl _)
      rw [hfull2] at hR
      rw [hfull, ← HEN.out]
      have HS5 := Lib.hid (HSTR.out wr _ hR.out.rows)
      have HBr := Lib.hid hR.out.below
      obtain ⟨asl, csl, hvs, _⟩ := hR.out.row.form
      subst hvs
      rw [hXk.out] at HS5 ⊢
      clear hR hfull hfull2

      go_wp2_with (go_at_call 39; refine HS5.out.mono ?_; rintro e w5 ⟨u, Z, rfl, hcut, hstr, hb5⟩; have HCUT := Lib.hid hcut; have HB5 : Hid (Below w.heap.size w w5) := chain HBr.out hb5; have HSL : Hid (StrS (fun g => g ≠ bi) w5 u Z) := hstr.wide (fun g _ hg e => by have := HBr.out.size; omega); clear hcut hstr hb5)
      have hZl : Z.length ≤ 256 := by have := Au.Cut.few (Nat.zero_le _) HCUT.out; omega
      have lb5 : bi < w5.heap.size := Nat.lt_of_lt_of_le lb HB5.out.size
      obtain ⟨az, cz, rfl, hz1, hz2, hz3⟩ := HSL.out
      obtain ⟨z, hz⟩ : ∃ z, Z.length = z := ⟨_, rfl⟩
      rw [hz] at hZl hz1
      simp only [hz]
      have HZ := Lib.hid hz
      have HL0 : Hid (Lk w5 w5 bi n (fun _ => 0) (.slice none 0 0) []) := ⟨RowC.nil _ _ _ _ _, KeptF.refl _ _, fun _ _ => by decide, HB0.out.of_block (HB5.out.block bi lb)⟩
      have HCE := Lib.hid hz3
      clear hz hz3
      go_wp2_with fail
      go_loopg [5, 50] z (fun gg v5 v50 wx => ∃ (k : Nat) (κ : Nat → Nat), k ≤ z ∧ gg = z - k ∧ v50 = .int .i64 k ∧ Hid (Lk w5 wx bi n κ v5 ((Z.take k).map (ldOf d))))
      case atStart => exact ⟨0, _, Nat.zero_le _, rfl, rfl, HL0⟩
      case round =>
        clear HL0
        obtain ⟨k, κ, hk, rfl, rfl, hL⟩ := hrel
        by_cases hkm : k < z
        · have j1 : (k : Int) < (z : Int) := by omega
          have hki : k < Z.length := by rw [HZ.out]; exact hkm
          obtain ⟨gz, oz, rfl, hgz, hgb, hcz⟩ := HCE.out (by omega)
          obtain ⟨c1, c2, vt, c3, c4⟩ := hcz k hki
          have hblk := hL.out.kept.block gz hgz hgb
          have e1 := (cell_same (a := ⟨gz, oz + k * 3, none⟩) hblk).trans c1
          have e2 := (cell_same (a := ⟨gz, oz + k * 3 + 1, none⟩) hblk).trans c2
          have e3 := (cell_same (a := ⟨gz, oz + k * 3 + 2, none⟩) hblk).trans c3
          obtain ⟨_, _, q3, q4, q5⟩ := HCUT.out.each _ (List.getElem_mem hki)
          have hnx : Hid ((Z.take (k + 1)).map (ldOf d) = (Z.take k).map (ldOf d) ++ [ldOf d Z[k]]) := by
            show _ = _
            rw [List.take_succ_eq_append_getElem hki, List.map_append]
            rfl
          have hTl : ((Z.take k).map (ldOf d)).length = k := by simp; omega
          have hL1 := Lib.hid ((hL.out.alloc lb5 (.cells #[.int .i64 (Z[k].lo : Int), .int .i64 (Z[k].hi : Int), vt] 82)).drew lb5)
          have HT := Lib.hid (HTX.out _ vt Z[k].to ((KeptF.of_below (HB5.out)).trans hL1.out.kept) hL1.out.brow ((c4.keep hL1.out.kept.size fun g hg hl => hL1.out.kept.block g hl hg)) (fun x hx => HHI.out Z[k].lo x (by rw [q5 _ (Nat.le_refl _) (by omega)]; exact hx)) q4)
          have hld : Hid (ldOf d Z[k] = ⟨Z[k].lo, Z[k].hi, encS (Au.toSet d Z[k].to)⟩) := rfl
          have HLS := Lib.hid (fun w' h1 h2 => hL1.out.text (w' := w') lb5 h1 h2)
          obtain ⟨av, vl, cv, hvt⟩ : ∃ av vl cv, vt = .slice av vl cv := by obtain ⟨a, c, h, _⟩ := c4; exact ⟨_, _, _, h⟩
          subst hvt
          clear c4
          have lbr : bi < wr.heap.size := Nat.lt_of_lt_of_le lb5 hL.out.kept.size
          clear hL hcz c1 c2 c3 hblk q5 q4
          generalize ldOf d Z[k] = ld at *
          generalize encS (Au.toSet d Z[k].to) = txt at *
          generalize (Z.take k).map (ldOf d) = T at *
          generalize Z[k].lo = zlo at *
          generalize Z[k].hi = zhi at *
          have d0 := cell_at wr [.int .i64 (zlo : Int), .int .i64 (zhi : Int), .slice av vl cv] 82 0 _ rfl
          have d1 := cell_at wr [.int .i64 (zlo : Int), .int .i64 (zhi : Int), .slice av vl cv] 82 1 _ rfl
          have d2 := cell_at wr [.int .i64 (zlo : Int), .int .i64 (zhi : Int), .slice av vl cv] 82 2 _ rfl
          have hW : wr.heap.size < (wr.alloc (.cells #[.int .i64 (zlo : Int), .int .i64 (zhi : Int), .slice av vl cv] 82)).heap.size := by simp
          have hqb : wr.heap.size ≠ bi := by omega
          go_wp2_with fail
          generalize wr.alloc (.cells #[.int .i64 (zlo : Int), .int .i64 (zhi : Int), .slice av vl cv] 82) = W at *
          generalize wr.heap.size = q at *
          have d0 : W.drew.cell? ⟨q, 0, none⟩ = _ := d0
          have d1 : W.drew.cell? ⟨q, 1, none⟩ = _ := d1
          have d2 : W.drew.cell? ⟨q, 2, none⟩ = _ := d2
          have hW : q < W.drew.heap.size := hW
          have HDC : Hid (∀ w', KeptF (fun b => b = bi) W.drew w' → w'.cell? ⟨q, 0, none⟩ = some (.int .i64 (zlo : Int)) ∧ w'.cell? ⟨q, 1, none⟩ = some (.int .i64 (zhi : Int))) := fun w' h => ⟨(cell_same (a := ⟨q, 0, none⟩) (h.block q hW hqb)).trans d0, (cell_same (a := ⟨q, 1, none⟩) (h.block q hW hqb)).trans d1⟩
          clear e1 e2 e3
          have HPU := Lib.hid (fun w6 g cp w7 (h : Lk w5 w6 bi n κ u5 T) h1 h2 => h.push (g := g) (cp := cp) (w' := w7) (x := ⟨zlo, zhi, txt⟩) lb5 h1 h2)
          have hT1 := Lib.hid hTl
          obtain ⟨ii, hi, hz0, hz1, hz2⟩ := info_parts Tryd.infoLd
          clear hTl
          go_region_law ((first | (refine step_pushC rfl _ _ 69 72 (by rfl) ii _ 3 32 Tryd.underlying69 hi hz0 hz1 hz2 rfl (by decide) κ 1 _ T.length (ldsV T) (by rfl) HL6.out.row ((Below.refl _ _).alloc (Nat.le_refl _) _) [.int .i64 (zlo : Int), .int .i64 (zhi : Int), .string txt] rfl (one_of rfl) ⟨w6.heap.size, 0, none⟩ (new_cells w6 _ _) (by rfl) (by have := hT1.out; omega) (by have := hT1.out; omega) ?_; intro g7 cp7 w7 hr7 hs7; have HQ := Lib.hid (HPU.out w6 g7 cp7 w7 HL6.out hr7 hs7); clear hr7 hs7) | (go_simp; go_wp2_with (go_at_call 20; refine HT.out.mono ?_; rintro e w6 ⟨rfl, hk6, hb6⟩; obtain ⟨x0, x1⟩ := HDC.out w6 hk6; have HL6 := Lib.hid (HLS.out w6 hk6 hb6); clear hk6 hb6))))
          all_goals
            go_wp2_with fail
            go_roundg (z - (k + 1))
            case rel => exact ⟨k + 1, _, by omega, rfl, by go_num, by rw [hnx.out, hld.out]; exact HQ.out⟩
            case measure => omega
        · obtain rfl : k = z := by omega
          have hfz : Z.take k = Z := List.take_of_length_le (by rw [HZ.out]; exact Nat.le_refl _)
          rw [hfz] at hL
          clear HCE hfz
          go_wp2_with fail
          go_ret2
          refine ⟨_, Z, rfl, HCUT.out, hL.out.row.leads _ fun g hg hc => ?_, (KeptF.of_below HB5.out).trans hL.out.kept, hL.out.brow⟩
          have h1 := HB5.out.size
          have h2 := hL.out.lo g
          apply Classical.byContradiction
          intro h3
          exact h2 (by omega) hc
end Go.Proofs.YthhfmcikfdagiaaDoor

/-
  From where bytes lead into a class.
-/
namespace Go.Proofs.YthhfmcikfdagiaaDoor
open Go.RowKit
namespace Au
theorem backRow_len (l : List Arc) (t i : Nat) : (backRow l t i).length ≤ l.length := by
  unfold backRow
  rw [List.length_map]
  exact List.length_filter_le ..
theorem back_len {d : List St} (hr : ∀ i (h : i < d.length), Row d.length 256 d[i].arcs) (t : Nat) : (back d t).length ≤ d.length * 256 := by
  unfold back
  rw [List.flatMap_def]
  have := flat_le (L := (List.range d.length).map fun i => backRow (arcsOf d i) t i) (m := 256) fun l hl => by
    obtain ⟨i, _, rfl⟩ := List.mem_map.1 hl
    have h1 := backRow_len (arcsOf d i) t i
    have h2 := row_few (arcsOf_row hr i)
    omega
  simpa using this
theorem row_each {n : Nat} {c : Int} {l : List Arc} (h : Row n c l) : ∀ a ∈ l, 0 ≤ a.lo ∧ a.lo ≤ a.hi ∧ a.hi < c ∧ 0 ≤ a.to ∧ a.to < n := fun a ha => by
  obtain ⟨k, hk, rfl⟩ := List.getElem_of_mem ha
  exact h.1 k hk
theorem back_byte {d : List St} (hr : ∀ i (h : i < d.length), Row d.length 256 d[i].arcs) (t : Nat) : ∀ a ∈ back d t, byteArc a := fun a ha => by
  unfold back at ha
  obtain ⟨i, _, hb⟩ := List.mem_flatMap.1 ha
  unfold backRow at hb
  obtain ⟨x, hx, rfl⟩ := List.mem_map.1 hb
  have := row_each (arcsOf_row hr i) x (List.mem_filter.1 hx).1
  unfold byteArc
  dsimp only
  omega
end Au
/-- The rows picked so far. -/
structure Wr8 (F : Nat → Prop) (w0 w : World) (κ : Nat → Nat) (v : Value) (X : List Value) (L : List (List Au.Arc)) : Prop where
  row : RowC κ 1 w 40 1 v X.length X
  len : X.length = L.length
  each : ∀ j (h : j < X.length) (h2 : j < L.length), ArcS F w0 X[j] L[j]
  below : Below w0.heap.size w0 w
  lo : LoB κ w w0.heap.size
theorem Wr8.start (F : Nat → Prop) (w0 : World) (m : Nat) (hm : m ≤ 1099511627776) : Wr8 F w0 (w0.alloc (.cells (madeCells #[.slice none 0 0] m) 40)) (fun k => if k = w0.heap.size then 1 else 0) (.slice (some ⟨w0.heap.size, 0, none⟩) 0 m) [] [] := by
  refine ⟨⟨⟨rfl, .inr ⟨w0.heap.size, m, _, rfl, Nat.zero_le _, Go.Deep.blk_alloc_new _ _, Nat.zero_le _, by unfold maxLen; omega, ?_, by simp⟩⟩, fun b hb => ?_⟩, rfl, fun j h => by simp at h, (Below.refl _ _).alloc (Nat.le_refl _) _, fun k _ hc => ?_⟩
  · simp [madeCells]
  · simp [Value.ownBlock] at hb
    subst hb
    exact if_pos rfl
  · change (if _ then _ else _) ≠ 0 at hc
    split at hc
    · omega
    · exact absurd rfl hc
theorem Wr8.push {F : Nat → Prop} {w0 w w' : World} {g cp : Nat} {κ : Nat → Nat} {v va : Value} {X : List Value} {L : List (List Au.Arc)} {l : List Au.Arc} (h : Wr8 F w0 w κ v X L) (ha : ArcS F w0 va l)
    (hr : RowC (paint κ w.heap.size 1) 1 w' 40 1 (.slice (some ⟨g, 0, none⟩) (X.length + 1) cp) (X.length + 1) (X ++ [va])) (hs : Step κ 1 w w' (paint κ w.heap.size 1)) : Wr8 F w0 w' (paint κ w.heap.size 1) (.slice (some ⟨g, 0, none⟩) (X.length + 1) cp) (X ++ [va]) (L ++ [l]) := by
  refine ⟨by rw [List.length_append]; exact hr, by simp [h.len], fun j hj hj2 => ?_, hs.below h.lo (by decide) h.below h.below.size, h.lo.step hs h.below.size⟩
  by_cases e : j < X.length
  · rw [List.getElem_append_left e, List.getElem_append_left (by rw [← h.len]; exact e)]
    exact h.each j e (by rw [← h.len]; exact e)
  · have e' : j = X.length := by simp at hj; omega
    subst e'
    have := h.len
    simp only [List.getElem_append_right (Nat.le_refl _), Nat.sub_self, List.getElem_cons_zero]
    simp only [this, List.getElem_append_right (Nat.le_refl _), Nat.sub_self, List.getElem_cons_zero]
    exact ha
theorem Wr8.rows {F : Nat → Prop} {w0 w : World} {κ : Nat → Nat} {v : Value} {X : List Value} {L : List (List Au.Arc)} (h : Wr8 F w0 w κ v X L) : RowsS (fun g => F g ∨ w0.heap.size ≤ g) w v L := by
  obtain ⟨a, cap, h1, h2, h3, h4⟩ := h.row.form
  rw [h.len] at h1 h2 h4
  refine ⟨a, cap, h1, h2, h3, fun h0 => ?_⟩
  obtain ⟨g, h5, h6, h7, _, h8⟩ := h4 h0
  refine ⟨g, 0, h5, h6, .inr (h.lo g h6 (by rw [h7]; decide)), fun j hj => ?_⟩
  have hjX : j < X.length := by rw [h.len]; exact hj
  refine ⟨X[j], by rw [Nat.zero_add]; exact h8 j _ (List.getElem?_eq_getElem hjX), ?_⟩
  exact ((h.each j hjX hj).below h.below).wide fun g _ hg => .inl hg

set_option maxRecDepth 100000 in
set_option maxHeartbeats 4000000 in
theorem whence_any (d : List Au.St) (w : World) (p : Nat) (κ : Nat → Nat) (C : Au.Cls) (c : Nat) (F : Nat → Prop) (vb : Value) (n : Nat) (hd : d.length = n) (hf : Au.Fits d) (h : ClsM n w p κ C) (hc : c < C.mem.length) (hrow : ∀ x ∈ C.row c, x < n) (hnd : (C.row c).Nodup)
    (hb : RowsS F w vb ((List.range n).map (Au.back d))) (hm : C.mem.length ≤ 1099511627776) :
    Calls Tryd.prog 61 #[.pointer (some ⟨p, 0, none⟩), .int .i64 (c : Int), vb] w fun e w' => ∃ u S, e = .returned u ∧ Au.Cut ((C.row c).flatMap (Au.back d)) 0 S ∧ StrS (fun g => w.heap.size ≤ g) w' u S ∧ Below w.heap.size w w' := by
  have hn2 : n ≤ 20000 := by have := hf.top; omega
  have hl : (C.row c).length ≤ n := by
    have := hnd.length_le_of_subset (l₂ := List.range n) fun x hx => List.mem_range.2 (hrow x hx)
    simpa using this
  obtain ⟨X, bo, ba, vm, vw, vq, hS⟩ := h
  obtain ⟨b0, b1, b2, b3, b4, b5⟩ := hS.cells
  have hcX : c < X.length := by rw [hS.lenX]; exact hc
  obtain ⟨am, cm, rfl, _, _, hm4⟩ := hS.mem.form
  obtain ⟨gm, rfl, _, _, _, hmc⟩ := hm4 (by omega)
  obtain ⟨ar, cp, hx, _, _, hr4⟩ := (hS.each _ hcX).form
  have r3 := hmc _ X[c] (List.getElem?_eq_getElem hcX)
  rw [hx] at r3
  have j3 : (c : Int) < (X.length : Int) := by omega
  obtain ⟨ln, hln⟩ : ∃ ln, (C.row c).length = ln := ⟨_, rfl⟩
  have HLN := Lib.hid hln
  rw [hln] at r3 hl hr4
  have HR : Hid (∀ W, Below w.heap.size w W → 0 < ln → ∃ g, ar = some ⟨g, 0, none⟩ ∧ ∀ j (hj : j < (C.row c).length), W.cell? ⟨g, j, none⟩ = some (.int .i64 ((C.row c)[j] : Int))) := fun W hW h0 => by
    obtain ⟨g, rfl, hg, _, _, hcc⟩ := hr4 h0
    exact ⟨g, rfl, fun j hj => (cell_same (hW.block g hg)).trans (hcc j _ (by simp [natsV, List.getElem?_eq_getElem hj]))⟩
  have hmk := run_make_rows ln (by omega)
  obtain ⟨ab, cb, rfl, _, _, hbc⟩ := hb
  rw [List.length_map, List.length_range]
  have HB : Hid (∀ W, Below w.heap.size w W → 0 < n → ∃ g o, ab = some ⟨g, o, none⟩ ∧ ∀ t, t < n → ∃ va, W.cell? ⟨g, o + t, none⟩ = some va ∧ ArcS F w va (Au.back d t)) := fun W hW h0 => by
    obtain ⟨g, o, rfl, hg, _, hcc⟩ := hbc (by simpa using h0)
    refine ⟨g, o, rfl, fun t ht => ?_⟩
    obtain ⟨va, q1, q2⟩ := hcc t (by simpa using ht)
    rw [List.getElem_map, List.getElem_range] at q2
    exact ⟨va, (cell_same (hW.block g hg)).trans q1, q2⟩
  have HSTR : Hid (∀ W v, RowsS (fun g => F g ∨ w.heap.size ≤ g) W v ((C.row c).map (Au.back d)) → Calls Tryd.prog 39 #[v] W fun e w' => ∃ u Z, e = .returned u ∧ Au.Cut ((C.row c).flatMap (Au.back d)) 0 Z ∧ StrS (fun g => W.heap.size ≤ g) w' u Z ∧ Below W.heap.size W w') := fun W v h => by
    have := stretches_any _ W v _ h (fun l hl a ha => by
      obtain ⟨t, _, rfl⟩ := List.mem_map.1 hl
      exact Au.back_byte hf.row t a ha) (by
      have := Au.flat_le (L := (C.row c).map (Au.back d)) (m := d.length * 256) fun l hl => by
        obtain ⟨t, _, rfl⟩ := List.mem_map.1 hl
        exact Au.back_len hf.row t
      rw [List.length_map, hln, hd] at this
      have h2 : ln * (n * 256) ≤ 20000 * (20000 * 256) := Nat.mul_le_mul (by omega) (Nat.mul_le_mul_right _ hn2)
      omega)
    rw [List.flatMap_def]
    exact this
  have HW0 : Hid (Wr8 F w (w.alloc (.cells (madeCells #[.slice none 0 0] ln) 40)) (fun k => if k = w.heap.size then 1 else 0) (.slice (some ⟨w.heap.size, 0, none⟩) 0 ln) [] ((C.row c).map (Au.back d) |>.take 0)) := by
    rw [List.take_zero]
    exact Wr8.start F w ln (by omega)
  have hbA : Below w.heap.size w (w.alloc (.cells (madeCells #[.slice none 0 0] ln) 40)) := (Below.refl _ _).alloc (Nat.le_refl _) _
  have d2 := (cell_same (a := ⟨p, 2, none⟩) (hbA.block p hS.plt)).trans b2
  have d3 := (cell_same (a := ⟨gm, c, none⟩) (hbA.block gm (by assumption))).trans r3
  clear hbA hmc hm4 hx hS hr4 hbc b0 b1 b3 b4 b5 hc hm hnd hln
  go_enter Tryd.func61, Tryd.ntmps61
  go_wp2_with fail
  generalize w.alloc (.cells (madeCells #[.slice none 0 0] ln) 40) = w1 at *
  go_loopg [7, 27] ln (fun gg v7 v27 wx => ∃ (k : Nat) (X : List Value) (κ : Nat → Nat), k ≤ ln ∧ gg = ln - k ∧ v27 = .int .i64 k ∧ Hid (X.length = k) ∧ Hid (Wr8 F w wx κ v7 X (((C.row c).map (Au.back d)).take k)))
  case atStart => exact ⟨0, [], _, Nat.zero_le _, rfl, rfl, rfl, HW0⟩
  case round =>
    clear HW0
    obtain ⟨k, X, κ, hk, rfl, rfl, hXk, hR⟩ := hrel
    by_cases hkn : k < ln
    · have j1 : (k : Int) < (ln : Int) := by omega
      have hkl : k < (C.row c).length := by rw [HLN.out]; exact hkn
      obtain ⟨gr, rfl, hrc⟩ := HR.out wr hR.out.below (by omega)
      have r1 := hrc k hkl
      have hxn := hrow _ (List.getElem_mem hkl)
      obtain ⟨gb, ob, rfl, hbc⟩ := HB.out wr hR.out.below (by omega)
      obtain ⟨va, r2, hA⟩ := hbc _ hxn
      have HA := Lib.hid hA
      have hnx : Hid (((C.row c).map (Au.back d)).take (k + 1) = ((C.row c).map (Au.back d)).take k ++ [Au.back d (C.row c)[k]]) := by
        show _ = _
        rw [List.take_succ_eq_append_getElem (by rw [List.length_map]; exact hkl), List.getElem_map]
      obtain ⟨aa, ca, rfl, _⟩ := hA
      have HPU := Lib.hid (fun g cp w3 h1 h2 => hR.out.push (g := g) (cp := cp) (w' := w3) HA.out h1 h2)
      have hrw := Lib.hid hR.out.row
      rw [hXk.out] at HPU hrw
      have hX1 : Hid (∀ u : Value, (X ++ [u]).length = k + 1) := fun u => by rw [List.length_append, hXk.out]; rfl
      have j2 : ((C.row c)[k] : Int) < (n : Int) := by omega
      generalize (C.row c)[k] = x at *
      generalize Au.back d x = la at *
      clear hR hrc hbc
      obtain ⟨ii, hi, hz0, hz1, hz2⟩ := info_parts Tryd.infoAs
      go_wp2_with (at_builtin; refine wpList_pushC rfl _ _ 78 40 rfl ii _ 1 24 Tryd.underlying78 hi hz0 hz1 hz2 rfl (by decide) κ 1 _ k X rfl hrw.out [.slice aa la.length ca] rfl (one_of rfl) rfl (by omega) (by omega) ?_; intro g3 cp3 w4 hr4 hs4; have HQ := Lib.hid (HPU.out g3 cp3 w4 hr4 hs4); clear hr4 hs4)
      go_roundg (ln - (k + 1))
      case rel => exact ⟨k + 1, _, _, by omega, rfl, by go_num, hX1.out _, by rw [hnx.out]; exact HQ.out⟩
      case measure => omega
    · obtain rfl : k = ln := by omega
      have hfull : ((C.row c).map (Au.back d)).take k = (C.row c).map (Au.back d) := List.take_of_length_le (by rw [List.length_map, HLN.out]; exact Nat.le_refl _)
      rw [hfull] at hR
      have HS5 := Lib.hid (HSTR.out wr _ hR.out.rows)
      have HBr := Lib.hid hR.out.below
      obtain ⟨asl, csl, hvs, _⟩ := hR.out.row.form
      subst hvs
      rw [hXk.out] at HS5 ⊢
      clear hR hfull
      go_wp2_with (go_at_call 39; refine HS5.out.mono ?_; rintro e w5 ⟨u, Z, rfl, hcut, hstr, hb5⟩; have HE := Lib.hid (And.intro hcut (And.intro (hstr.wide (G := fun g => w.heap.size ≤ g) fun g _ hg => by have := HBr.out.size; omega) (chain HBr.out hb5))); clear hcut hstr hb5)
      go_ret
      exact ⟨_, Z, rfl, HE.out⟩
end Go.Proofs.YthhfmcikfdagiaaDoor

/-
  The program's classesOf, plainly: how one class's stretches split the others.
-/
namespace Go.Proofs.YthhfmcikfdagiaaDoor
open Go.RowKit
namespace Au
def inS (S : List Strch) (k a : Nat) : Prop := ∃ j, k ≤ j ∧ ∃ h : j < S.length, S[j].lo ≤ a ∧ a ≤ S[j].hi
def toL (g : Strch) : List Nat := g.to.map Int.toNat
/-- The first k stretches have split. -/
structure HW (d : List St) (C0 : Cls) (c : Nat) (S : List Strch) (k : Nat) (C : Cls) : Prop where
  inv : HInv d (fun x => C0.cls x = (c : Int)) (inS S k) C
  meas : C.wq.length + C0.mem.length + 1 = C0.wq.length + C.mem.length
theorem cls_some (C : Cls) (x : Option Nat) (c : Nat) : C.cls x = (c : Int) ↔ ∃ t, x = some t ∧ C.of t = (c : Int) := by
  cases x with
  | none => 
    constructor
    · intro h
      change (-1 : Int) = _ at h
      omega
    · rintro ⟨t, h, _⟩
      cases h
  | some t => exact ⟨fun h => ⟨t, rfl, h⟩, fun ⟨s, e, h⟩ => by cases e; exact h⟩
section
variable {d : List St} {O : Option Nat → Prop} {C0 : Cls} {c : Nat} {S : List Strch}
theorem hits_iff (h0 : HInv d O (fun _ => False) C0) (b s : Nat) (hs : s < d.length) : (s : Int) ∈ hits ((C0.row c).flatMap (back d)) b ↔ C0.cls ((ofL d).step s b) = (c : Int) := by
  rw [mem_whence h0.rows, cls_some]
  constructor
  · rintro ⟨i, e, _, t, ht, hst⟩
    obtain rfl : i = s := by omega
    exact ⟨t, hst, (h0.ok.mem_row ht).2⟩
  · rintro ⟨t, hst, hc⟩
    exact ⟨s, rfl, hs, t, h0.ok.row_mem (ofL_in h0.rows hst) hc, hst⟩
theorem HW.start (h0 : HInv d O (fun _ => False) C0) {q : List Nat} (hq : C0.wq = q ++ [c]) (hS : Cut ((C0.row c).flatMap (back d)) 0 S) : HW d C0 c S 0 (C0.pop q c) := by
  refine ⟨h0.pop q c hq _ fun a s hs hR e => ?_, ?_⟩
  · have h1 := (hits_iff h0 a s hs).2 e
    obtain ⟨t, hst, _⟩ := (cls_some C0 _ c).1 e
    have ha : a < 256 := by
      apply Classical.byContradiction
      intro hn
      rw [ofL_top h0.rows s a (by omega)] at hst
      cases hst
    rw [hS.none a (Nat.zero_le _) ha fun g hg hgg => ?_] at h1
    · cases h1
    · obtain ⟨j, hj, rfl⟩ := List.getElem_of_mem hg
      exact hR ⟨j, Nat.zero_le _, hj, hgg⟩
  · show q.length + C0.mem.length + 1 = C0.wq.length + C0.mem.length
    rw [hq, List.length_append]
    simp
    omega
theorem HW.list (h0 : HInv d O (fun _ => False) C0) (hS : Cut ((C0.row c).flatMap (back d)) 0 S) {k : Nat} {C : Cls} {R : Nat → Prop} (h : HInv d (fun x => C0.cls x = (c : Int)) R C) (hk : k < S.length) :
    (toL S[k]).map (fun (i : Nat) => (i : Int)) = S[k].to ∧ (toL S[k]).Nodup ∧ (∀ s ∈ toL S[k], s < d.length ∧ 0 ≤ C.of s) ∧ (∀ s t, s < d.length → t < d.length → Eqv (ofL d) (ofL d) s t → (s ∈ toL S[k] ↔ t ∈ toL S[k])) ∧
    ∀ s a, s < d.length → S[k].lo ≤ a → a ≤ S[k].hi → (s ∈ toL S[k] ↔ C0.cls ((ofL d).step s a) = (c : Int)) := by
  obtain ⟨_, e1, e2, e3, e4⟩ := hS.each _ (List.getElem_mem hk)
  have hto : ∀ x ∈ S[k].to, ∃ i : Nat, x = (i : Int) ∧ i < d.length ∧ ∃ t ∈ C0.row c, (ofL d).step i S[k].lo = some t := fun x hx => by
    rw [← e4 _ (Nat.le_refl _) e1] at hx
    exact (mem_whence h0.rows _ _ x).1 hx
  have hmem : ∀ s, s ∈ toL S[k] ↔ (s : Int) ∈ S[k].to := fun s => by
    unfold toL
    rw [List.mem_map]
    constructor
    · rintro ⟨x, hx, rfl⟩
      obtain ⟨i, rfl, _⟩ := hto x hx
      rw [Int.toNat_natCast]
      exact hx
    · intro hx
      exact ⟨_, hx, Int.toNat_natCast s⟩
  have hiff : ∀ s a, s < d.length → S[k].lo ≤ a → a ≤ S[k].hi → (s ∈ toL S[k] ↔ C0.cls ((ofL d).step s a) = (c : Int)) := fun s a hs h1 h2 => by
    rw [hmem, ← e4 a h1 h2]
    exact hits_iff h0 a s hs
  refine ⟨?_, ?_, fun s hs => ?_, fun s t hs ht he => ?_, hiff⟩
  · unfold toL
    rw [List.map_map]
    conv => rhs; rw [← List.map_id S[k].to]
    refine List.map_congr_left fun x hx => ?_
    obtain ⟨i, rfl, _⟩ := hto x hx
    simp
  · have hnd : S[k].to.Nodup := by
      rw [← e4 _ (Nat.le_refl _) e1]
      exact whence_nodup h0.rows _ (h0.ok.nodup c) _
    unfold toL
    unfold List.Nodup at *
    rw [List.pairwise_map]
    refine hnd.imp_of_mem fun {x y} hx hy hxy => ?_
    obtain ⟨i, rfl, _⟩ := hto x hx
    obtain ⟨j, rfl, _⟩ := hto y hy
    simp only [Int.toNat_natCast]
    omega
  · obtain ⟨i, e, hi, t, ht, hst⟩ := hto _ ((hmem s).1 hs)
    obtain rfl : s = i := by omega
    refine ⟨hi, ?_⟩
    obtain ⟨htn, htc⟩ := h0.ok.mem_row ht
    have htd : ¬ Dead (ofL d) (some t) := fun hd => by
      have := (h0.dead t htn).2 hd
      omega
    have hsd : ¬ Dead (ofL d) (some s) := fun hd => htd fun w => by
      have := hd (S[k].lo :: w)
      rw [acc_cons, hst] at this
      exact this
    rcases h.lt hi with h1 | h1
    · exact absurd ((h.dead s hi).1 h1) hsd
    · exact h1.1
  · rw [hiff s _ hs (Nat.le_refl _) e1, hiff t _ ht (Nat.le_refl _) e1]
    exact h0.lead_eqv c _ s t he
theorem HW.next (h0 : HInv d O (fun _ => False) C0) (hS : Cut ((C0.row c).flatMap (back d)) 0 S) {k : Nat} {C : Cls} (h : HW d C0 c S k C) (hk : k < S.length) : HW d C0 c S (k + 1) (splitBy C (toL S[k])) := by
  obtain ⟨_, l2, l3, l4, l5⟩ := HW.list h0 hS h.inv hk
  obtain ⟨s1, s2, s3⟩ := h.inv.splitBy l2 l3 l4
  refine ⟨s1.next (fun _ => Iff.rfl) fun a ha hna s t hs ht e he => ?_, ?_⟩
  · obtain ⟨j, hj, hjl, hja⟩ := ha
    have hjk : j = k := by
      apply Classical.byContradiction
      intro hne
      exact hna ⟨j, by omega, hjl, hja⟩
    subst hjk
    have := s3 s t hs ht e he
    rw [l5 s a hs hja.1 hja.2, l5 t a ht hja.1 hja.2] at this
    exact this
  · have := h.meas
    omega
theorem HW.done {k : Nat} {C : Cls} (h : HW d C0 c S k C) (hk : S.length ≤ k) : HInv d (fun x => C0.cls x = (c : Int)) (fun _ => False) C :=
  h.inv.next (fun _ => Iff.rfl) fun a ⟨j, hj, hjl, _⟩ _ => by omega
end
noncomputable def othTo (d : List St) (i : Nat) : List Nat := (List.range i).filter (fun i => !(ofL d).fin i && aliveB d i)
theorem othTo_all (d : List St) : othTo d d.length = others d := rfl
def finTo (d : List St) (i : Nat) : List Nat := (List.range i).filter (fun i => (ofL d).fin i)
theorem finTo_all (d : List St) : finTo d d.length = finals d := rfl
theorem finTo_next (d : List St) (i : Nat) : finTo d (i + 1) = if (ofL d).fin i = true then finTo d i ++ [i] else finTo d i := finals_next d i
theorem othTo_next (d : List St) (i : Nat) : othTo d (i + 1) = if (ofL d).fin i = false ∧ aliveB d i = true then othTo d i ++ [i] else othTo d i := by
  unfold othTo
  rw [List.range_succ, List.filter_append]
  cases h1 : (ofL d).fin i <;> cases h2 : aliveB d i <;> simp [h1, h2]
theorem finTo_len (d : List St) (i : Nat) : (finTo d i).length ≤ i := by
  have := List.length_filter_le (fun i => (ofL d).fin i) (List.range i)
  rw [List.length_range] at this
  exact this
theorem othTo_len (d : List St) (i : Nat) : (othTo d i).length ≤ i := by
  have := List.length_filter_le (fun i => !(ofL d).fin i && aliveB d i) (List.range i)
  rw [List.length_range] at this
  exact this
end Au
/-- What the call's beginning left lies as it was; its blocks bear no colour. -/
structure Base (w0 w : World) (κ : Nat → Nat) : Prop where
  below : Below w0.heap.size w0 w
  old : ∀ k, k < w0.heap.size → κ k = 0
theorem Base.pst {w0 w w' : World} {κ κ' : Nat → Nat} (h : Base w0 w κ) (hs : Pst O0 κ w w' κ') : Base w0 w' κ' :=
  ⟨h.below.trans ⟨hs.os, hs.tape, hs.output, hs.size, fun k hk => hs.block k (Nat.lt_of_lt_of_le hk h.below.size) (h.old k hk)⟩, fun k hk => (hs.col k (Nat.lt_of_lt_of_le hk h.below.size) (h.old k hk)).trans (h.old k hk)⟩
theorem Pst.of_below {K : Nat → Prop} {κ : Nat → Nat} {c : Nat} {w w' : World} (h : Below w.heap.size w w') : Pst K κ w w' (paint κ w.heap.size c) :=
  ⟨h.os, h.tape, h.output, h.size, fun k hk _ => h.block k hk, fun _ hk _ => paint_old _ _ _ _ hk⟩
theorem Step.refl (κ : Nat → Nat) (c : Nat) (w : World) : Step κ c w w κ := ⟨rfl, rfl, rfl, Nat.le_refl _, fun _ _ _ => rfl, fun _ _ => rfl⟩
theorem Pst.zero9 {κ κ1 : Nat → Nat} {w w1 : World} (h : Pst E9 κ w w1 κ1) : Pst O0 κ w w1 κ1 := h.weak.zero
/-- While states are looked at: -1 so far; two lists. -/
structure Cl1 (d : List Au.St) (w0 w : World) (κ : Nat → Nat) (n p bo ba i k : Nat) (vf vo : Value) : Prop where
  cls : ClsS n w p κ { Au.Cls.none with of := fun j => if j < k then -1 else 0 } [] bo ba (.slice none 0 0) (.slice none 0 0) (.slice none 0 0)
  fin : RowC κ 2 w 3 1 vf (Au.finTo d i).length (natsV (Au.finTo d i))
  oth : RowC κ 4 w 3 1 vo (Au.othTo d i).length (natsV (Au.othTo d i))
  base : Base w0 w κ
section
variable {d : List Au.St} {w0 w w' : World} {κ κ' : Nat → Nat} {n p bo ba i k : Nat} {vf vo : Value}
theorem Cl1.zero (h : Cl1 d w0 w κ n p bo ba i k vf vo) (hb : Below w.heap.size w w') : Cl1 d w0 w' (paint κ w.heap.size 0) n p bo ba i k vf vo :=
  ⟨h.cls.step (Step.of_below hb) rfl, h.fin.step (Step.of_below hb) (by decide), h.oth.step (Step.of_below hb) (by decide), h.base.pst (Pst.of_below hb)⟩
theorem Cl1.mark (h : Cl1 d w0 w κ n p bo ba i i vf vo) (hi : i < n) : (w.frozen? ⟨bo, i, none⟩ = false ∧ w.cell? ⟨bo, i, none⟩ = some (.int .i64 0)) ∧ Cl1 d w0 (w.setCell ⟨bo, i, none⟩ (.int .i64 (-1))) κ n p bo ba i (i + 1) vf vo := by
  obtain ⟨⟨f1, c1⟩, h1, p1⟩ := h.cls.setOf i (-1) hi
  refine ⟨⟨f1, by simpa using c1⟩, ?_, p1.row h.fin (.inl rfl), p1.row h.oth (.inl rfl), h.base.pst p1.zero9⟩
  have e : (fun j => if j = i then (-1 : Int) else (if j < i then (-1 : Int) else 0)) = fun j => if j < i + 1 then (-1 : Int) else 0 := funext fun j => by
    by_cases e : j = i
    · subst e; rw [if_pos rfl, if_pos (by omega)]
    · rw [if_neg e]
      by_cases h2 : j < i
      · rw [if_pos h2, if_pos (by omega)]
      · rw [if_neg h2, if_neg (by omega)]
  have := h1
  dsimp only at this
  rw [e] at this
  exact this
theorem Cl1.skip (h : Cl1 d w0 w κ n p bo ba i (i + 1) vf vo) (hf : (Au.ofL d).fin i = false) (ha : Au.aliveB d i = false) : Cl1 d w0 w κ n p bo ba (i + 1) (i + 1) vf vo := by
  have e1 : Au.finTo d (i + 1) = Au.finTo d i := by rw [Au.finTo_next, if_neg (by rw [hf]; decide)]
  have e2 : Au.othTo d (i + 1) = Au.othTo d i := by rw [Au.othTo_next, if_neg (by rw [ha]; simp)]
  exact ⟨h.cls, by rw [e1]; exact h.fin, by rw [e2]; exact h.oth, h.base⟩
theorem Cl1.addF {g m cp : Nat} (h : Cl1 d w0 w κ n p bo ba i (i + 1) vf vo) (hf : (Au.ofL d).fin i = true) (hm : m = (Au.finTo d i).length + 1)
    (hr : RowC κ' 2 w' 3 1 (.slice (some ⟨g, 0, none⟩) m cp) m (natsV (Au.finTo d i) ++ [.int .i64 (i : Int)])) (hs : Step κ 2 w w' κ') :
    Cl1 d w0 w' κ' n p bo ba (i + 1) (i + 1) (.slice (some ⟨g, 0, none⟩) m cp) vo ∧ m = (Au.finTo d (i + 1)).length := by
  have e1 : Au.finTo d (i + 1) = Au.finTo d i ++ [i] := by rw [Au.finTo_next, if_pos hf]
  have e2 : Au.othTo d (i + 1) = Au.othTo d i := by rw [Au.othTo_next, if_neg (by rw [hf]; simp)]
  have e3 : (Au.finTo d i ++ [i]).length = m := by rw [List.length_append]; exact hm.symm
  refine ⟨⟨h.cls.step hs rfl, ?_, by rw [e2]; exact h.oth.step hs (by decide), h.base.pst (Pst.of_step hs (by unfold O0; decide))⟩, by rw [e1, e3]⟩
  rw [e1, e3, ← natsV_snoc]
  exact hr
theorem Cl1.addO {g m cp : Nat} (h : Cl1 d w0 w κ n p bo ba i (i + 1) vf vo) (hf : (Au.ofL d).fin i = false) (ha : Au.aliveB d i = true) (hm : m = (Au.othTo d i).length + 1)
    (hr : RowC κ' 4 w' 3 1 (.slice (some ⟨g, 0, none⟩) m cp) m (natsV (Au.othTo d i) ++ [.int .i64 (i : Int)])) (hs : Step κ 4 w w' κ') :
    Cl1 d w0 w' κ' n p bo ba (i + 1) (i + 1) vf (.slice (some ⟨g, 0, none⟩) m cp) ∧ m = (Au.othTo d (i + 1)).length := by
  have e1 : Au.finTo d (i + 1) = Au.finTo d i := by rw [Au.finTo_next, if_neg (by rw [hf]; decide)]
  have e2 : Au.othTo d (i + 1) = Au.othTo d i ++ [i] := by rw [Au.othTo_next, if_pos ⟨hf, ha⟩]
  have e3 : (Au.othTo d i ++ [i]).length = m := by rw [List.length_append]; exact hm.symm
  refine ⟨⟨h.cls.step hs rfl, by rw [e1]; exact h.fin.step hs (by decide), ?_, h.base.pst (Pst.of_step hs (by unfold O0; decide))⟩, by rw [e2, e3]⟩
  rw [e2, e3, ← natsV_snoc]
  exact hr
/-- Its beginning: three new blocks. -/
theorem cl1_start (d : List Au.St) (w : World) (n bo ba : Nat) (h : (bo = w.heap.size ∧ ba = w.heap.size + 1) ∨ (bo = w.heap.size + 1 ∧ ba = w.heap.size)) :
    Cl1 d w (((w.alloc (.cells (madeCells #[.int .i64 0] n) 3)).alloc (.cells (madeCells #[.int .i64 0] n) 3)).alloc (.cells #[.slice (some ⟨bo, 0, none⟩) n n, .slice (some ⟨ba, 0, none⟩) n n, .slice none 0 0, .slice none 0 0, .slice none 0 0] 110)).drew
      (fun k => if k = bo then 1 else if k = ba then 3 else if k = w.heap.size + 2 then 5 else 0) n (w.heap.size + 2) bo ba 0 0 (.slice none 0 0) (.slice none 0 0) := by
  have r1 : (w.alloc (.cells (madeCells #[.int .i64 0] n) 3)).rowIs w.heap.size 3 n (fun _ => .int .i64 0) := World.rowIs_made w _ n _
  have r2 : ((w.alloc (.cells (madeCells #[.int .i64 0] n) 3)).alloc (.cells (madeCells #[.int .i64 0] n) 3)).rowIs (w.heap.size + 1) 3 n (fun _ => .int .i64 0) := by
    have := World.rowIs_made (w.alloc (.cells (madeCells #[.int .i64 0] n) 3)) (.int .i64 0) n 3
    simpa using this
  have r1' := ((r1.alloc (.cells (madeCells #[.int .i64 0] n) 3)).alloc (.cells #[.slice (some ⟨bo, 0, none⟩) n n, .slice (some ⟨ba, 0, none⟩) n n, .slice none 0 0, .slice none 0 0, .slice none 0 0] 110)).drew
  have r2' := (r2.alloc (.cells #[.slice (some ⟨bo, 0, none⟩) n n, .slice (some ⟨ba, 0, none⟩) n n, .slice none 0 0, .slice none 0 0, .slice none 0 0] 110)).drew
  have hbo : ((((w.alloc (.cells (madeCells #[.int .i64 0] n) 3)).alloc (.cells (madeCells #[.int .i64 0] n) 3)).alloc (.cells #[.slice (some ⟨bo, 0, none⟩) n n, .slice (some ⟨ba, 0, none⟩) n n, .slice none 0 0, .slice none 0 0, .slice none 0 0] 110)).drew).rowIs bo 3 n (fun _ => .int .i64 0) := by
    rcases h with ⟨rfl, _⟩ | ⟨rfl, _⟩
    · exact r1'
    · exact r2'
  have hba : ((((w.alloc (.cells (madeCells #[.int .i64 0] n) 3)).alloc (.cells (madeCells #[.int .i64 0] n) 3)).alloc (.cells #[.slice (some ⟨bo, 0, none⟩) n n, .slice (some ⟨ba, 0, none⟩) n n, .slice none 0 0, .slice none 0 0, .slice none 0 0] 110)).drew).rowIs ba 3 n (fun _ => .int .i64 0) := by
    rcases h with ⟨_, rfl⟩ | ⟨_, rfl⟩
    · exact r2'
    · exact r1'
  have hp := Go.Deep.blk_alloc_new ((w.alloc (.cells (madeCells #[.int .i64 0] n) 3)).alloc (.cells (madeCells #[.int .i64 0] n) 3)) (.cells #[.slice (some ⟨bo, 0, none⟩) n n, .slice (some ⟨ba, 0, none⟩) n n, .slice none 0 0, .slice none 0 0, .slice none 0 0] 110)
  have hsz : ((w.alloc (.cells (madeCells #[.int .i64 0] n) 3)).alloc (.cells (madeCells #[.int .i64 0] n) 3)).heap.size = w.heap.size + 2 := by simp
  rw [hsz] at hp
  refine ⟨⟨hp, ?_, hbo, if_pos rfl, hba, ?_, RowC.nil _ _ _ _ _, rfl, fun c hc => by simp at hc, RowC.nil _ _ _ _ _, RowC.nil _ _ _ _ _⟩, RowC.nil _ _ _ _ _, RowC.nil _ _ _ _ _, ?_, fun k hk => ?_⟩
  · show (if _ then _ else _) = _
    rw [if_neg (by omega), if_neg (by omega), if_pos rfl]
  · show (if _ then _ else _) = _
    rw [if_neg (by omega), if_pos rfl]
  · exact ((((Below.refl _ _).alloc (Nat.le_refl _) _).alloc (by simp) _).alloc (by simp; omega) _).drew
  · show (if _ then _ else _) = _
    rw [if_neg (by omega), if_neg (by omega), if_neg (by omega)]
end
end Go.Proofs.YthhfmcikfdagiaaDoor
